import PyProof.Rows.All
import Wide.All
import OpenK.AllK
import Wide.FinOn
import HandS.ForMost
import HandS.ForExc
import HandS.IsInst
import HandS.ExcIs
import HandS.Wide
import HandS.Defaults
import HandS.CallSlots
import HandS.MakeKwOnly
import HandS.Head0
import HandS.Head1
import HandS.Head2
import HandS.HeadEnd
import HandS.HeadHook1
import HandS.HeadHook2
import HandS.HeadHook3
import HandS.HeadHook4
import HandS.Evl
import HandS.MakeKw
import HandS.Sort
import HandS.SortOrd
import HandS.SortRule
import HandS.SortInts
import HandS.NamedTupSort
import HandS.Deep
import HandS.Set
import HandS.Strs
import HandS.SetFor
import HandS.Conv
import HandS.TupMul
import HandS.Dict
import PySem.Challenge.RW_leadlight_k01_turns_and_steps
set_option Elab.async false
set_option linter.all false
set_option maxRecDepth 100000
set_option maxHeartbeats 4400000
namespace Lw
open PySem.Spec PySem L2 PyProof.Rows
abbrev Fg := PySem.W.Frag
section
variable {α β : Type} {a x : α} {l m : List α}
theorem mem_or (h : x ∈ l ++ m) : x ∈ l ∨ x ∈ m := List.mem_append.mp h
theorem mem_1 (h : x ∈ [a]) : x = a := List.mem_singleton.mp h
theorem mem_c (h : x ∈ a :: l) : x = a ∨ x ∈ l := List.mem_cons.mp h
theorem len_snoc : (l ++ [a]).length = l.length + 1 := List.length_append
theorem len_mr {n : Nat} {f : Nat → β} : ((List.range n).map f).length = n := by simp
theorem getD_q {i : Nat} : l.getD i a = (l[i]?).getD a := List.getD_eq_getElem?_getD
end
theorem ifF {p q : Prop} : (if false = true then p else q) = q := if_neg Bool.false_ne_true
/-! ### heaps: G the part that stays, H the whole -/
-- one heap within another: the library's
open Evl (Ex Ex.refl Ex.trans Ex.new ex_rd ex_l ex_t)
theorem _root_.Evl.Ex.off {H H' : Hp} {p : Addr} (e : Ex H H') (h : H' p = none) : H p = none := by
  cases h1 : H p with
  | none => rfl
  | some o =>
    rw [e p o h1] at h
    cases h

def join (G G2 : Hp) : Hp := fun a => match G a with
  | some o => some o
  | none => G2 a
theorem join_l {G G2 : Hp} : Ex G (join G G2) := fun a o h => by
  show (match G a with
    | some o => some o
    | none => G2 a) = some o
  rw [h]
theorem join_r {G G2 H : Hp} (e : Ex G H) (e2 : Ex G2 H) : Ex G2 (join G G2) := fun a o h => by
  show (match G a with
    | some o => some o
    | none => G2 a) = some o
  cases q : G a with
  | none => exact h
  | some u =>
    have z := e a u q
    rw [e2 a o h] at z
    exact z.symm
theorem join_of {G G2 H : Hp} (e : Ex G H) (e2 : Ex G2 H) : Ex (join G G2) H := fun a o h => by
  have h' : (match G a with
    | some o => some o
    | none => G2 a) = some o := h
  cases q : G a with
  | none =>
    rw [q] at h'
    exact e2 a o h'
  | some u =>
    rw [q] at h'
    exact e a o (q.trans h')
theorem join_none {G G2 : Hp} {a : Addr} (h : G a = none) (h2 : G2 a = none) : join G G2 a = none := by
  show (match G a with
    | some o => some o
    | none => G2 a) = none
  rw [h]
  exact h2
/-! ### the heap: G the part that stays, b the law's bag, H the whole -/
/-- B: where the law's bag of numbers stands, and the list of its cells, which stays -/
abbrev Bg := Option (Addr × Addr)
def Cel (K : Fg) (B : Bg) (G : Hp) : Prop := ∀ b c, B = some (b, c) → ∃ ns : List Int, SqL K G c (ns.map V.int)
def Bag (B : Bg) (G H : Hp) : Prop := ∀ b c, B = some (b, c) → (G b = none ∧ c ≠ b) ∧ ∃ i r m : Int, H b = some (.lst [.ref c, .int i, .int r, .int m]) ∧ 0 ≤ i
def isB (B : Bg) (a : Addr) : Prop := ∃ c, B = some (a, c)
structure Ok (K : Fg) (B : Bg) (G H : Hp) : Prop where
  e : Ex G H
  c : Cel K B G
  b : Bag B G H
structure Ext (K : Fg) (B : Bg) (G H G2 H2 : Hp) : Prop where
  gg : Ex G G2
  hh : ∀ a o, ¬ isB B a → H a = some o → H2 a = some o
  fr : ∀ a o, H a = some o → G a = none → G2 a = none
  ok : Ok K B G2 H2
section
variable {K : Fg} {B : Bg} {G G' H G1 H1 G2 H2 : Hp} {p : Addr} {o : HO}
theorem Cel.mono (e : Ex G G2) (h : Cel K B G) : Cel K B G2 := fun b c q => by
  obtain ⟨ns, z⟩ := h b c q
  exact ⟨ns, ex_l e z⟩
theorem Bag.ne (h : Bag B G H) (hp : H p = none) : ¬ isB B p := fun ⟨c, q⟩ => by
  obtain ⟨_, i, r, m, z, _⟩ := h p c q
  rw [hp] at z
  cases z
theorem Bag.keep (h : Bag B G H) (hg : ∀ a, isB B a → G a = none → G2 a = none) (q : ∀ a o, isB B a → H a = some o → H2 a = some o) : Bag B G2 H2 := fun b c z => by
  obtain ⟨g, i, r, m, e, k⟩ := h b c z
  exact ⟨⟨hg b ⟨c, z⟩ g.1, g.2⟩, i, r, m, q b _ ⟨c, z⟩ e, k⟩
theorem Ext.refl (h : Ok K B G H) : Ext K B G H G H := ⟨Ex.refl G, fun _ _ _ h => h, fun _ _ _ h => h, h⟩
theorem Ext.trans (a : Ext K B G H G1 H1) (b : Ext K B G1 H1 G2 H2) : Ext K B G H G2 H2 :=
  ⟨a.gg.trans b.gg, fun x o n h => b.hh x o n (a.hh x o n h), fun x o h g => by
    have g1 := a.fr x o h g
    by_cases c : isB B x
    · obtain ⟨y, q⟩ := c
      exact (b.ok.b x y q).1.1
    · exact b.fr x o (a.hh x o c h) g1, b.ok⟩
theorem ex_upd (e : Ex G H) : Ex (upd G p o) (upd H p o) := fun a u h => by
  by_cases c : a = p
  · subst c
    rw [upd_same] at h ⊢
    exact h
  · rw [upd_ne c] at h ⊢
    exact e a u h
theorem Bag.upd (h : Bag B G H) (hp : ¬ isB B p) : Bag B G (upd H p o) := h.keep (fun _ _ g => g) fun a u z q => by
  rw [upd_ne (show a ≠ p from fun c => hp (by rw [← c]; exact z))]
  exact q
theorem Ok.new (h : Ok K B G H) (hp : H p = none) : Ok K B (upd G p o) (upd H p o) := ⟨ex_upd h.e, h.c.mono (Ex.new (h.e.off hp)), (h.b.upd (h.b.ne hp)).keep (fun a z g => by
  rw [upd_ne (show a ≠ p from fun c => h.b.ne hp (by rw [← c]; exact z))]
  exact g) fun _ _ _ q => q⟩
theorem Ok.loose (h : Ok K B G H) (hp : H p = none) : Ok K B G (upd H p o) := ⟨h.e.trans (Ex.new hp), h.c, h.b.upd (h.b.ne hp)⟩
theorem Ext.new (e : Ok K B G H) (hp : H p = none) : Ext K B G H (upd G p o) (upd H p o) :=
  ⟨Ex.new (e.e.off hp), fun a u _ h => Ex.new hp a u h, fun a u h g => by
    rw [upd_ne (ne_of_none h hp)]
    exact g, e.new hp⟩
/-- a new object that may change later on -/
theorem Ext.loose (e : Ok K B G H) (hp : H p = none) : Ext K B G H G (upd H p o) :=
  ⟨Ex.refl G, fun a u _ h => Ex.new hp a u h, fun _ _ _ g => g, e.loose hp⟩
theorem Ok.less (e : Ex G G') (c : Cel K B G) (h : Ok K B G' H) : Ok K B G H := ⟨e.trans h.e, c, h.b.keep (fun a _ g => e.off g) fun _ _ _ q => q⟩
theorem Ext.wide (e : Ex G G') (h : Ok K B G' H) (x : Ext K B G H G2 H2) : Ext K B G' H (join G' G2) H2 ∧ Ex G2 (join G' G2) := by
  have z : Ex G' H2 := fun a o q => x.hh a o (fun ⟨c, k⟩ => by
    rw [(h.b a c k).1.1] at q
    cases q) (h.e a o q)
  refine ⟨⟨join_l, x.hh, fun a o q g => join_none g (x.fr a o q (e.off g)), ⟨join_of z x.ok.e, h.c.mono join_l, x.ok.b.keep (fun a ⟨c, k⟩ g => ?_) fun _ _ _ q => q⟩⟩, join_r z x.ok.e⟩
  exact join_none (h.b a c k).1.1 g
/-- an object outside of G may change -/
theorem Ok.mut (e : Ok K B G H) (hg : G p = none) (hb : ¬ isB B p) : Ok K B G (upd H p o) := ⟨fun a w h => by
  rw [upd_ne (ne_of_none h hg)]
  exact e.e a w h, e.c, e.b.upd hb⟩
end
/-! ### data -/
mutual
theorem dp_mono {K : Fg} {H H' : Hp} (e : Ex H H') : ∀ {v : V} {d : PyData}, Dp K H v d → Dp K H' v d
  | _, _, .non => .non
  | _, _, .bl b => .bl b
  | _, _, .int i => .int i
  | _, _, .str x => .str x
  | _, _, .lst h a => .lst (ex_l e h) (dpAll_mono e a)
  | _, _, .tup h a => .tup (ex_t e h) (dpAll_mono e a)
theorem dpAll_mono {K : Fg} {H H' : Hp} (e : Ex H H') : ∀ {vs : List V} {ds : List PyData}, DpAll K H vs ds → DpAll K H' vs ds
  | _, _, .nil => .nil
  | _, _, .cons h a => .cons (dp_mono e h) (dpAll_mono e a)
end
section
variable {K : Fg} {H : Hp} {v : V} {vs : List V} {ds : List PyData} {d : PyData}
theorem dp_int {i : Int} (h : Dp K H v (.int i)) : v = .int i := by cases h; rfl
theorem dp_bl {b : Bool} (h : Dp K H v (.bool b)) : v = .bl b := by cases h; rfl
theorem dp_non (h : Dp K H v .none) : v = .non := by cases h; rfl
theorem dp_str {x : Str} (h : Dp K H v (.str x)) : v = .str x := by cases h; rfl
theorem dp_tup (h : Dp K H v (.tuple ds)) : ∃ a xs, v = .ref a ∧ SqT K H a xs ∧ DpAll K H xs ds := by
  cases h with
  | tup h a => exact ⟨_, _, rfl, h, a⟩
theorem dp_lst (h : Dp K H v (.list ds)) : ∃ a xs, v = .ref a ∧ SqL K H a xs ∧ DpAll K H xs ds := by
  cases h with
  | lst h a => exact ⟨_, _, rfl, h, a⟩
theorem dpAll_len : ∀ {vs : List V} {ds : List PyData}, DpAll K H vs ds → vs.length = ds.length
  | _, _, .nil => rfl
  | _, _, .cons _ a => congrArg Nat.succ (dpAll_len a)
theorem dpAll_get : ∀ {vs : List V} {ds : List PyData} {i : Nat} {d : PyData}, DpAll K H vs ds → ds[i]? = some d → ∃ v, vs[i]? = some v ∧ Dp K H v d
  | _, _, 0, _, .cons h _, e => ⟨_, rfl, by cases (Option.some.inj e); exact h⟩
  | _, _, i + 1, d, .cons _ a, e => dpAll_get (i := i) a e
theorem dpAll_at : ∀ {vs : List V} {ds : List PyData} {i : Nat} {v : V}, DpAll K H vs ds → vs[i]? = some v → ∃ d, ds[i]? = some d ∧ Dp K H v d
  | _, _, 0, _, .cons h _, e => ⟨_, rfl, by cases (Option.some.inj e); exact h⟩
  | _, _, i + 1, d, .cons _ a, e => dpAll_at (i := i) a e
theorem dpAll_app : ∀ {vs us : List V} {ds es : List PyData}, DpAll K H vs ds → DpAll K H us es → DpAll K H (vs ++ us) (ds ++ es)
  | _, _, _, _, .nil, h => h
  | _, _, _, _, .cons a b, h => .cons a (dpAll_app b h)
theorem dpAll_ints : ∀ (ns : List Int), DpAll K H (ns.map V.int) (ns.map PyData.int)
  | [] => .nil
  | n :: r => .cons (.int n) (dpAll_ints r)
theorem atI_dp {i : Int} (h : DpAll K H vs ds) (e : atI ds i = some d) : ∃ v, atI vs i = some v ∧ Dp K H v d := by
  unfold atI at e ⊢
  rw [dpAll_len h]
  cases q : ixN ds.length i with
  | none =>
    rw [q] at e
    cases e
  | some j =>
    rw [q] at e
    exact dpAll_get h e
end
/-! ### what evaluates to which data -/
def Ret (K : Fg) (B : Bg) (G H : Hp) (Q : VK) (d : PyData) : Prop := ∀ v G2 H2, Ext K B G H G2 H2 → Dp K G2 v d → Q v H2
def Rai (K : Fg) (B : Bg) (G H : Hp) (E : XK) (C : Addr) : Prop := ∀ G2 H2, Ext K B G H G2 H2 → E (.ref C) none H2
def EvD (K : Fg) (B : Bg) (te : TE) (σ : L2.St) (G : Hp) (d : PyData) : Prop := ∀ H, Ok K B G H → ∀ Q : VK, Ret K B G H Q d → te σ H Q
def EvB (K : Fg) (B : Bg) (tt : TT) (σ : L2.St) (G : Hp) (b : Bool) : Prop := ∀ H, Ok K B G H → ∀ Q : Bool → Hp → Prop, (∀ G2 H2, Ext K B G H G2 H2 → Q b H2) → tt σ H Q
def EvA (K : Fg) (B : Bg) (ta : TA) (σ : L2.St) (G : Hp) (ds : List PyData) : Prop := ∀ H, Ok K B G H → ∀ Q : List V → Hp → Prop, (∀ vs G2 H2, Ext K B G H G2 H2 → DpAll K G2 vs ds → Q vs H2) → ta σ H Q
def EvO (K : Fg) (B : Bg) (to : TO) (σ : L2.St) (G : Hp) (o : Option Int) : Prop := ∀ H, Ok K B G H → ∀ Q : Option Int → Hp → Prop, (∀ G2 H2, Ext K B G H G2 H2 → Q o H2) → to σ H Q
section
variable {K : Fg} {B : Bg} {σ : L2.St} {G G' H : Hp} {te ta tb tc : TE} {tt tu : TT} {tr : TA} {d x y z : PyData} {ds : List PyData} {r r' : R2} {b c : Bool}
theorem EvD.mono (e : Ex G G') (c : Cel K B G) (h : EvD K B te σ G d) : EvD K B te σ G' d := fun H eH Q q =>
  h H (eH.less e c) Q fun v G2 H2 X dv => by
    obtain ⟨X2, e2⟩ := X.wide e eH
    exact q v _ H2 X2 (dp_mono e2 dv)
theorem EvB.mono (e : Ex G G') (c : Cel K B G) (h : EvB K B tt σ G b) : EvB K B tt σ G' b := fun H eH Q q =>
  h H (eH.less e c) Q fun G2 H2 X => q _ H2 (X.wide e eH).1
theorem EvA.mono (e : Ex G G') (c : Cel K B G) (h : EvA K B tr σ G ds) : EvA K B tr σ G' ds := fun H eH Q q =>
  h H (eH.less e c) Q fun v G2 H2 X dv => by
    obtain ⟨X2, e2⟩ := X.wide e eH
    exact q v _ H2 X2 (dpAll_mono e2 dv)
theorem Ret.mono {Q : VK} {G1 H1 : Hp} (X : Ext K B G H G1 H1) (h : Ret K B G H Q d) : Ret K B G1 H1 Q d := fun v G2 H2 X2 dv => h v G2 H2 (X.trans X2) dv
theorem Ret.here {Q : VK} {v : V} (h : Ret K B G H Q d) (e : Ok K B G H) (dv : Dp K G v d) : Q v H := h v G H (Ext.refl e) dv
theorem ed_var {i : Nat} {v : V} (h : σ[i]? = some (some v)) (dv : Dp K G v d) : EvD K B (tVar i) σ G d := fun H e Q q => ⟨v, h, q.here e dv⟩
theorem ed_c {v : V} (dv : Dp K G v d) : EvD K B (tC v) σ G d := fun H e Q q => q.here e dv
theorem ed_int {i : Int} : EvD K B (tC (.int i)) σ G (.int i) := ed_c (.int i)
theorem ed_bl {i : Bool} : EvD K B (tC (.bl i)) σ G (.bool i) := ed_c (.bl i)
theorem ed_non : EvD K B (tC .non) σ G .none := ed_c .non
theorem ed_str {i : Str} : EvD K B (tC (.str i)) σ G (.str i) := ed_c (.str i)
/-- what an operation on values gives -/
def RvD (K : Fg) (B : Bg) (r : R2) (G : Hp) (x y z : PyData) : Prop := ∀ u v G2 H2, Ex G G2 → Ok K B G2 H2 → Dp K G2 u x → Dp K G2 v y → ∀ Q, Ret K B G2 H2 Q z → r u v H2 Q
theorem ed_op (ha : EvD K B ta σ G x) (hb : EvD K B tb σ G y) (hr : RvD K B r G x y z) : EvD K B (tOp r ta tb) σ G z := fun H e Q q =>
  ha H e _ fun u G2 H2 X2 d2 => hb.mono X2.gg e.c H2 X2.ok _ fun v G3 H3 X3 d3 =>
    hr u v G3 H3 (X2.gg.trans X3.gg) X3.ok (dp_mono X3.gg d2) d3 Q (q.mono (X2.trans X3))
theorem ed_un {r : V → Hp → VK → Prop} (ha : EvD K B ta σ G x) (hr : ∀ u G2 H2, Ex G G2 → Ok K B G2 H2 → Dp K G2 u x → ∀ Q, Ret K B G2 H2 Q z → r u H2 Q) : EvD K B (tUn r ta) σ G z := fun H e Q q =>
  ha H e _ fun u G2 H2 X2 d2 => hr u G2 H2 X2.gg X2.ok d2 Q (q.mono X2)
theorem rd_I0 {g : Int → Int → Int} {i j : Int} : RvD K B (rI0 fun i j => .int (g i j)) G (.int i) (.int j) (.int (g i j)) := fun u v G2 H2 _ e du dv Q q => ⟨i, j, dp_int du, dp_int dv, q.here e (.int _)⟩
theorem rd_B0 {g : Int → Int → Bool} {i j : Int} : RvD K B (rI0 fun i j => .bl (g i j)) G (.int i) (.int j) (.bool (g i j)) := fun u v G2 H2 _ e du dv Q q => ⟨i, j, dp_int du, dp_int dv, q.here e (.bl _)⟩
theorem rd_I {C : Int → Int → Prop} {g : Int → Int → Int} {i j : Int} (hc : C i j) : RvD K B (rI C fun i j => .int (g i j)) G (.int i) (.int j) (.int (g i j)) := fun u v G2 H2 _ e du dv Q q => ⟨i, j, dp_int du, dp_int dv, hc, q.here e (.int _)⟩
theorem rd_ixT {i : Int} (h : atI ds i = some d) : RvD K B (rIxT K) G (.tuple ds) (.int i) d := fun u v G2 H2 _ e du dv Q q => by
  obtain ⟨a, xs, rfl, hs, hx⟩ := dp_tup du
  obtain ⟨w, hw, dw⟩ := atI_dp hx h
  exact ⟨a, xs, i, w, rfl, dp_int dv, ex_t e.e hs, hw, q.here e dw⟩
theorem rd_ixL {i : Int} (h : atI ds i = some d) : RvD K B (rIxL K) G (.list ds) (.int i) d := fun u v G2 H2 _ e du dv Q q => by
  obtain ⟨a, xs, rfl, hs, hx⟩ := dp_lst du
  obtain ⟨w, hw, dw⟩ := atI_dp hx h
  exact ⟨a, xs, i, w, rfl, dp_int dv, ex_l e.e hs, hw, q.here e dw⟩
def scalD : PyData → PyData → Bool
  | .none, .none => true
  | .none, .int _ => true
  | .int _, .none => true
  | .none, .bool _ => true
  | .bool _, .none => true
  | .none, .str _ => true
  | .str _, .none => true
  | .int _, .int _ => true
  | .bool _, .bool _ => true
  | .str _, .str _ => true
  | .int _, .str _ => true
  | .str _, .int _ => true
  | .bool _, .str _ => true
  | .str _, .bool _ => true
  | _, _ => false
def vOf : PyData → V
  | .none => .non
  | .bool b => .bl b
  | .int i => .int i
  | .str x => .str x
  | _ => .non
theorem rd_eq (h : scalD x y = true) : RvD K B rEq G x y (.bool (decide (vOf x = vOf y))) := fun u v G2 H2 _ e du dv Q q => by
  cases du <;> cases dv <;> first
    | exact ⟨rfl, q.here e (.bl _)⟩
    | exact Bool.noConfusion h
theorem rd_ne (h : scalD x y = true) : RvD K B rNe G x y (.bool (!decide (vOf x = vOf y))) := fun u v G2 H2 _ e du dv Q q => by
  cases du <;> cases dv <;> first
    | exact ⟨rfl, q.here e (.bl _)⟩
    | exact Bool.noConfusion h
theorem ed_chain {k1 k2 : Bool} (ha : EvD K B ta σ G x) (hb : EvD K B tb σ G y) (hc : k1 = true → EvD K B tc σ G z) (hr : RvD K B r G x y (.bool k1)) (hr' : k1 = true → RvD K B r' G y z (.bool k2)) : EvD K B (tChain r r' ta tb tc) σ G (.bool (k1 && k2)) := fun H e Q q =>
  ha H e _ fun u G2 H2 X2 d2 => hb.mono X2.gg e.c H2 X2.ok _ fun v G3 H3 X3 d3 =>
    hr u v G3 H3 (X2.gg.trans X3.gg) X3.ok (dp_mono X3.gg d2) d3 _ fun w G4 H4 X4 d4 => by
      refine ⟨k1, dp_bl d4, ?_⟩
      have X := X2.trans (X3.trans X4)
      cases k1 with
      | true =>
        rw [if_pos rfl]
        exact (hc rfl).mono X.gg e.c H4 X.ok _ fun w5 G5 H5 X5 d5 => hr' rfl v w5 G5 H5 (X.gg.trans X5.gg) X5.ok (dp_mono (X4.gg.trans X5.gg) d3) d5 Q (q.mono (X.trans X5))
      | false =>
        rw [ifF]
        exact q _ G4 H4 X (.bl false)
theorem eb_test (h : EvD K B te σ G (.bool b)) : EvB K B (tTest te) σ G b := fun H e Q q => h H e _ fun v G2 H2 X dv => ⟨b, dp_bl dv, q G2 H2 X⟩
theorem eb_B (h : EvD K B te σ G (.bool b)) : EvB K B (tB te) σ G b := fun H e Q q => h H e _ fun v G2 H2 X dv => ⟨b, dp_bl dv, q G2 H2 X⟩
theorem eb_not (h : EvB K B tt σ G b) : EvB K B (tNot tt) σ G (!b) := fun H e Q q => h H e _ fun G2 H2 X => q G2 H2 X
theorem eb_and (h : EvB K B tt σ G b) (h2 : b = true → EvB K B tu σ G c) : EvB K B (tAnd tt tu) σ G (b && c) := fun H e Q q => h H e _ fun G2 H2 X => by
  cases b with
  | true =>
    rw [if_pos rfl]
    exact (h2 rfl).mono X.gg e.c H2 X.ok Q fun G3 H3 X3 => q G3 H3 (X.trans X3)
  | false =>
    rw [ifF]
    exact q G2 H2 X
theorem eb_or (h : EvB K B tt σ G b) (h2 : b = false → EvB K B tu σ G c) : EvB K B (tOr tt tu) σ G (b || c) := fun H e Q q => h H e _ fun G2 H2 X => by
  cases b with
  | true =>
    rw [if_pos rfl]
    exact q G2 H2 X
  | false =>
    rw [ifF]
    exact (h2 rfl).mono X.gg e.c H2 X.ok Q fun G3 H3 X3 => q G3 H3 (X.trans X3)
theorem ed_andV (h : EvD K B ta σ G (.bool b)) (h2 : b = true → EvD K B tb σ G (.bool c)) : EvD K B (tAndV ta tb) σ G (.bool (b && c)) := fun H e Q q => h H e _ fun v G2 H2 X dv => by
  refine ⟨b, dp_bl dv, ?_⟩
  cases b with
  | true =>
    rw [if_pos rfl]
    exact (h2 rfl).mono X.gg e.c H2 X.ok Q (q.mono X)
  | false =>
    rw [ifF]
    exact q _ G2 H2 X (.bl _)
theorem ed_orV (h : EvD K B ta σ G (.bool b)) (h2 : b = false → EvD K B tb σ G (.bool c)) : EvD K B (tOrV ta tb) σ G (.bool (b || c)) := fun H e Q q => h H e _ fun v G2 H2 X dv => by
  refine ⟨b, dp_bl dv, ?_⟩
  cases b with
  | true =>
    rw [if_pos rfl]
    exact q _ G2 H2 X (.bl _)
  | false =>
    rw [ifF]
    exact (h2 rfl).mono X.gg e.c H2 X.ok Q (q.mono X)
theorem ed_notV (h : EvD K B ta σ G (.bool b)) : EvD K B (tNotV ta) σ G (.bool (!b)) := fun H e Q q => h H e _ fun v G2 H2 X dv => ⟨b, dp_bl dv, q _ G2 H2 X (.bl _)⟩
theorem ed_if (h : EvB K B tt σ G b) (h1 : b = true → EvD K B ta σ G d) (h2 : b = false → EvD K B tb σ G d) : EvD K B (tIf tt ta tb) σ G d := fun H e Q q => h H e _ fun G2 H2 X => by
  cases b with
  | true =>
    rw [if_pos rfl]
    exact (h1 rfl).mono X.gg e.c H2 X.ok Q (q.mono X)
  | false =>
    rw [ifF]
    exact (h2 rfl).mono X.gg e.c H2 X.ok Q (q.mono X)
theorem ed_is (h : EvD K B te σ G d) (e : d = x) : EvD K B te σ G x := e ▸ h
theorem eb_is (h : EvB K B tt σ G b) (e : b = c) : EvB K B tt σ G c := e ▸ h
theorem ea_nil : EvA K B tNil σ G [] := fun H e Q q => q [] G H (Ext.refl e) .nil
theorem ea_cons (h : EvD K B ta σ G d) (hr : EvA K B tr σ G ds) : EvA K B (tCons ta tr) σ G (d :: ds) := fun H e Q q =>
  h H e _ fun v G2 H2 X dv => hr.mono X.gg e.c H2 X.ok _ fun vs G3 H3 X3 dvs => q _ G3 H3 (X.trans X3) (.cons (dp_mono X3.gg dv) dvs)
theorem sz {n : Nat} (h : n ≤ 100000) : n ≤ sizeLine := Nat.le_trans h (by decide)
theorem szl {n : Nat} (h : n < 100000) : n < sizeLine := Nat.lt_of_lt_of_le h (by decide)
theorem ed_tup (h : EvA K B tr σ G ds) (hl : ds.length ≤ 100000) : EvD K B (tTup tr) σ G (.tuple ds) := fun H e Q q =>
  h H e _ fun vs G2 H2 X dv => ⟨by rw [dpAll_len dv]; exact sz hl, fun p hp =>
    q _ _ _ (X.trans (Ext.new X.ok hp)) (.tup (SqT.of upd_same) (dpAll_mono (Ex.new (X.ok.e.off hp)) dv))⟩
theorem ed_lst (h : EvA K B tr σ G ds) (hl : ds.length ≤ 100000) : EvD K B (tLst tr) σ G (.list ds) := fun H e Q q =>
  h H e _ fun vs G2 H2 X dv => ⟨by rw [dpAll_len dv]; exact sz hl, fun p hp =>
    q _ _ _ (X.trans (Ext.new X.ok hp)) (.lst (SqL.of upd_same) (dpAll_mono (Ex.new (X.ok.e.off hp)) dv))⟩
/-- a call of an own def -/
theorem ed_call {sp : Sp} {dvs : List V} {E : XK} (ha : EvA K B tr σ G ds) (hs : ∀ vs G2 H2, Ex G G2 → Ok K B G2 H2 → DpAll K G2 vs ds → ∀ Q, Ret K B G2 H2 Q d → sp (vs ++ dvs) H2 Q E) : EvD K B (tCall sp dvs E tr) σ G d := fun H e Q q =>
  ha H e _ fun vs G2 H2 X dv => hs vs G2 H2 X.gg X.ok dv Q (q.mono X)
/-- a call of a builtin -/
theorem ed_cb {r : List V → Hp → VK → Prop} (ha : EvA K B tr σ G ds) (hs : ∀ vs G2 H2, Ex G G2 → Ok K B G2 H2 → DpAll K G2 vs ds → ∀ Q, Ret K B G2 H2 Q d → r vs H2 Q) : EvD K B (tCB r tr) σ G d := fun H e Q q =>
  ha H e _ fun vs G2 H2 X dv => hs vs G2 H2 X.gg X.ok dv Q (q.mono X)
/-! ### statements -/
variable {D : Ends} {t u : TS}
theorem st_set {i : Nat} (h : EvD K B te σ G d) (e : Ok K B G H) (k : ∀ v G2 H2, Ext K B G H G2 H2 → Dp K G2 v d → D.nx (σ.set i (some v)) H2) : tAsg te (gName i) D σ H := h H e _ fun v G2 H2 X dv => k v G2 H2 X dv
theorem sq_set {i : Nat} (h : EvD K B te σ G d) (e : Ok K B G H) (k : ∀ v G2 H2, Ext K B G H G2 H2 → Dp K G2 v d → u D (σ.set i (some v)) H2) : tSeq (tAsg te (gName i)) u D σ H := h H e _ fun v G2 H2 X dv => k v G2 H2 X dv
theorem st_ret (h : EvD K B te σ G d) (e : Ok K B G H) (k : Ret K B G H D.rt d) : tRet te D σ H := h H e _ k
theorem st_if (h : EvB K B tt σ G b) (e : Ok K B G H) (k1 : b = true → ∀ G2 H2, Ext K B G H G2 H2 → t D σ H2) (k2 : b = false → ∀ G2 H2, Ext K B G H G2 H2 → u D σ H2) : tIfS tt t u D σ H := h H e _ fun G2 H2 X => by
  cases b with
  | true =>
    rw [if_pos rfl]
    exact k1 rfl G2 H2 X
  | false =>
    rw [ifF]
    exact k2 rfl G2 H2 X
theorem sq_if {w : TS} (h : EvB K B tt σ G b) (e : Ok K B G H) (k1 : b = true → ∀ G2 H2, Ext K B G H G2 H2 → t { D with nx := w D } σ H2) (k2 : b = false → ∀ G2 H2, Ext K B G H G2 H2 → u { D with nx := w D } σ H2) : tSeq (tIfS tt t u) w D σ H := st_if h e k1 k2
theorem sq_drop (h : EvD K B te σ G d) (e : Ok K B G H) (k : ∀ G2 H2, Ext K B G H G2 H2 → u D σ H2) : tSeq (tDrop te) u D σ H := h H e _ fun v G2 H2 X _ => k G2 H2 X
end
end Lw

namespace Lw
open PySem.Spec PySem L2 PyProof.Rows
open Evl (Ex Ex.refl Ex.trans Ex.new Ex.off ex_rd ex_l ex_t)
/-! ### own defs by their promises -/
structure Good (P : Program) (w : World) (K : Fg) (mg : Str → Option Value) (base : Heap) (CX : CXT) (k : Nat) (x : Str) (ps : List Str) (dvs : List V) (sp : Sp) : Prop where
  ex : ∃ fd ds, FnOk P w K mg base CX k (He.ga K x) fd ps sp ∧ Vals dvs ds ∧ Binds K fd ps ds
  g : mg x = some (.ref (He.ga K x))
  kp : PySem.W.keepIn K (.ref (He.ga K x)) = true
structure GoodK (P : Program) (w : World) (K : Fg) (mg : Str → Option Value) (base : Heap) (CX : CXT) (k : Nat) (x : Str) (ps : List Str) (n : Nat) (ks : List Str) (gV : List V → List V → List V) (sp : Sp) : Prop where
  ex : ∃ fd g, FnOk P w K mg base CX k (He.ga K x) fd ps sp ∧ KBn K fd ps n ks g gV
  g : mg x = some (.ref (He.ga K x))
  kp : PySem.W.keepIn K (.ref (He.ga K x)) = true
section
variable {X : Cx} {CX : CXT} {k n : Nat} {ps ks : List Str} {sp : Sp} {E : XK} {x : Str} {p pos : Pos} {e : Expr} {es : List Expr} {kws : List Keyword} {t tk : TA} {dvs : List V} {gV : List V → List V → List V}
/-- what is seen of the text of a call by places -/
structure Tx1 (X : Cx) (pos : Pos) (x : Str) (e : Expr) (es : List Expr) : Prop where
  nm : (x == ("__debug__" : Str)) = false
  fst : starEach (e :: es) X.env = (false, eval e X.env) :: starEach es X.env
  no : (backTo pos (starEach es X.env)).any (·.1) = false
/-- and of one by names -/
structure Tx2 (X : Cx) (pos : Pos) (kws : List Keyword) (ks : List Str) : Prop where
  all : (backToKw pos (keywordEach kws X.env)).all (·.1.isSome) = true
  nms : (backToKw pos (keywordEach kws X.env)).filterMap (·.1) = ks
theorem pe_own (F : Good X.prog X.w X.K X.mg X.base CX k x ps dvs sp) (hr : Room k X.A) (hg : Gl X x) (hx : Passes CX X E) (ha : PA X (e :: es) t)
    (tx : Tx1 X pos x e es := by exact ⟨by decide, by rfl, by rfl⟩) : PE X (.Call (.Name x p) (e :: es) [] pos) (tCall sp dvs E t) := by
  obtain ⟨fd, ds, G, r, b⟩ := F.ex
  exact pe_call G hr hg F.g F.kp b r hx ha tx.nm tx.fst tx.no
theorem pe_ownS {E : L2.St → XK} (F : Good X.prog X.w X.K X.mg X.base CX k x ps dvs sp) (hr : Room k X.A) (hg : Gl X x) (hx : ∀ σ, PassesAt CX X σ (E σ)) (ha : PA X (e :: es) t)
    (tx : Tx1 X pos x e es := by exact ⟨by decide, by rfl, by rfl⟩) : PE X (.Call (.Name x p) (e :: es) [] pos) (tCallSD sp dvs E t) := by
  obtain ⟨fd, ds, G, r, b⟩ := F.ex
  exact pe_callSD G hr hg F.g F.kp b r hx ha tx.nm tx.fst tx.no
theorem pe_ownK (F : GoodK X.prog X.w X.K X.mg X.base CX k x ps n ks gV sp) (hr : Room k X.A) (hg : Gl X x) (hx : Passes CX X E) (ha : PA X (e :: es) t) (hkw : PK X kws tk)
    (tx : Tx1 X pos x e es := by exact ⟨by decide, by rfl, by rfl⟩) (ty : Tx2 X pos kws ks := by exact ⟨by rfl, by rfl⟩)
    (tz : ((backTo pos (starEach (e :: es) X.env)).any (·.1) || (backToKw pos (keywordEach kws X.env)).any (·.1.isNone)) = false := by rfl) : PE X (.Call (.Name x p) (e :: es) kws pos) (tCallN n ks.length sp gV E t tk) := by
  obtain ⟨fd, g, G, b⟩ := F.ex
  exact pe_callN G hr hg F.g F.kp b hx ha hkw ty.all ty.nms tx.nm tx.fst tz
theorem pe_ownK0 (F : GoodK X.prog X.w X.K X.mg X.base CX k x ps 0 ks gV sp) (hr : Room k X.A) (hg : Gl X x) (hx : Passes CX X E) (hkw : PK X kws tk) (nm : (x == ("__debug__" : Str)) = false := by decide) (ty : Tx2 X pos kws ks := by exact ⟨by rfl, by rfl⟩)
    (tz : ((backTo pos (starEach [] X.env)).any (·.1) || (backToKw pos (keywordEach kws X.env)).any (·.1.isNone)) = false := by rfl) : PE X (.Call (.Name x p) [] kws pos) (tCallN 0 ks.length sp gV E tNil tk) := by
  obtain ⟨fd, g, G, b⟩ := F.ex
  constructor
  intro pins s σ H Q I h
  refine wpAny_Call_Name_kw (ld_glob I hg F.g (PySem.W.callWith_KW0 (h₀ := X.base) I.ok.mod.kin F.kp ty.all ?_ tz) nm)
  refine thn (hkw.run pos pins s σ H _ I h) ?_
  rintro ws s2 ⟨zs, H2, I2, rz, l1, l2, q2⟩
  rw [ty.nms]
  exact ⟨I2.kIn, run_fnN (us := []) (vs := []) G hr b hx I2 .nil rz rfl l2 q2⟩
end
end Lw
namespace L2
open PySem.Spec PySem PyProof.Rows
/-- what isinstance of a caught error of the class at D wants -/
def excCB (K : PySem.W.Frag) (D : Addr) : Bool :=
  He.eqO (PySem.W.findIn K (.ref D) "__getattribute__") (some (some (.builtin "BaseException.__getattribute__"))) && (He.eqO (PySem.W.findIn K (.ref D) "__getattr__") (some none) && (decide (PySem.W.subIn K (.ref D) (.type "BaseException") = some true) && (PySem.W.hasDictIn K D && (He.eqO (PySem.W.findIn K (.ref D) "__class__") (some (some (.builtin "object.__class__"))) && (He.eqO (PySem.W.specialIn K (.builtin "object.__class__") "__get__") (some (some (.builtin "getset_descriptor.__get__"))) && (decide (PySem.W.takesIn K (.builtin "object.__class__") = some true) && decide (PySem.W.mroIn K D (.type "object") = some true)))))))
theorem excC_of {K : PySem.W.Frag} {D : Addr} (h : excCB K D = true) : ExcC K D := by
  obtain ⟨h1, h⟩ := He.ba h
  obtain ⟨h2, h⟩ := He.ba h
  obtain ⟨h3, h⟩ := He.ba h
  obtain ⟨h4, h⟩ := He.ba h
  obtain ⟨h5, h⟩ := He.ba h
  obtain ⟨h6, h⟩ := He.ba h
  obtain ⟨h7, h8⟩ := He.ba h
  exact ⟨He.eqO_ok h1, He.eqO_ok h2, of_decide_eq_true h3, h4, He.eqO_ok h5, He.eqO_ok h6, of_decide_eq_true h7, of_decide_eq_true h8⟩
end L2

namespace Lw
open PySem.Spec PySem L2 PyProof.Rows
open Evl (Ex Ex.refl Ex.trans Ex.new Ex.off ex_rd ex_l ex_t)
section
variable {K : Fg} {B : Bg} {σ : L2.St} {G G' H : Hp} {te ta tb tc : TE} {tt tu : TT} {tr : TA} {d x y z : PyData} {ds es : List PyData} {r r' : R2} {b c : Bool}
/-! ### kinds -/
def tyD : PyData → String
  | .none => "NoneType"
  | .bool _ => "bool"
  | .int _ => "int"
  | .str _ => "str"
  | .list _ => "list"
  | .tuple _ => "tuple"
  | .dict _ => "dict"
theorem tyX_of {v : V} (e : Ex G H) (h : Dp K G v d) : TyX K H v (.type (tyD d)) := by
  cases h with
  | non => exact .base .non
  | bl b => exact .base (.bl b)
  | int i => exact .base (.int i)
  | str x => exact .base (.str x)
  | lst h a =>
    rcases h with (h | ⟨o, h⟩) | ⟨o, its, n, hk, hc, _⟩
    · exact .base (.lst (e _ _ h))
    · exact .base (.frz (e _ _ h))
    · exact .kList hk hc
  | tup h a =>
    rcases h with (h | ⟨o, h⟩) | ⟨o, its, n, hk, hc, _⟩
    · exact .base (.tup (e _ _ h))
    · exact .fTuple (e _ _ h)
    · exact .kTuple hk hc
theorem ed_isi {n : String} (h : EvD K B ta σ G d) (hk : kitB (tyD d) n = some b) : EvD K B (tCB (rIsi K) (tCons ta (tCons (tC (.ty n)) tNil))) σ G (.bool b) := fun H e Q q =>
  h H e _ fun v G2 H2 X dv => ⟨v, .ty n, .type (tyD d), .type n, b, rfl, .ty n, tyX_of X.ok.e dv, kit_ty hk, q _ G2 H2 X (.bl b)⟩
abbrev rLenS (K : Fg) : List V → Hp → VK → Prop := fun xs H Q => ∃ p ys, xs = [.ref p] ∧ (SqL K H p ys ∨ SqT K H p ys) ∧ Q (.int ys.length) H
abbrev rListS (K : Fg) : List V → Hp → VK → Prop := fun xs H Q => ∃ p ys, xs = [.ref p] ∧ (SqL K H p ys ∨ SqT K H p ys) ∧ ∀ l, H l = none → Q (.ref l) (upd H l (.lst ys))
abbrev rTupS (K : Fg) : List V → Hp → VK → Prop := fun xs H Q => ∃ p ys, xs = [.ref p] ∧ ((SqL K H p ys ∧ ∀ l, H l = none → Q (.ref l) (upd H l (.tup ys))) ∨ (SqT K H p ys ∧ Q (.ref p) H))
def lenD : PyData → Option Nat
  | .list ds => some ds.length
  | .tuple ds => some ds.length
  | _ => none
theorem ed_len {n : Nat} (h : EvD K B ta σ G d) (hl : lenD d = some n) : EvD K B (tCB (rLenS K) (tCons ta tNil)) σ G (.int (n : Int)) := fun H e Q q =>
  h H e _ fun v G2 H2 X dv => by
    cases dv with
    | lst hs a =>
      have e1 := dpAll_len a
      have e2 : n = _ := (Option.some.inj hl).symm
      refine ⟨_, _, rfl, .inl (ex_l X.ok.e hs), q _ G2 H2 X ?_⟩
      rw [e1, e2]
      exact .int _
    | tup hs a =>
      have e1 := dpAll_len a
      have e2 : n = _ := (Option.some.inj hl).symm
      refine ⟨_, _, rfl, .inr (ex_t X.ok.e hs), q _ G2 H2 X ?_⟩
      rw [e1, e2]
      exact .int _
    | _ => cases hl
def isNon : PyData → Bool
  | .none => true
  | _ => false
theorem rd_isN : RvD K B (fun x y H Q => y = .non ∧ Q (.bl (decide (x = .non))) H) G d .none (.bool (isNon d)) := fun u v G2 H2 _ e du dv Q q => ⟨dp_non dv, by
  have z : decide (u = .non) = isNon d := by cases du <;> rfl
  rw [z]
  exact q.here e (.bl _)⟩
theorem rd_notN : RvD K B (fun x y H Q => y = .non ∧ Q (.bl (!decide (x = .non))) H) G d .none (.bool (!isNon d)) := fun u v G2 H2 _ e du dv Q q => ⟨dp_non dv, by
  have z : decide (u = .non) = isNon d := by cases du <;> rfl
  rw [z]
  exact q.here e (.bl _)⟩
theorem rd_eqD (h1 : SeqAt.shaped x = true) (h2 : SeqAt.shaped y = true) : RvD K B (rEqD K) G x y (.bool (PyData.eqv x y)) := fun u v G2 H2 _ e du dv Q q => ⟨x, y, dp_mono e.e du, dp_mono e.e dv, h1, h2, q.here e (.bl _)⟩
theorem rd_neD (h1 : SeqAt.shaped x = true) (h2 : SeqAt.shaped y = true) : RvD K B (rNeD K) G x y (.bool (!PyData.eqv x y)) := fun u v G2 H2 _ e du dv Q q => ⟨x, y, dp_mono e.e du, dp_mono e.e dv, h1, h2, q.here e (.bl _)⟩
theorem rd_ixSL {i : Int} (h : atI ds i = some d) : RvD K B (rIx K) G (.list ds) (.int i) d := fun u v G2 H2 g e du dv Q q => .inl (rd_ixL (B := B) h u v G2 H2 g e du dv Q q)
theorem rd_ixST {i : Int} (h : atI ds i = some d) : RvD K B (rIx K) G (.tuple ds) (.int i) d := fun u v G2 H2 g e du dv Q q => .inr (.inl (rd_ixT (B := B) h u v G2 H2 g e du dv Q q))
/-! ### parts of tuples and lists -/
def cutD (ds : List PyData) (lo hi : Option Int) : List PyData := (ds.drop (HT.sIx ds.length 0 lo)).take (HT.sIx ds.length ds.length hi - HT.sIx ds.length 0 lo)
theorem dpAll_drop : ∀ {vs : List V} {ds : List PyData} (n : Nat), DpAll K H vs ds → DpAll K H (vs.drop n) (ds.drop n)
  | _, _, 0, h => h
  | _, _, _ + 1, .nil => .nil
  | _, _, n + 1, .cons _ a => dpAll_drop n a
theorem dpAll_take : ∀ {vs : List V} {ds : List PyData} (n : Nat), DpAll K H vs ds → DpAll K H (vs.take n) (ds.take n)
  | _, _, 0, _ => .nil
  | _, _, _ + 1, .nil => .nil
  | _, _, n + 1, .cons h a => .cons h (dpAll_take n a)
theorem dpAll_cut {vs : List V} {lo hi : Option Int} (h : DpAll K H vs ds) : DpAll K H (cutV vs lo hi) (cutD ds lo hi) := by
  unfold cutV cutD
  rw [dpAll_len h]
  exact dpAll_take _ (dpAll_drop _ h)
theorem eo_none : EvO K B tNoPart σ G none := fun H e Q q => q G H (Ext.refl e)
theorem EvO.mono {to : TO} {o : Option Int} (e : Ex G G') (c : Cel K B G) (h : EvO K B to σ G o) : EvO K B to σ G' o := fun H eH Q q => h H (eH.less e c) Q fun G2 H2 X => q _ H2 (X.wide e eH).1
theorem eo_some {i : Int} (h : EvD K B te σ G (.int i)) : EvO K B (tPart te) σ G (some i) := fun H e Q q => h H e _ fun v G2 H2 X dv => ⟨i, dp_int dv, q G2 H2 X⟩
theorem ed_slT {tl th : TO} {lo hi : Option Int} (h : EvD K B te σ G (.tuple ds)) (h1 : EvO K B tl σ G lo) (h2 : EvO K B th σ G hi) (hn : ¬ (HT.sIx ds.length 0 lo = 0 ∧ HT.sIx ds.length ds.length hi = ds.length)) :
    EvD K B (tSl (rSlT K) te tl th) σ G (.tuple (cutD ds lo hi)) := fun H e Q q =>
  h H e _ fun v G2 H2 X dv => h1.mono X.gg e.c H2 X.ok _ fun G3 H3 X3 => h2.mono (X.gg.trans X3.gg) e.c H3 X3.ok _ fun G4 H4 X4 => by
    obtain ⟨a, xs, rfl, hs, hx⟩ := dp_tup (dp_mono (X3.gg.trans X4.gg) dv)
    have Y := X.trans (X3.trans X4)
    refine ⟨a, xs, rfl, ex_t X4.ok.e hs, ?_, fun p hp => q _ _ _ (Y.trans (Ext.new Y.ok hp)) (.tup (SqT.of upd_same) (dpAll_mono (Ex.new (Y.ok.e.off hp)) (dpAll_cut hx)))⟩
    rw [dpAll_len hx]
    exact hn
theorem ed_slL {tl th : TO} {lo hi : Option Int} (h : EvD K B te σ G (.list ds)) (h1 : EvO K B tl σ G lo) (h2 : EvO K B th σ G hi) :
    EvD K B (tSl (rSlL K) te tl th) σ G (.list (cutD ds lo hi)) := fun H e Q q =>
  h H e _ fun v G2 H2 X dv => h1.mono X.gg e.c H2 X.ok _ fun G3 H3 X3 => h2.mono (X.gg.trans X3.gg) e.c H3 X3.ok _ fun G4 H4 X4 => by
    obtain ⟨a, xs, rfl, hs, hx⟩ := dp_lst (dp_mono (X3.gg.trans X4.gg) dv)
    have Y := X.trans (X3.trans X4)
    exact ⟨a, xs, rfl, ex_l X4.ok.e hs, fun p hp => q _ _ _ (Y.trans (Ext.new Y.ok hp)) (.lst (SqL.of upd_same) (dpAll_mono (Ex.new (Y.ok.e.off hp)) (dpAll_cut hx)))⟩
theorem rd_catT (h0 : ds ≠ []) (h1 : es ≠ []) (hl : ds.length + es.length ≤ 100000) : RvD K B (rCatT K) G (.tuple ds) (.tuple es) (.tuple (ds ++ es)) := fun u v G2 H2 _ e du dv Q q => by
  obtain ⟨a, xs, rfl, hs, hx⟩ := dp_tup du
  obtain ⟨a', ys, rfl, hs', hy⟩ := dp_tup dv
  refine ⟨a, a', xs, ys, rfl, rfl, ex_t e.e hs, ex_t e.e hs', fun z => ?_, ?_, fun z => ?_, fun _ p hp => ?_⟩
  · subst z
    cases hx
    exact h0 rfl
  · rw [dpAll_len hx, dpAll_len hy]
    exact sz hl
  · subst z
    cases hy
    exact absurd rfl h1
  · exact q _ _ _ (Ext.new e hp) (.tup (SqT.of upd_same) (dpAll_mono (Ex.new (e.e.off hp)) (dpAll_app hx hy)))
/-- a list made anew, outside of what stays -/
def RetF (K : Fg) (B : Bg) (G H : Hp) (Q : VK) (ds : List PyData) : Prop := ∀ p xs G2 H2, Ext K B G H G2 H2 → H p = none → G2 p = none → ¬ isB B p → H2 p = some (.lst xs) → DpAll K G2 xs ds → Q (.ref p) H2
def EvF (K : Fg) (B : Bg) (te : TE) (σ : L2.St) (G : Hp) (ds : List PyData) : Prop := ∀ H, Ok K B G H → ∀ Q : VK, RetF K B G H Q ds → te σ H Q
theorem Ext.freeze {G2 H2 : Hp} {p : Addr} {o : HO} (X : Ext K B G H G2 H2) (hp : H p = none) (hg : G2 p = none) (hb : ¬ isB B p) (h2 : H2 p = some o) : Ext K B G H (upd G2 p o) H2 :=
  ⟨X.gg.trans (Ex.new hg), X.hh, fun a u h g => by
    rw [upd_ne (ne_of_none h hp)]
    exact X.fr a u h g, ⟨fun a u h => by
      by_cases c : a = p
      · subst c
        rw [upd_same] at h
        rw [h2, ← h]
      · rw [upd_ne c] at h
        exact X.ok.e a u h, X.ok.c.mono (Ex.new hg), X.ok.b.keep (fun a z g => by
        rw [upd_ne (show a ≠ p from fun c => hb (by rw [← c]; exact z))]
        exact g) fun _ _ _ q => q⟩⟩
theorem RetF.of {Q : VK} (h : Ret K B G H Q (.list ds)) : RetF K B G H Q ds := fun p xs G2 H2 X hp hg hb h2 a =>
  h _ _ H2 (X.freeze hp hg hb h2) (.lst (SqL.of upd_same) (dpAll_mono (Ex.new hg) a))
theorem EvF.ed (h : EvF K B te σ G ds) : EvD K B te σ G (.list ds) := fun H e Q q => h H e Q (.of q)
theorem RetF.mono {Q : VK} {G1 H1 : Hp} (X : Ext K B G H G1 H1) (h : RetF K B G H Q ds) : RetF K B G1 H1 Q ds := fun p xs G2 H2 X2 hp hg hb h2 a => h p xs G2 H2 (X.trans X2) (by
  cases q : H p with
  | none => rfl
  | some o =>
    have z := X.hh p o hb q
    rw [hp] at z
    cases z) hg hb h2 a
theorem EvF.mono (e : Ex G G') (c : Cel K B G) (h : EvF K B te σ G ds) : EvF K B te σ G' ds := fun H eH Q q =>
  h H (eH.less e c) Q fun p xs G2 H2 X hp hg hb h2 a => by
    obtain ⟨X2, e2⟩ := X.wide e eH
    exact q p xs _ H2 X2 hp (join_none (eH.e.off hp) hg) hb h2 (dpAll_mono e2 a)
theorem ef_lst (h : EvA K B tr σ G ds) (hl : ds.length ≤ 100000) : EvF K B (tLst tr) σ G ds := fun H e Q q =>
  h H e _ fun vs G2 H2 X dv => ⟨by rw [dpAll_len dv]; exact sz hl, fun p hp => by
    have nb := X.ok.b.ne hp
    refine q p vs G2 _ (X.trans (Ext.loose X.ok hp)) ?_ (X.ok.e.off hp) nb upd_same dv
    cases z : H p with
    | none => rfl
    | some o =>
      have z2 := X.hh p o nb z
      rw [hp] at z2
      cases z2⟩
theorem Ext.old {G2 H2 : Hp} {p : Addr} (X : Ext K B G H G2 H2) (nb : ¬ isB B p) (hp : H2 p = none) : H p = none := by
  cases z : H p with
  | none => rfl
  | some o =>
    have z2 := X.hh p o nb z
    rw [hp] at z2
    cases z2
/-! ### comprehensions -/
theorem range_one (j : Nat) (f : Int → Option PyData) : (List.range (j + 1)).filterMap (fun i : Nat => f (i : Int)) = (List.range j).filterMap (fun i : Nat => f (i : Int)) ++ (f (j : Int)).toList := by
  rw [List.range_succ, List.filterMap_append]
  cases h : f (j : Int) <;> simp [List.filterMap_cons, h]
theorem lc_turn {G1 H1 : Hp} {D : Addr} {xs : List V} {es : List PyData} {o : Option PyData} {σ2 : L2.St} {H3 G3 : Hp} {Nx : Hp → Prop} (hD : H1 D = none) (nb : ¬ isB B D)
    (X : Ext K B G1 H1 G3 H3) (hg : G3 D = none) (h3 : H3 D = some (.lst xs)) (hx : DpAll K G3 xs es) (hl : es.length < 100000)
    (ht : EvB K B tt σ2 G3 o.isSome) (he : ∀ d, o = some d → EvD K B te σ2 G3 d)
    (k : ∀ G4 H4 ys, Ext K B G1 H1 G4 H4 → G4 D = none → H4 D = some (.lst ys) → DpAll K G4 ys (es ++ o.toList) → Nx H4) :
    tt σ2 H3 fun b H3 => if b = true then te σ2 H3 fun y H4 => ∃ acc, H4 D = some (.lst acc) ∧ acc.length < sizeLine ∧ Nx (upd H4 D (.lst (acc ++ [y]))) else Nx H3 :=
  ht H3 X.ok _ fun G4 H4 X4 => by
    have g4 := X4.fr D _ h3 hg
    have h4 := X4.hh D _ nb h3
    have a4 := dpAll_mono X4.gg hx
    cases o with
    | none =>
      show (if false = true then _ else _)
      rw [ifF]
      refine k G4 H4 xs (X.trans X4) g4 h4 ?_
      rw [Option.toList_none, List.append_nil]
      exact a4
    | some d =>
      refine (show (if true = true then _ else _) from ?_)
      rw [if_pos rfl]
      refine (he d rfl).mono X4.gg X.ok.c H4 X4.ok _ fun y G5 H5 X5 dy => ?_
      have h5 := X5.hh D _ nb h4
      have g5 := X5.fr D _ h4 g4
      refine ⟨xs, h5, by rw [dpAll_len hx]; exact szl hl, ?_⟩
      have Y := X.trans (X4.trans X5)
      refine k G5 _ (xs ++ [y]) ⟨Y.gg, fun a u n q => ?_, Y.fr, Y.ok.mut g5 nb⟩ g5 upd_same (dpAll_app (dpAll_mono X5.gg a4) (.cons dy .nil))
      rw [upd_ne (ne_of_none q hD)]
      exact Y.hh a u n q
/-- [e for x in range(n) if t] -/
theorem ef_lcR {i : Nat} {n : Nat} {f : Int → Option PyData} (ha : EvA K B tr σ G [.int (n : Int)]) (hn : n ≤ 100000)
    (ht : ∀ j : Nat, j < n → EvB K B tt ((σ.set i none).set i (some (.int (j : Int)))) G (f j).isSome)
    (he : ∀ (j : Nat) d, j < n → f j = some d → EvD K B te ((σ.set i none).set i (some (.int (j : Int)))) G d) :
    EvF K B (tLc (iRng1 tr) (gName i) tt te [i]) σ G ((List.range n).filterMap fun j : Nat => f (j : Int)) := fun H e Q q =>
  ha H e _ fun vs G1 H1 X dv => by
    have ev : vs = [.int (n : Int)] := by
      cases dv with
      | cons h a =>
        cases a
        rw [dp_int h]
    refine ⟨(n : Int), ev, by omega, by omega, fun D hD => ?_⟩
    have nb := X.ok.b.ne hD
    show ∃ W, _
    refine lc_range (lo := 0) (n := (n : Int).toNat) (Qd := fun H => Q (.ref D) H) (fun j H' => ∃ G' xs, Ext K B G1 H1 G' H' ∧ G' D = none ∧ H' D = some (.lst xs) ∧ DpAll K G' xs ((List.range j).filterMap fun j : Nat => f (j : Int)))
      ⟨G1, [], Ext.loose X.ok hD, X.ok.e.off hD, upd_same, .nil⟩ ?_ ?_
    · rintro j H' hj ⟨G', xs, X', g', h', a'⟩
      have hj' : j < n := by omega
      have ez : (0 : Int) + (j : Int) = (j : Int) := by omega
      refine ⟨?_, ?_⟩
      · show (((σ.set i none).set i (some (.int (0 + (j : Int))))).set i none) = σ.set i none
        rw [List.set_set, List.set_set]
      · rw [ez]
        have hlen : ((List.range j).filterMap fun j : Nat => f (j : Int)).length < 100000 := by
          have z := List.length_filterMap_le (fun j : Nat => f (j : Int)) (List.range j)
          rw [List.length_range] at z
          omega
        refine lc_turn (o := f j) hD nb X' g' h' a' hlen ((ht j hj').mono (X.gg.trans X'.gg) e.c) (fun d ed => (he j d hj' ed).mono (X.gg.trans X'.gg) e.c) fun G4 H4 ys X4 g4 h4 a4 => ⟨G4, ys, X4, g4, h4, ?_⟩
        rw [range_one]
        exact a4
    · rintro H' ⟨G', xs, X', g', h', a'⟩
      have z : (n : Int).toNat = n := Int.toNat_natCast n
      rw [z] at a'
      exact q D xs G' H' (X.trans X') (X.old nb hD) g' nb h' a'
theorem take_filterMap {ds : List PyData} {f : PyData → Option PyData} {j : Nat} {d : PyData} (h : ds[j]? = some d) : (ds.take (j + 1)).filterMap f = (ds.take j).filterMap f ++ (f d).toList := by
  rw [List.take_add_one, h, List.filterMap_append]
  cases q : f d <;> simp [q]
/-- [e for x in xs if t], xs a list -/
theorem ef_lcL {i : Nat} {f : PyData → Option PyData} (ha : EvD K B ta σ G (.list ds)) (hn : ds.length ≤ 100000)
    (ht : ∀ d v G', d ∈ ds → Ex G G' → Cel K B G' → Dp K G' v d → EvB K B tt ((σ.set i none).set i (some v)) G' (f d).isSome)
    (he : ∀ d v y G', d ∈ ds → Ex G G' → Cel K B G' → Dp K G' v d → f d = some y → EvD K B te ((σ.set i none).set i (some v)) G' y) :
    EvF K B (tLc (iList K ta) (gName i) tt te [i]) σ G (ds.filterMap f) := fun H e Q q =>
  ha H e _ fun v G1 H1 X dv => by
    obtain ⟨a, xs, rfl, hs, hx⟩ := dp_lst dv
    refine ⟨a, rfl, ⟨xs, ex_l X.ok.e hs⟩, fun D hD => ?_⟩
    have nb := X.ok.b.ne hD
    show ∃ W, _
    refine lc_list (K := K) (a := a) (xs := xs) (Qd := fun H => Q (.ref D) H) (fun j H' => ∃ G' ys, Ext K B G1 H1 G' H' ∧ G' D = none ∧ H' D = some (.lst ys) ∧ DpAll K G' ys ((ds.take j).filterMap f))
      ⟨G1, [], Ext.loose X.ok hD, X.ok.e.off hD, upd_same, .nil⟩ ?_ ?_ ?_
    · rintro j H' _ ⟨G', ys, X', _⟩
      exact ex_l (X'.gg.trans X'.ok.e) hs
    · rintro j x H' hj ⟨G', ys, X', g', h', a'⟩
      obtain ⟨d, hd, dx⟩ := dpAll_at hx hj
      have md : d ∈ ds := List.mem_of_getElem? hd
      have jl : j < ds.length := (List.getElem?_eq_some_iff.mp hd).1
      refine ⟨?_, ?_⟩
      · show (((σ.set i none).set i (some x)).set i none) = σ.set i none
        rw [List.set_set, List.set_set]
      · have hlen : ((ds.take j).filterMap f).length < 100000 := by
          have z := List.length_filterMap_le f (ds.take j)
          rw [List.length_take] at z
          omega
        have c' := (e.c.mono X.gg).mono X'.gg
        refine lc_turn (o := f d) hD nb X' g' h' a' hlen (ht d x G' md (X.gg.trans X'.gg) c' (dp_mono X'.gg dx)) (fun y ey => he d x y G' md (X.gg.trans X'.gg) c' (dp_mono X'.gg dx) ey) fun G4 H4 ys X4 g4 h4 a4 => ⟨G4, ys, X4, g4, h4, ?_⟩
        rw [take_filterMap hd]
        exact a4
    · rintro H' ⟨G', ys, X', g', h', a'⟩
      rw [dpAll_len hx, List.take_length] at a'
      exact q D ys G' H' (X.trans X') (X.old nb hD) g' nb h' a'
theorem eb_yes : EvB K B tYes σ G true := fun H e Q q => q G H (Ext.refl e)
/-- all(xs), a list of truths -/
theorem dpAll_bls : ∀ {vs : List V} {bs : List Bool}, DpAll K H vs (bs.map PyData.bool) → vs = bs.map V.bl
  | _, [], .nil => rfl
  | _, b :: bs, .cons h a => by rw [dp_bl h, dpAll_bls a]; rfl
theorem dpAll_intsV : ∀ {vs : List V} {bs : List Int}, DpAll K H vs (bs.map PyData.int) → vs = bs.map V.int
  | _, [], .nil => rfl
  | _, b :: bs, .cons h a => by rw [dp_int h, dpAll_intsV a]; rfl
theorem ed_all {bs : List Bool} (h : EvD K B ta σ G (.list (bs.map PyData.bool))) : EvD K B (tCB (rAll K) (tCons ta tNil)) σ G (.bool (bs.all id)) := fun H e Q q =>
  h H e _ fun v G2 H2 X dv => by
    obtain ⟨a, xs, rfl, hs, hx⟩ := dp_lst dv
    rw [dpAll_bls hx] at hs
    exact ⟨a, bs, rfl, ex_l X.ok.e hs, q _ G2 H2 X (.bl _)⟩
theorem ed_listOf {ds : List PyData} (h : EvD K B ta σ G (.list ds)) : EvF K B (tCB (rListS K) (tCons ta tNil)) σ G ds := fun H e Q q =>
  h H e _ fun v G2 H2 X dv => by
    obtain ⟨a, xs, rfl, hs, hx⟩ := dp_lst dv
    refine ⟨a, xs, rfl, .inl (ex_l X.ok.e hs), fun l hl => ?_⟩
    have nb := X.ok.b.ne hl
    exact q l xs G2 _ (X.trans (Ext.loose X.ok hl)) (X.old nb hl) (X.ok.e.off hl) nb upd_same hx
theorem ed_listOfT {ds : List PyData} (h : EvD K B ta σ G (.tuple ds)) : EvF K B (tCB (rListS K) (tCons ta tNil)) σ G ds := fun H e Q q =>
  h H e _ fun v G2 H2 X dv => by
    obtain ⟨a, xs, rfl, hs, hx⟩ := dp_tup dv
    refine ⟨a, xs, rfl, .inr (ex_t X.ok.e hs), fun l hl => ?_⟩
    have nb := X.ok.b.ne hl
    exact q l xs G2 _ (X.trans (Ext.loose X.ok hl)) (X.old nb hl) (X.ok.e.off hl) nb upd_same hx
/-! ### a value that is not told but by what holds of it -/
def RetS (K : Fg) (B : Bg) (G H : Hp) (Q : VK) (S : PyData → Prop) : Prop := ∀ d v G2 H2, S d → Ext K B G H G2 H2 → Dp K G2 v d → Q v H2
def EvS (K : Fg) (B : Bg) (te : TE) (σ : L2.St) (G : Hp) (S : PyData → Prop) : Prop := ∀ H, Ok K B G H → ∀ Q : VK, RetS K B G H Q S → te σ H Q
theorem EvD.toS {S : PyData → Prop} (h : EvD K B te σ G d) (hs : S d) : EvS K B te σ G S := fun H e Q q => h H e Q fun v G2 H2 X dv => q d v G2 H2 hs X dv
theorem EvS.mono {S : PyData → Prop} (e : Ex G G') (c : Cel K B G) (h : EvS K B te σ G S) : EvS K B te σ G' S := fun H eH Q q =>
  h H (eH.less e c) Q fun d v G2 H2 hs X dv => by
    obtain ⟨X2, e2⟩ := X.wide e eH
    exact q d v _ H2 hs X2 (dp_mono e2 dv)
theorem es_op {S1 S2 S : PyData → Prop} (ha : EvS K B ta σ G S1) (hb : EvS K B tb σ G S2) (hr : ∀ x y, S1 x → S2 y → ∃ z, S z ∧ RvD K B r G x y z) : EvS K B (tOp r ta tb) σ G S := fun H e Q q =>
  ha H e _ fun x u G2 H2 s1 X2 d2 => hb.mono X2.gg e.c H2 X2.ok _ fun y v G3 H3 s2 X3 d3 => by
    obtain ⟨z, sz, hr'⟩ := hr x y s1 s2
    exact hr' u v G3 H3 (X2.gg.trans X3.gg) X3.ok (dp_mono X3.gg d2) d3 Q fun w G4 H4 X4 d4 => q z w G4 H4 sz (X2.trans (X3.trans X4)) d4
def EvAS (K : Fg) (B : Bg) (ta : TA) (σ : L2.St) (G : Hp) (S : List PyData → Prop) : Prop := ∀ H, Ok K B G H → ∀ Q : List V → Hp → Prop, (∀ ds vs G2 H2, S ds → Ext K B G H G2 H2 → DpAll K G2 vs ds → Q vs H2) → ta σ H Q
theorem EvAS.mono {S : List PyData → Prop} (e : Ex G G') (c : Cel K B G) (h : EvAS K B tr σ G S) : EvAS K B tr σ G' S := fun H eH Q q =>
  h H (eH.less e c) Q fun d v G2 H2 hs X dv => by
    obtain ⟨X2, e2⟩ := X.wide e eH
    exact q d v _ H2 hs X2 (dpAll_mono e2 dv)
theorem eas_nil {S : List PyData → Prop} (h : S []) : EvAS K B tNil σ G S := fun H e Q q => q [] [] G H h (Ext.refl e) .nil
theorem eas_cons {S1 : PyData → Prop} {S : List PyData → Prop} (ha : EvS K B ta σ G S1) (hr : ∀ d, S1 d → EvAS K B tr σ G (fun ds => S (d :: ds))) : EvAS K B (tCons ta tr) σ G S := fun H e Q q =>
  ha H e _ fun d v G2 H2 s1 X dv => (hr d s1).mono X.gg e.c H2 X.ok _ fun ds vs G3 H3 s2 X3 dvs => q (d :: ds) (v :: vs) G3 H3 s2 (X.trans X3) (.cons (dp_mono X3.gg dv) dvs)
theorem es_lst {S : List PyData → Prop} (h : EvAS K B tr σ G S) (hl : ∀ ds, S ds → ds.length ≤ 100000) : EvS K B (tLst tr) σ G (fun d => ∃ ds, d = .list ds ∧ S ds) := fun H e Q q =>
  h H e _ fun ds vs G2 H2 s X dv => ⟨by rw [dpAll_len dv]; exact sz (hl ds s), fun p hp =>
    q _ _ _ _ ⟨ds, rfl, s⟩ (X.trans (Ext.new X.ok hp)) (.lst (SqL.of upd_same) (dpAll_mono (Ex.new (X.ok.e.off hp)) dv))⟩
variable {D : Ends} {t u : TS}
theorem sq_setS {i : Nat} {S : PyData → Prop} (h : EvS K B te σ G S) (e : Ok K B G H) (k : ∀ d v G2 H2, S d → Ext K B G H G2 H2 → Dp K G2 v d → u D (σ.set i (some v)) H2) : tSeq (tAsg te (gName i)) u D σ H := h H e _ fun d v G2 H2 s X dv => k d v G2 H2 s X dv
/-- a, b = e -/
theorem sq_unpack {n : Nat} {g : TGs} (h : EvD K B te σ G (.tuple ds)) (e : Ok K B G H) (hl : ds.length = n) (k : ∀ vs G2 H2, Ext K B G H G2 H2 → DpAll K G2 vs ds → g vs σ H2 (u D)) : tSeq (tAsg te (gTup K n g)) u D σ H :=
  h H e _ fun v G2 H2 X dv => by
    obtain ⟨a, xs, rfl, hs, hx⟩ := dp_tup dv
    exact ⟨a, xs, rfl, ex_t X.ok.e hs, (dpAll_len hx).trans hl, k xs G2 H2 X hx⟩
end
end Lw

namespace Lw
open PySem.Spec PySem L2 PyProof.Rows
open Evl (Ex Ex.refl Ex.trans Ex.new Ex.off ex_rd ex_l ex_t)
theorem pss_when {X : Cx} {st : List Stmt} {t : TS} {p : Prop} (h : p → PSs X st t) : PSs X st (fun D σ H => p ∧ t D σ H) := ⟨fun pins s σ H D I hw => (h hw.1).run pins s σ H D I hw.2⟩
theorem pss_ex {X : Cx} {st : List Stmt} {α : Type} {t : α → TS} {p : α → Prop} (h : ∀ a, p a → PSs X st (t a)) : PSs X st (fun D σ H => ∃ a, p a ∧ t a D σ H) := ⟨fun pins s σ H D I ⟨a, hp, hw⟩ => (h a hp).run pins s σ H D I hw⟩
section
variable {K : Fg} {B : Bg} {σ : L2.St} {G G' H : Hp} {te ta tb tc : TE} {tt tu : TT} {tr : TA} {d x y z : PyData} {ds es : List PyData} {r r' : R2} {b c : Bool} {D : Ends} {t u : TS}
/-- the ends of a loop's turn -/
def lpE (D : Ends) (u : TS) (N : L2.St → Hp → Prop) : Ends := { D with nx := N, ct := N, bk := u D }
/-- for x in xs, a list -/
theorem sq_forL {i : Nat} {Pv : Nat → L2.St → Hp → Hp → Prop} (h : EvD K B te σ G (.list ds)) (e : Ok K B G H) (h0 : ∀ G2 H2, Ext K B G H G2 H2 → Pv 0 σ G2 H2)
    (hs : ∀ G1 H1, Ext K B G H G1 H1 → ∀ (j : Nat) d v σ' G' H', ds[j]? = some d → Ext K B G1 H1 G' H' → Pv j σ' G' H' → Dp K G' v d →
      t (lpE D u fun σ2 H2 => ∃ G2, Ext K B G1 H1 G2 H2 ∧ Pv (j + 1) σ2 G2 H2) (σ'.set i (some v)) H')
    (hd : ∀ σ' G' H', Ext K B G H G' H' → Pv ds.length σ' G' H' → u D σ' H') : tSeq (tFor (iList K te) (gName i) t) u D σ H :=
  h H e _ fun v G1 H1 X dv => by
    obtain ⟨a, xs, rfl, hl, hx⟩ := dp_lst dv
    refine ⟨a, rfl, ⟨xs, ex_l X.ok.e hl⟩, for_list (K := K) (a := a) (xs := xs) (fun j σ' H' => ∃ G', Ext K B G1 H1 G' H' ∧ Pv j σ' G' H') ⟨G1, Ext.refl X.ok, h0 G1 H1 X⟩ ?_ ?_ ?_⟩
    · rintro j σ' H' _ ⟨G', X', _⟩
      exact ex_l (X'.gg.trans X'.ok.e) hl
    · rintro j y σ' H' hj ⟨G', X', p⟩
      obtain ⟨d, hd', dy⟩ := dpAll_at hx hj
      exact hs G1 H1 X j d y σ' G' H' hd' X' p (dp_mono X'.gg dy)
    · rintro σ' H' ⟨G', X', p⟩
      rw [dpAll_len hx] at p
      exact hd σ' G' H' (X.trans X') p
/-- for x in range(n) -/
theorem sq_forR {i n : Nat} {Pv : Nat → L2.St → Hp → Hp → Prop} (h : EvA K B tr σ G [.int (n : Int)]) (hn : n ≤ 100000) (e : Ok K B G H) (h0 : ∀ G2 H2, Ext K B G H G2 H2 → Pv 0 σ G2 H2)
    (hs : ∀ G1 H1, Ext K B G H G1 H1 → ∀ (j : Nat) σ' G' H', j < n → Ext K B G1 H1 G' H' → Pv j σ' G' H' →
      t (lpE D u fun σ2 H2 => ∃ G2, Ext K B G1 H1 G2 H2 ∧ Pv (j + 1) σ2 G2 H2) (σ'.set i (some (.int (j : Int)))) H')
    (hd : ∀ σ' G' H', Ext K B G H G' H' → Pv n σ' G' H' → u D σ' H') : tSeq (tFor (iRng1 tr) (gName i) t) u D σ H :=
  h H e _ fun vs G1 H1 X dv => by
    have ev : vs = [.int (n : Int)] := dpAll_intsV (bs := [(n : Int)]) dv
    refine ⟨(n : Int), ev, by omega, by omega, for_range (lo := 0) (n := (n : Int).toNat) (fun j σ' H' => ∃ G', Ext K B G1 H1 G' H' ∧ Pv j σ' G' H') ⟨G1, Ext.refl X.ok, h0 G1 H1 X⟩ ?_ ?_⟩
    · rintro j σ' H' hj ⟨G', X', p⟩
      have ez : (0 : Int) + (j : Int) = (j : Int) := by omega
      have z := hs G1 H1 X j σ' G' H' (by omega) X' p
      rw [← ez] at z
      exact z
    · rintro σ' H' ⟨G', X', p⟩
      rw [Int.toNat_natCast] at p
      exact hd σ' G' H' (X.trans X') p
theorem eas_of {S : List PyData → Prop} (h : EvA K B tr σ G ds) (hs : S ds) : EvAS K B tr σ G S := fun H e Q q => h H e Q fun vs G2 H2 X dv => q ds vs G2 H2 hs X dv
theorem es_is {S S' : PyData → Prop} (h : EvS K B te σ G S) (hs : ∀ d, S d → S' d) : EvS K B te σ G S' := fun H e Q q => h H e Q fun d v G2 H2 s X dv => q d v G2 H2 (hs d s) X dv
theorem lg {u : Int} (h0 : 0 < u) (h : u < 2 ^ 250) : u.natAbs.log2 < 9000 := Nat.lt_of_lt_of_le (PySem.Flt.log2_lt_of (k := 250) (by decide) (by omega)) (by decide)
theorem ed_isF (h : EvF K B te σ G ds) (e : ds = es) : EvF K B te σ G es := e ▸ h
theorem sq_ifN {w : TS} (h : EvB K B tt σ G b) (e : Ok K B G H) (k1 : b = true → ∀ G2 H2, Ext K B G H G2 H2 → t { D with nx := w D } σ H2) (k2 : b = false → ∀ G2 H2, Ext K B G H G2 H2 → w D σ H2) : tSeq (tIfS tt t tNext) w D σ H := st_if h e k1 k2
theorem st_ifD {b : Bool} (h : EvB K B tt σ G b) (e : Ok K B G H) (k : b = true → ∀ G2 H2, Ext K B G H G2 H2 → t D σ H2) (k2 : b = false → ∀ G2 H2, Ext K B G H G2 H2 → D.nx σ H2) : tIfS tt t tNext D σ H := st_if h e k k2
/-- a list of the same item, [x] * n -/
theorem rd_rep {n : Nat} (hl : ds.length * n ≤ 100000) (hn : n ≤ 100000) : ∀ {te : TE} {tb : TE}, EvF K B te σ G ds → EvD K B tb σ G (.int (n : Int)) → EvF K B (tOp rRep te tb) σ G (List.replicate n ds).flatten := fun {te tb} ha hb H e Q q =>
  ha H e _ fun p xs G2 H2 X hp hg nb h2 a => hb.mono X.gg e.c H2 X.ok _ fun v G3 H3 X3 d3 => by
    have h3 := X3.hh p _ nb h2
    refine ⟨p, (n : Int), xs, rfl, dp_int d3, h3, by omega, by omega, ?_, fun l hl2 => ?_⟩
    · rw [dpAll_len a, Int.toNat_natCast]
      exact sz hl
    · have Y := X.trans X3
      have nb2 := Y.ok.b.ne hl2
      refine q l _ G3 _ (Y.trans (Ext.loose Y.ok hl2)) (Y.old nb2 hl2) (Y.ok.e.off hl2) nb2 upd_same ?_
      rw [Int.toNat_natCast]
      have key : ∀ n : Nat, DpAll K G3 (List.replicate n xs).flatten (List.replicate n ds).flatten := fun n => by
        induction n with
        | zero => exact .nil
        | succ n ih =>
          simp only [List.replicate_succ, List.flatten_cons]
          exact dpAll_app (dpAll_mono X3.gg a) ih
      exact key n
theorem ed_callN {n m : Nat} {sp : Sp} {gV : List V → List V → List V} {E : XK} {tk : TA} (ha : EvA K B tr σ G ds) (hk : EvA K B tk σ G es) (hn : ds.length = n) (hm : es.length = m)
    (hs : ∀ vs zs G2 H2, Ex G G2 → Ok K B G2 H2 → DpAll K G2 vs ds → DpAll K G2 zs es → ∀ Q, Ret K B G2 H2 Q d → sp (gV vs zs) H2 Q E) : EvD K B (tCallN n m sp gV E tr tk) σ G d := fun H e Q q =>
  ha H e _ fun vs G2 H2 X dv => hk.mono X.gg e.c H2 X.ok _ fun zs G3 H3 X3 dz =>
    ⟨(dpAll_len dv).trans hn, (dpAll_len dz).trans hm, hs vs zs G3 H3 (X.gg.trans X3.gg) X3.ok (dpAll_mono X3.gg dv) dz Q ((q.mono X).mono X3)⟩
end
end Lw

namespace Lw
open PySem.Spec PySem L2 PyProof.Rows
open Evl (Ex Ex.refl Ex.trans Ex.new Ex.off ex_rd ex_l ex_t)
section
variable {s : Shared} {prog : Program} {w : World} {A : Around} {E : Value → Shared → Prop}
/-! ### sorted of tuples of ints, of any length, any number of them -/
theorem kat_lexL {b : Bool} {Q : Bool → Shared → Prop} : ∀ {xs ys : List Value} {ns ms : List Int} (i : Nat), IntsAre xs ns → IntsAre ys ms → Q (HT.lexLt ns ms) s →
    PySem.W.KatLex prog w A b (decide (ns.length < ms.length)) Q (xs.zip ys) i s
  | _, _, _, _, _, .nil, .nil, h => PySem.W.kat_nil h
  | _, _, _, _, _, .nil, .cons (ns := ms) _ _ _, h => PySem.W.kat_nil (by
    rw [show decide (([] : List Int).length < (_ :: ms).length) = true from decide_eq_true (Nat.succ_pos _)]
    exact h)
  | _, _, _, _, _, .cons (ns := ns) _ _ _, .nil, h => PySem.W.kat_nil (by
    rw [show decide ((_ :: ns).length < ([] : List Int).length) = false from decide_eq_false (Nat.not_lt_zero _)]
    exact h)
  | _, _, _, _, i, .cons (ns := ns) p t hx, .cons (ns := ms) q u hy, h => by
    have e0 : decide ((p :: ns).length < (q :: ms).length) = decide (ns.length < ms.length) := decide_eq_decide.mpr ⟨Nat.lt_of_succ_lt_succ, Nat.succ_lt_succ⟩
    rw [e0]
    rw [HT.lexLt_cons] at h
    refine PySem.W.kat_cons ?_
    refine wpAny_eqBool_int ?_
    by_cases c : p = q
    · rw [if_pos c] at h
      rw [show (p == q) = true from beq_iff_eq.mpr c]
      exact PySem.W.kat_yes (kat_lexL (i + 1) hx hy h)
    · rw [if_neg c] at h
      rw [show (p == q) = false from beq_eq_false_iff_ne.mpr c]
      exact PySem.W.kat_no (TS.oneLt_ints _ h)
theorem kat_first {h : Heap} {k : Value → List Int} : ∀ {vs : List Value}, (∀ v ∈ vs, TS.TupInts h v (k v) ∧ k v ≠ []) → ∃ fs, PySem.W.KatTups h vs fs ∧ fs.length = vs.length ∧ ∀ f ∈ fs, ∃ n t, f = Value.int n t
  | [], _ => ⟨[], .nil, rfl, fun _ hm => by cases hm⟩
  | v :: vs, hp => by
    obtain ⟨fs, h1, h2, h3⟩ := kat_first (vs := vs) fun u hu => hp u (List.mem_cons_of_mem _ hu)
    obtain ⟨⟨a, xs, e, ⟨o, ho, hc, n, hd⟩, hi⟩, hn⟩ := hp v List.mem_cons_self
    generalize k v = ns at hi hn
    subst e
    cases q : xs.toList with
    | nil =>
      rw [q] at hi
      cases hi
      exact absurd rfl hn
    | cons y ys =>
      rw [q] at hi
      cases hi with
      | cons m t hr =>
        refine ⟨.int m t :: fs, .cons ho hc hd ?_ h1, congrArg Nat.succ h2, fun f hf => ?_⟩
        · rw [← Array.getElem?_toList, q]
          rfl
        · cases hf with
          | head => exact ⟨m, t, rfl⟩
          | tail _ hf => exact h3 f hf
theorem sortable_lexL {a : Addr} {vs : List Value} {k : Value → List Int} (h0 : 0 < vs.length) (hp : ∀ v ∈ vs, TS.TupInts s.heap v (k v) ∧ k v ≠ []) (ha : ∀ o, s.heap.get? a = some o → o.cls ≠ .type "tuple") :
    SrtO.SortableO prog w A s a vs fun v u => HT.lexLt (k v) (k u) := fun h' keep => by
  have hp' : ∀ v ∈ vs, TS.TupInts h' v (k v) ∧ k v ≠ [] := fun v hv => ⟨(hp v hv).1.keeps fun b o e c => keep b o (fun z => ha o (by rw [← z]; exact e) c) e, (hp v hv).2⟩
  obtain ⟨fs, h1, h2, h3⟩ := kat_first hp'
  refine ⟨tuples' true, fun Q E hq => PySem.W.kat_kind (T := .type "int") h1 (by omega) (fun f hf => ?_) rfl hq, fun p q hm hm' => ?_⟩
  · exact (h3 f hf).elim fun n z => z.elim fun t e => e ▸ PySem.W.Looks.of_pure rfl
  · obtain ⟨b, xs, e1, ⟨o, ho, hc, n, hd⟩, i1⟩ := (hp' _ hm).1
    obtain ⟨b', ys, e2, ⟨o', ho', hc', n', hd'⟩, i2⟩ := (hp' _ hm').1
    show wpAny _ _ (keyLt' (tuples' true) p.1 q.1) (fun r s' => s' = _ ∧ r = HT.lexLt (k p.1) (k q.1)) _ _
    rw [e1, e2] at *
    have l1 := (Array.length_toList (xs := xs)).symm.trans i1.length
    have l2 := (Array.length_toList (xs := ys)).symm.trans i2.length
    exact PySem.W.kat_lt ho hd ho' hd' (by rw [l1, l2]; exact kat_lexL 0 i1 i2 ⟨rfl, rfl⟩)
end
/-- sorted(xs), xs a list of tuples of ints (ks: where each stands, and its ints): a new list of them, rising -/
def rSortedL (K : Fg) : List V → Hp → VK → Prop := fun vs H Q => ∃ (a : Addr) (ks : List (Addr × List Int)), vs = [V.ref a] ∧ SqL K H a (ks.map fun p => V.ref p.1) ∧ (∀ p ∈ ks, SqT K H p.1 (p.2.map V.int) ∧ p.2 ≠ []) ∧
  ∀ (L : List (Addr × List Int)) (p : Addr), L.Perm ks → L.Pairwise (fun x y => HT.lexLt y.2 x.2 = false) → H p = none → Q (.ref p) (upd H p (.lst (L.map fun q => V.ref q.1)))
def adrV : Value → Addr
  | .ref a => a
  | _ => 0
theorem refs_vals : ∀ {ks : List (Addr × List Int)} {us : List Value}, Vals (ks.map fun p => V.ref p.1) us → us = ks.map fun p => Value.ref p.1
  | [], _, .nil => rfl
  | p :: ks, _, .cons r t => by
    obtain rfl := (show _ = Value.ref p.1 from r)
    rw [refs_vals t]
    rfl
theorem vals_refs : ∀ ks : List (Addr × List Int), Vals (ks.map fun p => V.ref p.1) (ks.map fun p => Value.ref p.1)
  | [] => .nil
  | p :: ks => .cons (show RelV (.ref p.1) (.ref p.1) from rfl) (vals_refs ks)
theorem cr_sortedL {X : Cx} : CallR X (.builtin "sorted") (rSortedL X.K) := by
  rintro pins s σ H _ us Q I r ⟨a, ks, rfl, hs, hx, q⟩
  rcases I.list hs with ⟨its, rv, hl, hz⟩
  rw [Vals.ref1 r]
  have ei := refs_vals rv
  have hT : ∀ p ∈ ks, TS.TupInts s.heap (.ref p.1) p.2 := fun p hp => by
    obtain ⟨ys, ry, ht, _⟩ := I.tuple (hx p hp).1
    exact ⟨p.1, ys.toArray, rfl, ht, ry.ints⟩
  have hk : ∀ p ∈ ks, TS.intsOf s.heap (.ref p.1) = p.2 := fun p hp => (hT p hp).ints
  refine SrtO.sorted_ord (NtL.swo_lexL (TS.intsOf s.heap)) hl.isList (by rw [← rv.length]; exact hz) (fun h2 h₁ a' ha kk => ?_) fun out h1 h2 => ?_
  · refine sortable_lexL (s := { s with heap := h₁ }) (by omega) (fun v hv => ?_) fun o e c => ?_
    · rw [ei] at hv
      obtain ⟨p, hp, rfl⟩ := List.mem_map.mp hv
      rw [hk p hp]
      exact ⟨(hT p hp).keeps fun b o e _ => (kk b o e).2, (hx p hp).2⟩
    · have e' : some o = some (seqObj "list" its.toArray 0) := e.symm.trans ha
      cases e'
      exact (by decide : ("list" : String) ≠ "tuple") (Value.type.inj c)
  · obtain ⟨ep, he⟩ := PyProof.Rows.sortedAll_at s.heap its out.toArray
    have pm : (out.map fun v => (adrV v, TS.intsOf s.heap v)).Perm ks := by
      have z := h2.perm.map fun v => (adrV v, TS.intsOf s.heap v)
      rw [ei, List.map_map] at z
      have e0 : ks.map ((fun v => (adrV v, TS.intsOf s.heap v)) ∘ fun p => Value.ref p.1) = ks := by
        refine (List.map_congr_left fun p hp => ?_).trans (List.map_id ks)
        show (p.1, TS.intsOf s.heap (.ref p.1)) = p
        rw [hk p hp]
      rw [e0] at z
      exact z
    have eo : (out.map fun v => (adrV v, TS.intsOf s.heap v)).map (fun p => Value.ref p.1) = out := by
      rw [List.map_map]
      refine (List.map_congr_left fun v hv => ?_).trans (List.map_id out)
      have hv' := h2.perm.mem_iff.mp hv
      rw [ei] at hv'
      obtain ⟨p, _, rfl⟩ := List.mem_map.mp hv'
      rfl
    have pw : (out.map fun v => (adrV v, TS.intsOf s.heap v)).Pairwise fun x y => HT.lexLt y.2 x.2 = false := List.pairwise_map.mpr h1
    generalize (out.map fun v => (adrV v, TS.intsOf s.heap v)) = L at pm eo pw
    have rl := vals_refs L
    rw [eo] at rl
    have hlen : (L.map fun p => V.ref p.1).length ≤ sizeLine := by
      rw [List.length_map, pm.length_eq]
      rw [List.length_map] at hz
      exact hz
    exact ⟨.ref _, upd H (s.heap.objs.size + 1) (.lst (L.map fun p => V.ref p.1)), I.laid (t' := s.toks) (fun _ _ => PyProof.Rows.sortedAll_old) (Nat.le_succ _) ⟨hlen, out, ep, rl, he⟩, rfl, q L _ pm pw (I.hok.fresh (Nat.le_succ _))⟩
end Lw

namespace Lw
open PySem.Spec PySem L2 PyProof.Rows
open Evl (Ex Ex.refl Ex.trans Ex.new Ex.off ex_rd ex_l ex_t)
/-- an empty set, as it is made -/
abbrev fsO (w : World) : Obj := { cls := .type "set", dict := none, data := .set #[] 0 (.fresh 0 0 (!w.params.followText "set-order")) }
section
variable {s : Shared} {P : Program} {w : World} {A : Around} {E : Value → Shared → Prop}
/-- set(xs), a list of ints -/
theorem set_of_list {l : Addr} {its : Array Value} (ns : List Int) {Q : Value → Shared → Prop} (hh : A.handled = none) (hl : s.heap.IsList l its) (hi : IntsAre its.toList ns) (hb : ns.length + 1 < scanBound)
    (k : ∀ (h' : Heap) (tk c : Nat), SetR w h' s.heap.objs.size (fun j => decide (j ∈ ns)) c → c ≤ ns.length → (∀ b o, s.heap.get? b = some o → h'.get? b = some o) → Q (.ref s.heap.objs.size) { s with heap := h', toks := tk }) : wpAny (model P w) A (call (.type "set") [.ref l]) Q E s := by
  have sz : its.size = ns.length := (Array.length_toList (xs := its)).symm.trans hi.length
  obtain ⟨mc, ml, mro⟩ := F.called_set.mro
  have made := F.called_set.made
  have sub := F.called_set.sub
  have nT := F.called_set.notType
  have cC := F.called_set.canCreate
  have tc := F.typeCall_set_1 (.ref l)
  refine wpAny_call (codeAny_of_tree (show wpAny _ _ (callAny (.type "set") _) _ _ _ from wpAny_pure ⟨Code.quiet_builtin _ (by decide +kernel), codeAny_builtin F.entry_type_call ?_⟩))
  have light := weight_type_call_type "set" [.ref l] []
  rw [Around.under_plain light rfl]
  repeat any_goals first | assumption | wp_step
  refine codeAny_mono (code_set_led1 (.ref l) (E := E) (Q₁ := fun v s₁ => v = .ref s.heap.objs.size ∧ s₁ = { s with heap := s.heap.push (fsO w) }) ⟨rfl, rfl⟩) fun r s₁ hr => ?_
  cases r with
  | error e => exact hr
  | ok fl =>
    cases fl with
    | ret v =>
      obtain ⟨rfl, rfl⟩ := hr
      have at0 : (s.heap.push (fsO w)).get? s.heap.objs.size = some (fsO w) := Heap.get?_push_size _ rfl
      have ty0 : Shared.TypeIs { s with heap := s.heap.push (fsO w) } (.ref s.heap.objs.size) "set" := ⟨_, at0, rfl⟩
      have li := F.called_set.init.lookup
      have bi := F.called_set.init.bind (.ref s.heap.objs.size)
      repeat any_goals first | assumption | wp_step
      refine codeAny_mono (codeAny_call_builtin (R := wants (fun r s₂ => r = .none ∧ ∃ h' tk c, s₂ = { s with heap := h', toks := tk } ∧ SetR w h' s.heap.objs.size (fun j => decide (j ∈ ns)) c ∧ c ≤ ns.length ∧ ∀ b o, s.heap.get? b = some o → h'.get? b = some o) E)
        F.called_set.init.plain F.entry_set_init (check_set_init_1 ty0 ?_)) fun r₂ s₂ hr₂ => ?_
      · obtain ⟨⟨oc, od, ot, os⟩, ho, rfl, n, rfl⟩ := hl
        have ho1 : (s.heap.push (fsO w)).get? l = some ⟨.type "list", od, .seq its n, os⟩ := Heap.get?_push_of_some _ ho
        have l1 : (s.heap.push (fsO w)).IsList l its := ⟨_, ho1, rfl, n, rfl⟩
        have ls := F.sub_list_set
        have lf := F.sub_list_frozenset
        have nd : (Value.type "list" == Value.type "dict") = false := by decide
        have lt : l < s.heap.objs.size := Heap.lt_size ho
        have z1 : (s.heap.push (fsO w)).objs.size = s.heap.objs.size + 1 := Heap.size_push ..
        have h3 : A.in1.in1.in1.handled = none := by simp [hh]
        unfold Builtin.«set.__init__»
        unfold noKeywords Builtin.Frozenset.updateFrom
        generalize eI : pyIter = PI
        wp_walk
        subst eI
        refine wpAny_pyIter_list l1 (wpAny_bind (wpAny_runValue ?_))
        have nI : l ≠ (s.heap.push (fsO w)).objs.size := by rw [z1]; exact Nat.ne_of_lt (Nat.lt_succ_of_lt lt)
        have nf : s.heap.objs.size ∉ [(s.heap.push (fsO w)).objs.size, l] := by
          rw [z1]
          intro m
          rcases List.mem_cons.mp m with e | m
          · exact absurd e (Nat.ne_of_lt (Nat.lt_succ_self _))
          · exact absurd (List.mem_singleton.mp m) (Nat.ne_of_gt lt)
        refine set_update_ints ((Walks.list h3 _ l nI its).toS) s.heap.objs.size nf ns sz hb (fun i v hv => ?_) (its.size - 0) 0 _ (by omega) (Nat.zero_le _)
          ⟨⟨_, Heap.get?_push_size _ rfl, rfl, rfl⟩, l1.push _⟩ ⟨0, Nat.le_refl 0, setR_new_at (Heap.get?_push_of_some _ at0)⟩ fun s' c' hm hc' hS' => ?_
        · have lt2 : i < ns.length := by rw [← sz]; exact (Array.getElem?_eq_some_iff.mp hv).1
          obtain ⟨t, e⟩ := PyProof.Rows.IntsAre.int_at hi i v ((Array.getElem?_toList ..).trans hv)
          refine ⟨ns[i], t, List.getElem?_eq_getElem lt2, e.trans ?_⟩
          rw [List.getD_eq_getElem?_getD, List.getElem?_eq_getElem lt2] <;> rfl
        · obtain ⟨h', g2, d2, t2, o2⟩ := s'
          obtain rfl : g2 = s.gens := hm.gens
          obtain rfl : d2 = s.drawn := hm.drawn
          obtain rfl : o2 = s.os := hm.os
          show wpAny _ _ _ _ _ _
          refine wpAny_pure (show wpAny _ _ (ret Value.none) _ _ _ from wpAny_pure ⟨rfl, h', t2, c', rfl, hS', by rw [← sz]; exact hc', fun b o e => ?_⟩)
          have lb : b < s.heap.objs.size := Heap.lt_size e
          refine hm.heap b o (fun m => ?_) (Heap.get?_push_of_some _ (Heap.get?_push_of_some _ e))
          rcases List.mem_cons.mp m with e | m
          · exact absurd e (Nat.ne_of_lt lb)
          · have e := List.mem_singleton.mp m
            rw [z1] at e
            exact absurd e (Nat.ne_of_lt (Nat.lt_succ_of_lt lb))
      · cases r₂ with
        | error e => exact hr₂
        | ok fl₂ =>
          cases fl₂ with
          | ret r =>
            rcases hr₂ with ⟨rfl, h', tk, c', rfl, hS', hc', hk'⟩
            repeat any_goals first | assumption | wp_step
            exact k _ _ _ hS' hc' hk'
          | _ => exact hr₂.elim
    | _ => exact hr.elim
/-- sorted(set of ints), any number -/
theorem sorted_of_set {a : Addr} {S : Int → Bool} {n : Nat} {Q : Value → Shared → Prop} (R : SetR w s.heap a S n) (hh : A.handled = none)
    (k : ∀ s' p (out : List Value) (c : Nat) (ns : List Int), (∀ b o, s.heap.get? b = some o → s'.heap.get? b = some o) → s'.gens = s.gens → s'.os = s.os → s.heap.objs.size ≤ p →
      s'.heap.get? p = some (seqObj "list" out.toArray c) → IntsAre out ns → ns.Pairwise (· < ·) → (∀ j, j ∈ ns ↔ S j = true) → ns.length = n → Q (.ref p) s') : wpAny (model P w) A (call (.builtin "sorted") [.ref a]) Q E s := by
  obtain ⟨o, es, ep, t, ho, hx, hd, ge, nd, hm, hb, hf, hn, ri, ld⟩ := R
  refine Calls.call_function_entry kind_sorted plain_sorted entry_sorted (args_sorted1 (.ref a)) ?_
  unfold Builtin.«sorted»
  refine wpAny_bind (m := checkCount "sorted" 1 1 _) (wpAny_pure (wpAny_bind (collect_set (A := A.in1) hh ⟨o, ho, hx.1, hd⟩ hf hb ri ld fun s1 vs k1 z1 g1 o1 pm => ?_)))
  have lv : vs.length = n := by
    rw [pm.length_eq, List.length_map, Array.length_toList]
    exact hn
  have iv : IntsAre vs (vs.map SrtO.iv) := SrtO.ints_iv fun v hv => by
    rcases List.mem_map.mp (pm.mem_iff.mp hv) with ⟨e, he, q⟩
    obtain ⟨j, tk, h1, _⟩ := ge e he
    exact ⟨j, tk, q.symm.trans h1⟩
  have pk : (vs.map SrtO.iv).Perm (es.toList.map keyOf) := by
    have q := pm.map SrtO.iv
    rw [List.map_map] at q
    have e0 : es.toList.map (SrtO.iv ∘ fun e => e.2) = es.toList.map keyOf := List.map_congr_left fun e he => by
      obtain ⟨j, tk, h1, _⟩ := ge e he
      show SrtO.iv e.2 = keyOf e
      unfold keyOf
      rw [h1]
      rfl
    rw [← e0]
    exact q
  have zl : vs.length ≤ sizeLine := by
    rw [lv, ← hn]
    exact fits_of_scanBound hb
  refine wpAny_bind (wpAny_newList ?_ zl)
  have oL : (s1.heap.push (seqObj "list" vs.toArray 0)).get? s1.heap.objs.size = some (seqObj "list" vs.toArray 0) := Heap.get?_push_size _ rfl
  refine wpAny_bind (wpAny_holding (wpAny_call_entry slot_list_sort ⟨_, oL, rfl⟩ entry_list_sort (SrtO.list_sort_ord SrtO.swo_int oL zl (fun h2 => SrtO.ints_sortable iv h2) fun out q1 q2 => ⟨_, rfl, ?_⟩) (args_list_sort _)))
  obtain ⟨c, hc⟩ := sortedHeap_at (vs := vs) (out := out.toArray) oL
  obtain ⟨i1, i2, i3⟩ := SrtO.ints_out iv q1 q2
  have pn := i2.trans pk
  refine wpAny_pure ⟨_, rfl, k _ s1.heap.objs.size out c _ (fun b u e => ?_) g1 o1 z1 hc i1 (lt_of_le_nodup _ i3 (pn.nodup_iff.mpr nd)) (fun j => by rw [pn.mem_iff, ← hm j]) ?_⟩
  · have q := k1 b u e
    have lt := Heap.lt_size q
    show (sortedHeap (s1.heap.push (seqObj "list" vs.toArray 0)) s1.heap.objs.size vs out.toArray).get? b = some u
    rw [sortedHeap_old (Nat.ne_of_lt lt) (by rw [size_push']; exact Nat.lt_succ_of_lt lt)]
    exact Heap.get?_push_of_some (seqObj "list" vs.toArray 0) q
  · rw [pn.length_eq, List.length_map, Array.length_toList]
    exact hn
end
def rSetI (K : Fg) (w : World) : List V → Hp → VK → Prop := fun xs H Q => ∃ (a : Addr) (ns : List Int), xs = [V.ref a] ∧ SqL K H a (ns.map V.int) ∧ ns.length < 4000 ∧ ∀ p n, H p = none → n ≤ ns.length → Q (.ref p) (upd H p (SetO w p (fun j => decide (j ∈ ns)) n))
def rSortI1 (w : World) : List V → Hp → VK → Prop := fun xs H Q => ∃ (a : Addr) (S : Int → Bool) (n : Nat), xs = [V.ref a] ∧ H a = some (SetO w a S n) ∧ n < 4000 ∧
  ∀ (ns : List Int) (p : Addr), ns.Pairwise (· < ·) → (∀ j : Int, j ∈ ns ↔ S j = true) → ns.length = n → H p = none → Q (.ref p) (upd H p (.lst (ns.map V.int)))
section
variable {X : Cx}
theorem cr_setI (hc : X.calm = true) : CallR X (.type "set") (rSetI X.K X.w) := by
  rintro pins s σ H _ us Q I r ⟨a, ns, rfl, hs, hl, q⟩
  rw [Vals.ref1 r]
  obtain ⟨its, rv, pl, _⟩ := I.list hs
  refine set_of_list (P := X.prog) (w := X.w) ns (I.ok.hd hc) pl.isList rv.ints (by show ns.length + 1 < 4096; omega) fun h' tk c R hc' kp => ?_
  exact ⟨.ref _, upd H s.heap.objs.size (SetO X.w s.heap.objs.size (fun j => decide (j ∈ ns)) c), I.laid (t' := tk) kp (Nat.le_refl _) (setO_new R), rfl, q _ c (I.hok.fresh (Nat.le_refl _)) hc'⟩
theorem cr_sortI1 (hc : X.calm = true) : CallR X (.builtin "sorted") (rSortI1 X.w) := by
  rintro pins s σ H _ us Q I r ⟨a, S, n, rfl, ha, hl, q⟩
  rw [Vals.ref1 r]
  refine sorted_of_set (setO_get I ha) (I.ok.hd hc) fun s' p out c ns k g o hp hg hi hs hm hn => ?_
  have zl : (ns.map V.int).length ≤ sizeLine := by
    rw [List.length_map, hn]
    exact Nat.le_trans (Nat.le_of_lt hl) (by decide)
  have hf : H p = none := I.hok.fresh hp
  have J : Inv X pins σ (upd H p (.lst (ns.map V.int))) { s with toks := s'.toks, drawn := s'.drawn, gens := s'.gens, heap := s'.heap } := I.call (ch := []) (Un.laid k hp hf) (I.hok.laid k hp ⟨zl, out, c, vals_of_ints hi, hg⟩) (by rw [g]; exact I.bare) (fun _ z => nomatch z)
  rcases s' with ⟨h', g', d', t', o'⟩
  obtain rfl := o
  exact ⟨.ref p, _, J, rfl, q ns p hs hm hn hf⟩
end
end Lw

namespace Lw
open PySem.Spec PySem L2 PyProof.Rows
open Evl (Ex Ex.refl Ex.trans Ex.new Ex.off ex_rd ex_l ex_t)
/-! ### tuples of ints as data -/
def encT (ns : List Int) : PyData := .tuple (ns.map .int)
def ltL (x y : List Int) : Bool := HT.lexLt x y
def leL (x y : List Int) : Bool := !HT.lexLt y x
def srtL (ls : List (List Int)) : List (List Int) := ls.mergeSort leL
theorem lex_anti : ∀ x y : List Int, HT.lexLt x y = false → HT.lexLt y x = false → x = y
  | [], [], _, _ => rfl
  | [], _ :: _, h, _ => by
    rw [HT.lexLt_nil_cons] at h
    cases h
  | _ :: _, [], _, h => by
    rw [HT.lexLt_nil_cons] at h
    cases h
  | a :: x, b :: y, h1, h2 => by
    rw [HT.lexLt_cons] at h1 h2
    by_cases c : a = b
    · rw [if_pos c] at h1
      rw [if_pos c.symm] at h2
      rw [c, lex_anti x y h1 h2]
    · rw [if_neg c] at h1
      rw [if_neg fun e => c e.symm] at h2
      have := of_decide_eq_false h1
      have := of_decide_eq_false h2
      omega
theorem leL_iff {x y : List Int} : leL x y = true ↔ HT.lexLt y x = false := by
  unfold leL
  cases HT.lexLt y x <;> simp
theorem leL_trans (a b c : List Int) (h1 : leL a b = true) (h2 : leL b c = true) : leL a c = true := leL_iff.mpr (NtL.lex_tr a b c (leL_iff.mp h1) (leL_iff.mp h2))
theorem leL_total (a b : List Int) : (leL a b || leL b a) = true := by
  unfold leL
  cases h : HT.lexLt b a with
  | false => rfl
  | true =>
    rw [NtL.lex_asym b a h]
    rfl
theorem srtL_perm (ls : List (List Int)) : (srtL ls).Perm ls := List.mergeSort_perm ls leL
theorem srtL_srt (ls : List (List Int)) : (srtL ls).Pairwise fun x y => HT.lexLt y x = false := (List.pairwise_mergeSort leL_trans leL_total ls).imp fun h => leL_iff.mp h
theorem srtL_uniq {ls ms : List (List Int)} (p : ms.Perm ls) (h : ms.Pairwise fun x y => HT.lexLt y x = false) : ms = srtL ls :=
  List.Perm.eq_of_pairwise (fun a b _ _ h1 h2 => lex_anti a b h2 h1) h (srtL_srt ls) (p.trans (srtL_perm ls).symm)
section
variable {K : Fg} {B : Bg} {σ : L2.St} {G G' H : Hp} {te ta tb tc : TE} {tt tu : TT} {tr : TA} {d x y z : PyData} {ds es : List PyData} {r r' : R2} {b c : Bool} {D : Ends} {t u : TS}
theorem dp_enc {v : V} {ns : List Int} (h : Dp K G v (encT ns)) : ∃ a, v = .ref a ∧ SqT K G a (ns.map V.int) := by
  obtain ⟨a, xs, e, hs, hx⟩ := dp_tup h
  rw [dpAll_intsV hx] at hs
  exact ⟨a, e, hs⟩
theorem dp_encs : ∀ {vs : List V} {ls : List (List Int)}, DpAll K G vs (ls.map encT) → ∃ ks : List (Addr × List Int), vs = ks.map (fun p => V.ref p.1) ∧ ks.map (·.2) = ls ∧ ∀ p ∈ ks, SqT K G p.1 (p.2.map V.int)
  | _, [], .nil => ⟨[], rfl, rfl, fun _ h => by cases h⟩
  | _, l :: ls, .cons h a => by
    obtain ⟨p, e, hs⟩ := dp_enc h
    obtain ⟨ks, e1, e2, hk⟩ := dp_encs a
    refine ⟨(p, l) :: ks, by rw [e, e1]; rfl, by rw [← e2]; rfl, fun q hq => ?_⟩
    cases hq with
    | head => exact hs
    | tail _ hq => exact hk q hq
theorem encs_dp : ∀ {ks : List (Addr × List Int)}, (∀ p ∈ ks, SqT K G p.1 (p.2.map V.int)) → DpAll K G (ks.map fun p => V.ref p.1) ((ks.map (·.2)).map encT)
  | [], _ => .nil
  | p :: ks, h => .cons (.tup (h p List.mem_cons_self) (dpAll_ints p.2)) (encs_dp fun q hq => h q (List.mem_cons_of_mem _ hq))
/-- sorted(xs), tuples of ints -/
theorem ef_sorted {ls : List (List Int)} (h : EvD K B ta σ G (.list (ls.map encT))) (hn : ∀ l ∈ ls, l ≠ []) : EvF K B (tCB (rSortedL K) (tCons ta tNil)) σ G ((srtL ls).map encT) := fun H e Q q =>
  h H e _ fun v G2 H2 X dv => by
    obtain ⟨a, xs, rfl, hs, hx⟩ := dp_lst dv
    obtain ⟨ks, rfl, rfl, hk⟩ := dp_encs hx
    refine ⟨a, ks, rfl, ex_l X.ok.e hs, fun p hp => ⟨ex_t X.ok.e (hk p hp), hn _ (List.mem_map.mpr ⟨p, hp, rfl⟩)⟩, fun L p pm pw hp => ?_⟩
    have nb := X.ok.b.ne hp
    refine q p _ G2 _ (X.trans (Ext.loose X.ok hp)) (X.old nb hp) (X.ok.e.off hp) nb upd_same ?_
    have e0 : L.map (·.2) = srtL (ks.map (·.2)) := srtL_uniq (pm.map _) (List.pairwise_map.mpr pw)
    rw [← e0]
    exact encs_dp fun r hr => hk r (pm.mem_iff.mp hr)
/-! ### what is in what -/
def rInTD (K : Fg) : R2 := fun x y H Q => ∃ d ds, Dp K H x d ∧ Dp K H y (.tuple ds) ∧ SeqAt.shaped d = true ∧ SeqAt.shaped (.tuple ds) = true ∧ Q (.bl (ds.any fun z => PyData.eqv z d)) H
def rNotInTD (K : Fg) : R2 := fun x y H Q => ∃ d ds, Dp K H x d ∧ Dp K H y (.tuple ds) ∧ SeqAt.shaped d = true ∧ SeqAt.shaped (.tuple ds) = true ∧ Q (.bl (!ds.any fun z => PyData.eqv z d)) H
theorem op_inTD {X : Cx} (hu : X.A.units + 65 < cLine) : OpR X (compareOp .In) (rInTD X.K) := fun pins s σ H x y v u Q I rx ry ⟨d, ds, hd, he, sd, se, q⟩ => by
  obtain ⟨_, r1⟩ := Dp.reads I d x v hd rx
  obtain ⟨_, r2⟩ := Dp.reads I (.tuple ds) y u he ry
  exact SeqAt.in_tuple_reads r2 r1 (SeqAt.canLay_of_shaped se) (SeqAt.canLay_of_shaped sd) (room_in_shaped sd hu) ⟨.bl _, H, I, rfl, q⟩
theorem op_notInTD {X : Cx} (hu : X.A.units + 65 < cLine) : OpR X (compareOp .NotIn) (rNotInTD X.K) := fun pins s σ H x y v u Q I rx ry ⟨d, ds, hd, he, sd, se, q⟩ => by
  obtain ⟨_, r1⟩ := Dp.reads I d x v hd rx
  obtain ⟨_, r2⟩ := Dp.reads I (.tuple ds) y u he ry
  exact SeqAt.notIn_tuple_reads r2 r1 (SeqAt.canLay_of_shaped se) (SeqAt.canLay_of_shaped sd) (room_in_shaped sd hu) ⟨.bl _, H, I, rfl, q⟩
theorem lay_ints : ∀ ns : List Int, PyData.canLayAll0 (ns.map .int) = true ∧ PyData.depthAll (ns.map .int) = 0
  | [] => ⟨by simp [PyData.canLayAll0], by simp [PyData.depthAll]⟩
  | n :: ns => by
    obtain ⟨h1, h2⟩ := lay_ints ns
    exact ⟨by simp [PyData.canLayAll0, PyData.canLay0, h1], by simp [PyData.depthAll, PyData.depth, h2]⟩
theorem lay_encs : ∀ ls : List (List Int), PyData.canLayAll0 (ls.map encT) = true ∧ PyData.depthAll (ls.map encT) ≤ 1
  | [] => ⟨by simp [PyData.canLayAll0], by simp [PyData.depthAll]⟩
  | l :: ls => by
    obtain ⟨h1, h2⟩ := lay_encs ls
    obtain ⟨k1, k2⟩ := lay_ints l
    refine ⟨by simp [PyData.canLayAll0, PyData.canLay0, encT, k1, h1], ?_⟩
    simp only [List.map_cons, PyData.depthAll, encT, PyData.depth, k2]
    omega
theorem shp {d : PyData} (h1 : d.canLay0 = true) (h2 : d.depth ≤ 64) : SeqAt.shaped d = true := by
  show (d.canLay0 && decide (d.depth ≤ 64)) = true
  rw [h1, decide_eq_true h2]
  rfl
theorem shp_enc (l : List Int) : SeqAt.shaped (encT l) = true := by
  obtain ⟨k1, k2⟩ := lay_ints l
  exact shp (by simp [encT, PyData.canLay0, k1]) (by simp [encT, PyData.depth, k2])
theorem shp_none : SeqAt.shaped .none = true := by rfl
theorem shp_encsT (ls : List (List Int)) : SeqAt.shaped (.tuple (ls.map encT)) = true := by
  obtain ⟨k1, k2⟩ := lay_encs ls
  exact shp (by simp [PyData.canLay0, k1]) (by simp only [PyData.depth]; omega)
theorem shp_encsL (ls : List (List Int)) : SeqAt.shaped (.list (ls.map encT)) = true := by
  obtain ⟨k1, k2⟩ := lay_encs ls
  exact shp (by simp [PyData.canLay0, k1]) (by simp only [PyData.depth]; omega)
theorem eqv_ints : ∀ a b : List Int, PyData.eqvAll (a.map .int) (b.map .int) = decide (a = b)
  | [], [] => by
    simp [PyData.eqvAll]
  | [], _ :: _ => by
    simp [PyData.eqvAll]
  | _ :: _, [] => by
    simp [PyData.eqvAll]
  | x :: a, y :: b => by
    simp only [List.map_cons, PyData.eqvAll, PyData.eqv, eqv_ints a b]
    by_cases c : x = y
    · subst c
      simp
    · simp [c]
theorem eqv_enc (a b : List Int) : PyData.eqv (encT a) (encT b) = decide (a = b) := by
  simp only [encT, PyData.eqv, eqv_ints]
theorem eqv_non (a : List Int) : PyData.eqv (encT a) .none = false := by simp [encT, PyData.eqv]
theorem any_enc (ls : List (List Int)) (a : List Int) : ((ls.map encT).any fun z => PyData.eqv z (encT a)) = decide (a ∈ ls) := by
  induction ls with
  | nil => simp
  | cons l ls ih =>
    rw [List.map_cons, List.any_cons, ih, eqv_enc]
    by_cases c : a = l
    · subst c
      simp
    · have : ¬ l = a := fun e => c e.symm
      simp [c, this]
theorem any_non (ls : List (List Int)) : ((ls.map encT).any fun z => PyData.eqv z .none) = false := by
  induction ls with
  | nil => rfl
  | cons l ls ih => rw [List.map_cons, List.any_cons, ih, eqv_non]; rfl
theorem rd_inT {ls : List (List Int)} {a : List Int} : RvD K B (rInTD K) G (encT a) (.tuple (ls.map encT)) (.bool (decide (a ∈ ls))) := fun u v G2 H2 _ e du dv Q q =>
  ⟨encT a, ls.map encT, dp_mono e.e du, dp_mono e.e dv, shp_enc a, shp_encsT ls, by rw [any_enc]; exact q.here e (.bl _)⟩
theorem rd_notInT {ls : List (List Int)} {a : List Int} : RvD K B (rNotInTD K) G (encT a) (.tuple (ls.map encT)) (.bool (!decide (a ∈ ls))) := fun u v G2 H2 _ e du dv Q q =>
  ⟨encT a, ls.map encT, dp_mono e.e du, dp_mono e.e dv, shp_enc a, shp_encsT ls, by rw [any_enc]; exact q.here e (.bl _)⟩
theorem rd_inL {ls : List (List Int)} {a : List Int} : RvD K B (rInD K) G (encT a) (.list (ls.map encT)) (.bool (decide (a ∈ ls))) := fun u v G2 H2 _ e du dv Q q =>
  ⟨encT a, ls.map encT, dp_mono e.e du, dp_mono e.e dv, shp_enc a, shp_encsL ls, by rw [any_enc]; exact q.here e (.bl _)⟩
/-! ### numbers -/
theorem ed_min {i j : Int} (ha : EvA K B tr σ G [.int i, .int j]) : EvD K B (tCB (fun xs H Q => ∃ i j, xs = [.int i, .int j] ∧ Q (.int (if j < i then j else i)) H) tr) σ G (.int (min i j)) := ed_cb ha fun vs G2 H2 _ e dv Q q => ⟨i, j, dpAll_intsV (bs := [i, j]) dv, by
  have z : (if j < i then j else i) = min i j := by
    rw [Int.min_def]
    split <;> split <;> omega
  rw [z]
  exact q.here e (.int _)⟩
theorem ed_max {i j : Int} (ha : EvA K B tr σ G [.int i, .int j]) : EvD K B (tCB (fun xs H Q => ∃ i j, xs = [.int i, .int j] ∧ Q (.int (if j > i then j else i)) H) tr) σ G (.int (max i j)) := ed_cb ha fun vs G2 H2 _ e dv Q q => ⟨i, j, dpAll_intsV (bs := [i, j]) dv, by
  have z : (if j > i then j else i) = max i j := by
    rw [Int.max_def]
    split <;> split <;> omega
  rw [z]
  exact q.here e (.int _)⟩
abbrev rInt1 : List V → Hp → VK → Prop := fun xs H Q => (∃ i, xs = [.int i] ∧ Q (.int i) H) ∨ ∃ k, xs = [.bl k] ∧ Q (.int (if k then 1 else 0)) H
theorem ed_intB (ha : EvD K B ta σ G (.bool b)) : EvD K B (tCB rInt1 (tCons ta tNil)) σ G (.int (if b then 1 else 0)) := fun H e Q q =>
  ha H e _ fun v G2 H2 X dv => .inr ⟨b, by rw [dp_bl dv], q _ G2 H2 X (.int _)⟩
/-- for target in xs, a list -/
theorem sq_forG {g : TG} {Pv : Nat → L2.St → Hp → Hp → Prop} (h : EvD K B te σ G (.list ds)) (e : Ok K B G H) (h0 : ∀ G2 H2, Ext K B G H G2 H2 → Pv 0 σ G2 H2)
    (hs : ∀ G1 H1, Ext K B G H G1 H1 → ∀ (j : Nat) d v σ' G' H', ds[j]? = some d → Ext K B G1 H1 G' H' → Pv j σ' G' H' → Dp K G' v d →
      g v σ' H' fun σ2 H2 => t (lpE D u fun σ2 H2 => ∃ G2, Ext K B G1 H1 G2 H2 ∧ Pv (j + 1) σ2 G2 H2) σ2 H2)
    (hd : ∀ σ' G' H', Ext K B G H G' H' → Pv ds.length σ' G' H' → u D σ' H') : tSeq (tFor (iList K te) g t) u D σ H :=
  h H e _ fun v G1 H1 X dv => by
    obtain ⟨a, xs, rfl, hl, hx⟩ := dp_lst dv
    refine ⟨a, rfl, ⟨xs, ex_l X.ok.e hl⟩, for_list (K := K) (a := a) (xs := xs) (fun j σ' H' => ∃ G', Ext K B G1 H1 G' H' ∧ Pv j σ' G' H') ⟨G1, Ext.refl X.ok, h0 G1 H1 X⟩ ?_ ?_ ?_⟩
    · rintro j σ' H' _ ⟨G', X', _⟩
      exact ex_l (X'.gg.trans X'.ok.e) hl
    · rintro j y σ' H' hj ⟨G', X', p⟩
      obtain ⟨d, hd', dy⟩ := dpAll_at hx hj
      exact hs G1 H1 X j d y σ' G' H' hd' X' p (dp_mono X'.gg dy)
    · rintro σ' H' ⟨G', X', p⟩
      rw [dpAll_len hx] at p
      exact hd σ' G' H' (X.trans X') p
/-- [e for a, b in xs if t], xs a list of pairs -/
theorem ef_lcP {i j : Nat} {f : PyData → Option PyData} (ha : EvD K B ta σ G (.list ds)) (hn : ds.length ≤ 100000) (hp : ∀ d ∈ ds, ∃ a b, d = .tuple [a, b])
    (ht : ∀ a b v w G', .tuple [a, b] ∈ ds → Ex G G' → Cel K B G' → Dp K G' v a → Dp K G' w b → EvB K B tt (((wipe σ [i, j]).set i (some v)).set j (some w)) G' (f (.tuple [a, b])).isSome)
    (he : ∀ a b v w y G', .tuple [a, b] ∈ ds → Ex G G' → Cel K B G' → Dp K G' v a → Dp K G' w b → f (.tuple [a, b]) = some y → EvD K B te (((wipe σ [i, j]).set i (some v)).set j (some w)) G' y)
    (hw : ∀ v w, wipe (((wipe σ [i, j]).set i (some v)).set j (some w)) [i, j] = wipe σ [i, j]) :
    EvF K B (tLc (iList K ta) (gTup K 2 (gCons (gName i) (gCons (gName j) gNil))) tt te [i, j]) σ G (ds.filterMap f) := fun H e Q q =>
  ha H e _ fun v G1 H1 X dv => by
    obtain ⟨a, xs, rfl, hs, hx⟩ := dp_lst dv
    refine ⟨a, rfl, ⟨xs, ex_l X.ok.e hs⟩, fun D hD => ?_⟩
    have nb := X.ok.b.ne hD
    show ∃ W, _
    refine lc_list (K := K) (a := a) (xs := xs) (Qd := fun H => Q (.ref D) H) (fun j H' => ∃ G' ys, Ext K B G1 H1 G' H' ∧ G' D = none ∧ H' D = some (.lst ys) ∧ DpAll K G' ys ((ds.take j).filterMap f))
      ⟨G1, [], Ext.loose X.ok hD, X.ok.e.off hD, upd_same, .nil⟩ ?_ ?_ ?_
    · rintro j H' _ ⟨G', ys, X', _⟩
      exact ex_l (X'.gg.trans X'.ok.e) hs
    · rintro m x H' hj ⟨G', ys, X', g', h', a'⟩
      obtain ⟨d, hd, dx⟩ := dpAll_at hx hj
      have md : d ∈ ds := List.mem_of_getElem? hd
      have jl : m < ds.length := (List.getElem?_eq_some_iff.mp hd).1
      obtain ⟨d1, d2, rfl⟩ := hp d md
      obtain ⟨p, zs, rfl, hz, hzz⟩ := dp_tup (dp_mono X'.gg dx)
      cases hzz with
      | cons k1 r1 =>
        cases r1 with
        | cons k2 r2 =>
          cases r2
          refine ⟨p, _, rfl, ex_t X'.ok.e hz, rfl, _, _, rfl, _, _, rfl, rfl, hw _ _, ?_⟩
          have hlen : ((ds.take m).filterMap f).length < 100000 := by
            have z := List.length_filterMap_le f (ds.take m)
            rw [List.length_take] at z
            omega
          have c' := (e.c.mono X.gg).mono X'.gg
          refine lc_turn (o := f (.tuple [d1, d2])) hD nb X' g' h' a' hlen (ht d1 d2 _ _ G' md (X.gg.trans X'.gg) c' k1 k2) (fun y ey => he d1 d2 _ _ y G' md (X.gg.trans X'.gg) c' k1 k2 ey) fun G4 H4 ys X4 g4 h4 a4 => ⟨G4, ys, X4, g4, h4, ?_⟩
          rw [take_filterMap hd]
          exact a4
    · rintro H' ⟨G', ys, X', g', h', a'⟩
      rw [dpAll_len hx, List.take_length] at a'
      exact q D ys G' H' (X.trans X') (X.old nb hD) g' nb h' a'
/-- a, b = x, y -/
theorem sq_par {i j : Nat} {d1 d2 : PyData} (h : EvA K B tr σ G [d1, d2]) (e : Ok K B G H) (k : ∀ v w G2 H2, Ext K B G H G2 H2 → Dp K G2 v d1 → Dp K G2 w d2 → u D ((σ.set i (some v)).set j (some w)) H2) : tSeq (tPar i j tr) u D σ H :=
  h H e _ fun vs G2 H2 X dv => by
    cases dv with
    | cons h1 a1 =>
      cases a1 with
      | cons h2 a2 =>
        cases a2
        exact ⟨_, _, rfl, k _ _ G2 H2 X h1 h2⟩
/-! ### lists that are made anew again and again -/
theorem ef_catV {i : Nat} {p : Addr} {xs : List V} (hσ : σ[i]? = some (some (.ref p))) (hp : G p = some (.lst xs)) (hx : DpAll K G xs ds) (hb : EvF K B tb σ G es) (hl : ds.length + es.length ≤ 100000) : EvF K B (tOp rCat (tVar i) tb) σ G (ds ++ es) := fun H e Q q =>
  ⟨.ref p, hσ, hb H e _ fun o ys G2 H2 X ho hg nb h2 a => by
    refine ⟨p, o, xs, ys, rfl, rfl, X.ok.e _ _ (X.gg _ _ hp), h2, ?_, fun r hr => ?_⟩
    · rw [dpAll_len hx, dpAll_len a]
      exact sz hl
    · have n2 := X.ok.b.ne hr
      exact q r _ G2 _ (X.trans (Ext.loose X.ok hr)) (X.old n2 hr) (X.ok.e.off hr) n2 upd_same (dpAll_app (dpAll_mono X.gg hx) a)⟩
theorem RetF.frz {Q : VK} (k : ∀ p xs G2 H2, Ext K B G H G2 H2 → G2 p = some (.lst xs) → DpAll K G2 xs ds → Q (.ref p) H2) : RetF K B G H Q ds := fun p xs G2 H2 X hp hg nb h2 a =>
  k p xs _ H2 (X.freeze hp hg nb h2) upd_same (dpAll_mono (Ex.new hg) a)
theorem sq_setZ {i : Nat} (h : EvF K B te σ G ds) (e : Ok K B G H) (k : ∀ p xs G2 H2, Ext K B G H G2 H2 → G2 p = some (.lst xs) → DpAll K G2 xs ds → u D (σ.set i (some (.ref p))) H2) : tSeq (tAsg te (gName i)) u D σ H := h H e _ (RetF.frz k)
theorem st_setZ {i : Nat} (h : EvF K B te σ G ds) (e : Ok K B G H) (k : ∀ p xs G2 H2, Ext K B G H G2 H2 → G2 p = some (.lst xs) → DpAll K G2 xs ds → D.nx (σ.set i (some (.ref p))) H2) : tAsg te (gName i) D σ H := h H e _ (RetF.frz k)
theorem sq_setF {i : Nat} (h : EvF K B te σ G ds) (e : Ok K B G H) (k : ∀ p xs G2 H2, Ext K B G H G2 H2 → H p = none → G2 p = none → ¬ isB B p → H2 p = some (.lst xs) → DpAll K G2 xs ds → u D (σ.set i (some (.ref p))) H2) : tSeq (tAsg te (gName i)) u D σ H := h H e _ k
theorem st_forR {i n : Nat} {Pv : Nat → L2.St → Hp → Hp → Prop} (h : EvA K B tr σ G [.int (n : Int)]) (hn : n ≤ 100000) (e : Ok K B G H) (h0 : ∀ G2 H2, Ext K B G H G2 H2 → Pv 0 σ G2 H2)
    (hs : ∀ G1 H1, Ext K B G H G1 H1 → ∀ (j : Nat) σ' G' H', j < n → Ext K B G1 H1 G' H' → Pv j σ' G' H' →
      t (lpE D tNext fun σ2 H2 => ∃ G2, Ext K B G1 H1 G2 H2 ∧ Pv (j + 1) σ2 G2 H2) (σ'.set i (some (.int (j : Int)))) H')
    (hd : ∀ σ' G' H', Ext K B G H G' H' → Pv n σ' G' H' → D.nx σ' H') : tFor (iRng1 tr) (gName i) t D σ H := sq_forR (u := tNext) h hn e h0 hs hd
/-- a list that is returned as it was made -/
theorem st_retF (h : EvF K B te σ G ds) (e : Ok K B G H) (k : RetF K B G H D.rt ds) : tRet te D σ H := h H e _ k
/-- return of a name that holds a list made meanwhile -/
theorem st_retV {i : Nat} {p : Addr} {xs : List V} {G0 H0 : Hp} (hσ : σ[i]? = some (some (.ref p))) (X : Ext K B G0 H0 G H) (h0 : H0 p = none) (hg : G p = none) (nb : ¬ isB B p) (hp : H p = some (.lst xs)) (hx : DpAll K G xs ds) (k : RetF K B G0 H0 D.rt ds) : tRet (tVar i) D σ H := ⟨.ref p, hσ, k p xs G H X h0 hg nb hp hx⟩
theorem hu65 {k : Nat} {A : Around} (hr : Room k A) : A.units + 65 < cLine := by
  have := hr.un
  omega
/-- list(range(n)) -/
theorem ef_range {n : Nat} (h : EvD K B ta σ G (.int (n : Int))) (hn : n ≤ 100000) : EvF K B (tLstRg (tRg1 ta)) σ G ((List.range n).map fun i : Nat => .int (i : Int)) := fun H e Q q =>
  h H e _ fun v G2 H2 X dv => ⟨(n : Int), dp_int dv, ⟨by omega, by omega, by omega, by omega, by omega⟩, fun p hp => by
    have nb := X.ok.b.ne hp
    refine q p _ G2 _ (X.trans (Ext.loose X.ok hp)) (X.old nb hp) (X.ok.e.off hp) nb upd_same ?_
    unfold rgV
    have e0 : ((n : Int) - 0).toNat = n := by omega
    rw [e0]
    clear hn dv h q
    induction n with
    | zero => exact .nil
    | succ n ih =>
      rw [List.range_succ, List.map_append, List.map_append]
      refine dpAll_app (ih (by omega)) (.cons ?_ .nil)
      have e1 : (0 : Int) + ((n : Nat) : Int) = (n : Int) := by omega
      show Dp K G2 (.int (0 + (n : Int))) (.int (n : Int))
      rw [e1]
      exact .int _⟩
/-! ### dicts with int keys -/
def EvK (K : Fg) (B : Bg) (trs : List (TE × TE)) (σ : L2.St) (G : Hp) (ks : List Int) (ds : List PyData) : Prop := ∀ H, Ok K B G H → ∀ Q : List (V × V) → Hp → Prop, (∀ vs G2 H2, Ext K B G H G2 H2 → DpAll K G2 vs ds → Q ((ks.map V.int).zip vs) H2) → tPairs trs σ H Q
theorem EvK.mono {trs : List (TE × TE)} {ks : List Int} (e : Ex G G') (c : Cel K B G) (h : EvK K B trs σ G ks ds) : EvK K B trs σ G' ks ds := fun H eH Q q =>
  h H (eH.less e c) Q fun v G2 H2 X dv => by
    obtain ⟨X2, e2⟩ := X.wide e eH
    exact q v _ H2 X2 (dpAll_mono e2 dv)
theorem ek_nil : EvK K B [] σ G [] [] := fun H e Q q => q [] G H (Ext.refl e) .nil
theorem ek_cons {trs : List (TE × TE)} {ks : List Int} {k : Int} (h : EvD K B te σ G d) (hr : EvK K B trs σ G ks ds) : EvK K B ((tC (.int k), te) :: trs) σ G (k :: ks) (d :: ds) := fun H e Q q =>
  h H e _ fun v G2 H2 X dv => hr.mono X.gg e.c H2 X.ok _ fun vs G3 H3 X3 dvs => q (v :: vs) G3 H3 (X.trans X3) (.cons (dp_mono X3.gg dv) dvs)
theorem kV_zip : ∀ (ks : List Int) (vs : List V), (ks.map V.int).zip vs = ((ks.map (Sum.inl (β := Str))).zip vs).map fun kv => (kV kv.1, kv.2)
  | [], _ => rfl
  | _ :: _, [] => rfl
  | k :: ks, v :: vs => by
    rw [List.map_cons, List.map_cons, List.zip_cons_cons, List.zip_cons_cons, List.map_cons, kV_zip ks vs]
    rfl
/-- {k: v, ..}[k] -/
theorem ed_dispGet {trs : List (TE × TE)} {ks : List Int} {ty : TE} {k : Int} (h : EvK K B trs σ G ks ds) (hy : EvD K B ty σ G (.int k)) (hl : ks.length ≤ 15)
    (hv : ∀ (Gx : Hp) vs, DpAll K Gx vs ds → ∃ v, valV (mergeK [] ((ks.map Sum.inl).zip vs)) (Sum.inl k) = some v ∧ Dp K Gx v d) : EvD K B (tDGet (tDisp trs) ty) σ G d := fun H e Q q p hp => by
  have X0 : Ext K B G H G (upd H p (.dK [])) := Ext.loose e hp
  have nb := e.b.ne hp
  refine h _ X0.ok _ fun vs G2 H2 X dv => ?_
  have hp2 : H2 p = some (.dK []) := X.hh p _ nb upd_same
  have g2 : G2 p = none := X.fr p _ upd_same (e.e.off hp)
  obtain ⟨v, hv1, hv2⟩ := hv G2 vs dv
  refine ⟨hp2, (ks.map Sum.inl).zip vs, kV_zip ks vs, ?_, ?_⟩
  · rw [List.length_zip, List.length_map]
    omega
  · have ok2 : Ok K B G2 (upd H2 p (.dK (mergeK [] ((ks.map Sum.inl).zip vs)))) := X.ok.mut g2 nb
    have Y : Ext K B G H G2 (upd H2 p (.dK (mergeK [] ((ks.map Sum.inl).zip vs)))) := ⟨X.gg, fun a o n z => by
      rw [upd_ne (ne_of_none z hp)]
      exact X.hh a o n (by rw [upd_ne (ne_of_none z hp)]; exact z), fun a o z g => X.fr a o (by rw [upd_ne (ne_of_none z hp)]; exact z) g, ok2⟩
    refine hy.mono Y.gg e.c _ ok2 _ fun w G3 H3 X3 dw => ?_
    obtain rfl := dp_int dw
    have hp3 : H3 p = some (.dK (mergeK [] ((ks.map Sum.inl).zip vs))) := X3.hh p _ nb upd_same
    refine ⟨p, v, rfl, ?_, q v G3 H3 (Y.trans X3) (dp_mono X3.gg hv2)⟩
    rw [← hv1]
    exact DGet.k (k := Sum.inl k) hp3
/-! ### a list that grows by append -/
structure Loo (K : Fg) (B : Bg) (G0 H0 G H : Hp) (p : Addr) (ds : List PyData) : Prop where
  x : Ext K B G0 H0 G H
  h0 : H0 p = none
  g : G p = none
  nb : ¬ isB B p
  h : ∃ xs, H p = some (.lst xs) ∧ DpAll K G xs ds
theorem Loo.step {G0 H0 G2 H2 : Hp} {p : Addr} (l : Loo K B G0 H0 G H p ds) (X : Ext K B G H G2 H2) : Loo K B G0 H0 G2 H2 p ds := by
  obtain ⟨xs, h1, h2⟩ := l.h
  exact ⟨l.x.trans X, l.h0, X.fr p _ h1 l.g, l.nb, xs, X.hh p _ l.nb h1, dpAll_mono X.gg h2⟩
theorem st_append {G0 H0 : Hp} {p : Addr} {i : Nat} (hσ : σ[i]? = some (some (.ref p))) (l : Loo K B G0 H0 G H p ds) (h : EvD K B ta σ G d) (hl : ds.length < 100000) (k : ∀ G2 H2, Loo K B G0 H0 G2 H2 p (ds ++ [d]) → Ex G G2 → D.nx σ H2) :
    tDrop (tBM K "list" rAppend (tVar i) (tCons ta tNil)) D σ H := by
  obtain ⟨xs0, h1, _⟩ := l.h
  refine ⟨.ref p, hσ, .inl ⟨rfl, _, SqL.of h1⟩, h H l.x.ok _ fun v G2 H2 X dv => ?_⟩
  have l2 := l.step X
  obtain ⟨xs, h3, h4⟩ := l2.h
  refine ⟨p, xs, v, rfl, rfl, h3, by rw [dpAll_len h4]; exact szl hl, ?_⟩
  refine k G2 _ ⟨⟨l2.x.gg, fun a o n z => ?_, l2.x.fr, l2.x.ok.mut l2.g l.nb⟩, l.h0, l2.g, l.nb, xs ++ [v], upd_same, dpAll_app h4 (.cons dv .nil)⟩ X.gg
  rw [upd_ne (ne_of_none z l.h0)]
  exact l2.x.hh a o n z
theorem Loo.frz {G0 H0 : Hp} {p : Addr} (l : Loo K B G0 H0 G H p ds) : ∃ G2 xs, Ext K B G0 H0 G2 H ∧ Ex G G2 ∧ G2 p = some (.lst xs) ∧ DpAll K G2 xs ds := by
  obtain ⟨xs, h1, h2⟩ := l.h
  exact ⟨_, xs, l.x.freeze l.h0 l.g l.nb h1, Ex.new l.g, upd_same, dpAll_mono (Ex.new l.g) h2⟩
theorem sq_setL {i : Nat} (h : EvF K B te σ G ds) (e : Ok K B G H) (k : ∀ p G2 H2, Loo K B G H G2 H2 p ds → u D (σ.set i (some (.ref p))) H2) : tSeq (tAsg te (gName i)) u D σ H := h H e _ fun p xs G2 H2 X h0 hg nb h2 a => k p G2 H2 ⟨X, h0, hg, nb, xs, h2, a⟩
theorem Loo.dp {G0 H0 : Hp} {p : Addr} (l : Loo K B G0 H0 G H p ds) : Dp K H (.ref p) (.list ds) := by
  obtain ⟨xs, h1, h2⟩ := l.h
  exact .lst (SqL.of h1) (dpAll_mono l.x.ok.e h2)
/-- for x in range(n), the invariant over the whole heap -/
theorem sq_forR0 {i n : Nat} {Pv : Nat → L2.St → Hp → Prop} (h : EvA K B tr σ G [.int (n : Int)]) (hn : n ≤ 100000) (e : Ok K B G H) (h0 : ∀ G2 H2, Ext K B G H G2 H2 → Pv 0 σ H2)
    (hs : ∀ (j : Nat) σ' H', j < n → Pv j σ' H' → t (lpE D u fun σ2 H2 => Pv (j + 1) σ2 H2) (σ'.set i (some (.int (j : Int)))) H')
    (hd : ∀ σ' H', Pv n σ' H' → u D σ' H') : tSeq (tFor (iRng1 tr) (gName i) t) u D σ H :=
  h H e _ fun vs G1 H1 X dv => by
    have ev : vs = [.int (n : Int)] := dpAll_intsV (bs := [(n : Int)]) dv
    refine ⟨(n : Int), ev, by omega, by omega, for_range (lo := 0) (n := (n : Int).toNat) (fun j σ' H' => Pv j σ' H') (h0 G1 H1 X) ?_ ?_⟩
    · intro j σ' H' hj p
      have ez : (0 : Int) + (j : Int) = (j : Int) := by omega
      have z := hs j σ' H' (by omega) p
      rw [← ez] at z
      exact z
    · intro σ' H' p
      rw [Int.toNat_natCast] at p
      exact hd σ' H' p
/-- a list that grows, looked at -/
def hide (p : Addr) (G : Hp) : Hp := fun a => if a = p then none else G a
theorem Loo.see {G0 H0 : Hp} {p : Addr} (l : Loo K B G0 H0 G H p ds) : ∃ G1, Ex G G1 ∧ Ok K B G1 H ∧ Dp K G1 (.ref p) (.list ds) ∧ (∀ G2 H2, Ext K B G1 H G2 H2 → ∃ G3, Loo K B G0 H0 G3 H2 p ds ∧ Ex G G3 ∧ ∀ v d, (∀ a, ¬ isB B a → True) → Dp K (hide p G2) v d → Dp K G3 v d) := by
  obtain ⟨xs, h1, h2⟩ := l.h
  have F := l.x.freeze l.h0 l.g l.nb h1
  refine ⟨upd G p (.lst xs), Ex.new l.g, F.ok, .lst (SqL.of upd_same) (dpAll_mono (Ex.new l.g) h2), fun G2 H2 X => ?_⟩
  have gg : Ex G (hide p G2) := fun a o z => by
    have ne : a ≠ p := ne_of_none z l.g
    show (if a = p then none else G2 a) = some o
    rw [if_neg ne]
    exact X.gg a o (by rw [upd_ne ne]; exact z)
  have hx : Ext K B G H (hide p G2) H2 := ⟨gg, X.hh, fun a o z g => by
    show (if a = p then none else G2 a) = none
    by_cases c : a = p
    · rw [if_pos c]
    · rw [if_neg c]
      exact X.fr a o z (by rw [upd_ne c]; exact g), ⟨fun a o z => by
      have z' : (if a = p then none else G2 a) = some o := z
      by_cases c : a = p
      · rw [if_pos c] at z'
        cases z'
      · rw [if_neg c] at z'
        exact X.ok.e a o z', l.x.ok.c.mono gg, X.ok.b.keep (fun a _ g => by
      show (if a = p then none else G2 a) = none
      by_cases c : a = p
      · rw [if_pos c]
      · rw [if_neg c]
        exact g) fun _ _ _ q => q⟩⟩
  exact ⟨hide p G2, l.step hx, gg, fun _ _ _ z => z⟩
theorem Loo.test {G0 H0 : Hp} {p : Addr} (l : Loo K B G0 H0 G H p ds) (k : ∀ G1, Ex G G1 → Dp K G1 (.ref p) (.list ds) → EvB K B tt σ G1 b) {Q : Bool → Hp → Prop} (q : ∀ G2 H2, Loo K B G0 H0 G2 H2 p ds → Ex G G2 → Q b H2) : tt σ H Q := by
  obtain ⟨G1, e1, o1, d1, z⟩ := l.see
  refine k G1 e1 d1 H o1 Q fun G2 H2 X => ?_
  obtain ⟨G3, l3, e3, _⟩ := z G2 H2 X
  exact q G3 H2 l3 e3
theorem sq_ifL {G0 H0 : Hp} {p : Addr} {w : TS} (l : Loo K B G0 H0 G H p ds) (k : ∀ G1, Ex G G1 → Dp K G1 (.ref p) (.list ds) → EvB K B tt σ G1 b) (k1 : b = true → ∀ G2 H2, Loo K B G0 H0 G2 H2 p ds → Ex G G2 → t D σ H2) (k2 : b = false → ∀ G2 H2, Loo K B G0 H0 G2 H2 p ds → Ex G G2 → D.nx σ H2) : tIfS tt t tNext D σ H := l.test k fun G2 H2 l2 e2 => by
  cases b with
  | true =>
    rw [if_pos rfl]
    exact k1 rfl G2 H2 l2 e2
  | false =>
    rw [ifF]
    exact k2 rfl G2 H2 l2 e2
/-- tuple(xs) -/
theorem ed_tupOf (h : EvD K B ta σ G (.list ds)) : EvD K B (tCB (rTupS K) (tCons ta tNil)) σ G (.tuple ds) := fun H e Q q =>
  h H e _ fun v G2 H2 X dv => by
    obtain ⟨a, xs, rfl, hs, hx⟩ := dp_lst dv
    exact ⟨a, xs, rfl, .inl ⟨ex_l X.ok.e hs, fun p hp => q _ _ _ (X.trans (Ext.new X.ok hp)) (.tup (SqT.of upd_same) (dpAll_mono (Ex.new (X.ok.e.off hp)) hx))⟩⟩
/-! ### a dict that grows -/
structure LoD (K : Fg) (B : Bg) (G0 H0 G H : Hp) (p : Addr) (kvs : List (Key × V)) : Prop where
  x : Ext K B G0 H0 G H
  h0 : H0 p = none
  g : G p = none
  nb : ¬ isB B p
  h : H p = some (.dK kvs)
theorem LoD.step {G0 H0 G2 H2 : Hp} {p : Addr} {kvs : List (Key × V)} (l : LoD K B G0 H0 G H p kvs) (X : Ext K B G H G2 H2) : LoD K B G0 H0 G2 H2 p kvs := ⟨l.x.trans X, l.h0, X.fr p _ l.h l.g, l.nb, X.hh p _ l.nb l.h⟩
theorem LoD.put {G0 H0 : Hp} {p : Addr} {kvs : List (Key × V)} (kvs' : List (Key × V)) (l : LoD K B G0 H0 G H p kvs) : LoD K B G0 H0 G (upd H p (.dK kvs')) p kvs' := ⟨⟨l.x.gg, fun a o n z => by
  rw [upd_ne (ne_of_none z l.h0)]
  exact l.x.hh a o n z, l.x.fr, l.x.ok.mut l.g l.nb⟩, l.h0, l.g, l.nb, upd_same⟩
theorem LoD.frz {G0 H0 : Hp} {p : Addr} {kvs : List (Key × V)} (l : LoD K B G0 H0 G H p kvs) : Ext K B G0 H0 (upd G p (.dK kvs)) H := l.x.freeze l.h0 l.g l.nb l.h
/-- d[k], d known -/
theorem ed_dget {p : Addr} {kvs : List (Key × V)} {ty : TE} {i : Nat} {k : Int} {v : V} (hσ : σ[i]? = some (some (.ref p))) (hp : G p = some (.dK kvs)) (hy : EvD K B ty σ G (.int k)) (hv : valV kvs (Sum.inl k) = some v) (dv : Dp K G v d) : EvD K B (tDGet (tVar i) ty) σ G d := fun H e Q q =>
  ⟨.ref p, hσ, hy H e _ fun w G2 H2 X dw => by
    obtain rfl := dp_int dw
    refine ⟨p, v, rfl, ?_, q v G2 H2 X (dp_mono X.gg dv)⟩
    rw [← hv]
    exact DGet.k (k := Sum.inl k) (X.ok.e _ _ (X.gg _ _ hp))⟩
/-! ### the same item again and again -/
theorem mul9 {x y : Int} (hx : 1 ≤ x ∧ x ≤ 9) (hy : 1 ≤ y ∧ y ≤ 9) : 4 ≤ 4 * x * y ∧ 4 * x * y ≤ 324 := by
  obtain ⟨h1, h2⟩ := hx
  have a := Int.mul_le_mul_of_nonneg_left hy.1 (show 0 ≤ 4 * x by omega)
  have b := Int.mul_le_mul_of_nonneg_left hy.2 (show 0 ≤ 4 * x by omega)
  omega
theorem rep_flat (n : Nat) (d : PyData) : (List.replicate n [d]).flatten = List.replicate n d := by
  induction n with
  | zero => rfl
  | succ n ih => rw [List.replicate_succ, List.flatten_cons, ih]; rfl
theorem rd_repT {n : Int} (h : 2 ≤ n ∧ n ≤ 1000) : RvD K B (rRepT K) G (.tuple [d]) (.int n) (.tuple (List.replicate n.toNat d)) := fun u v G2 H2 _ e du dv Q q => by
  obtain ⟨a, xs, rfl, hs, hx⟩ := dp_tup du
  refine ⟨a, n, xs, rfl, dp_int dv, ex_t e.e hs, fun z => ?_, h.1, h.2, ?_, fun p hp => q _ _ _ (Ext.new e hp) (.tup (SqT.of upd_same) (dpAll_mono (Ex.new (e.e.off hp)) ?_))⟩
  · subst z
    cases hx
  · rw [dpAll_len hx]
    exact Nat.le_of_ble_eq_true rfl
  · rw [← rep_flat]
    generalize n.toNat = m
    induction m with
    | zero => exact .nil
    | succ m ih =>
      simp only [List.replicate_succ, List.flatten_cons]
      exact dpAll_app hx ih
end
end Lw

namespace Lw
open PySem.Spec PySem L2 PyProof.Rows
open Evl (Ex Ex.refl Ex.trans Ex.new Ex.off ex_rd ex_l ex_t)
/-! ### list comprehensions of any number of clauses -/
/-- what stands behind the tests of clause k - 1: clause k, or the item -/
def innW (M : Model) (A : Around) (elt : Expr) (gens : List Comprehension) (scope : Scope) (pos : Pos) (k : Nat) (acc : Value) (env : Env) (E : Value → Shared → Prop) (Nx : Shared → Prop) (s : Shared) : Prop :=
  match gens[k]? with
  | some g => wpAny M A (eval g.iter env) (fun x s1 => wpAny M A (pyIter x) (fun j s2 => codeAny M A (.compStart (.ListComp elt gens scope pos) k j acc env) (fun r s3 => match r with
      | .ok _ => Nx s3
      | .error _ => False) s2) E s1) E s
  | none => wpAny M A (eval elt env) (fun x s1 => wpAny M A (call (.builtin "list.append") [acc, x]) (fun _ s2 => Nx s2) E s1) E s
/-- one turn of a clause -/
def turnW (M : Model) (A : Around) (tg : Expr) (ifs : List Expr) (it : Value) (env : Env) (E : Value → Shared → Prop) (Stop : Shared → Prop) (Inn Nx : Shared → Prop) (s : Shared) : Prop :=
  wpAny M A (pyNext it) (fun r s1 => match r with
    | none => Stop s1
    | some v => wpAny M A (letOwnedTupleGo tg it v) (fun _ s2 => wpAny M A (assign tg env v) (fun _ s3 =>
        wpAny M A (forIn ifs true fun c r => if r = true then (do
          let ok ← isTrue c env (eval c env)
          pure (ForInStep.yield ok)) else pure (ForInStep.yield r)) (fun b s4 => if b = true then Inn s4 else Nx s4) E s3) E s2) E s1) E s
section
variable {prog : Program} {w : World} {A : Around} {R : Result → Shared → Prop} {s : Shared} {elt tg iter : Expr} {ifs : List Expr} {gens : List Comprehension} {scope : Scope} {pos : Pos} {it acc : Value} {env : Env} {k : Nat}
theorem loop_turns (hk : gens[k]? = some ⟨tg, iter, ifs, 0⟩) (hn : ∀ g, gens[k + 1]? = some g → g.is_async = 0 ∧ ∀ x, foldedSetIterable g.iter env x = pure x) (I : Nat → Shared → Prop)
    (turn : ∀ n s, I n s → turnW (model prog w) A tg ifs it env (notedBy (model prog w) A env fun e s' => R (.error e) s') (fun s' => R (.ok .next) s')
      (innW (model prog w) A elt gens scope pos (k + 1) acc env (notedBy (model prog w) A env fun e s' => R (.error e) s') fun s' => ∃ m, m < n ∧ I m s') (fun s' => ∃ m, m < n ∧ I m s') s)
    (n : Nat) (h : I n s) : codeAny (model prog w) A (.compLoop (.ListComp elt gens scope pos) k it acc env) R s := by
  refine codeAny_loop rfl I (fun m t hI => ?_) n h
  show wpAny _ A ((compTurn (.ListComp elt gens scope pos) k it acc env).onRaise fun x => do
    noteFrame x env
    theTreesLotGoes x) _ _ t
  refine wpAny_noted ?_
  have z := turn m t hI
  unfold turnW at z
  unfold compTurn
  simp only [hk]
  refine wpAny_bind (wpAny_standAt (wpAny_bind (wpAny_mono z (fun r t1 h1 => ?_) fun _ _ q => q)))
  cases r with
  | none => exact wpAny_pure h1
  | some v =>
    refine wpAny_bind (wpAny_mono h1 (fun _ t2 h2 => ?_) fun _ _ q => q)
    refine wpAny_bind (wpAny_mono h2 (fun _ t3 h3 => ?_) fun _ _ q => q)
    refine wpAny_bind (wpAny_mono h3 (fun b t4 h4 => ?_) fun _ _ q => q)
    cases b with
    | false => exact wpAny_pure ⟨rfl, h4⟩
    | true =>
      have h4 : innW (model prog w) A elt gens scope pos (k + 1) acc env _ _ t4 := h4
      unfold innW at h4
      cases hg : gens[k + 1]? with
      | none =>
        rw [hg] at h4
        simp only [hg]
        show wpAny _ A ((do
          let _ ← call (.builtin "list.append") [acc, ← eval elt env]) >>= fun _ => again (.compLoop (.ListComp elt gens scope pos) k it acc env)) _ _ _
        refine wpAny_bind (wpAny_bind (wpAny_mono h4 (fun x t5 h5 => ?_) fun _ _ q => q))
        exact wpAny_bind (wpAny_mono h5 (fun _ t6 h6 => wpAny_pure (wpAny_pure ⟨rfl, h6⟩)) fun _ _ q => q)
      | some g =>
        rw [hg] at h4
        simp only [hg]
        obtain ⟨ga, gf⟩ := hn g hg
        have gb : (g.is_async != 0) = false := by rw [ga]; rfl
        refine wpAny_bind (wpAny_mono h4 (fun x t5 h5 => ?_) fun _ _ q => q)
        refine wpAny_bind ?_
        refine wpAny_standAt ?_
        simp only [gb, Bool.false_eq_true, if_false]
        refine wpAny_bind (wpAny_of_eq (gf x) (wpAny_bind (wpAny_holding (wpAny_mono h5 (fun j t6 h6 => ?_) fun _ _ q => q))))
        refine wpAny_bind ?_
        refine wpAny_runOwn ?_
        rw [Around.mark_none]
        refine codeAny_mono h6 fun r t7 hr => ?_
        cases r with
        | ok f =>
          first
            | exact wpAny_pure ⟨rfl, hr⟩
            | exact wpAny_bind <| wpAny_pure <| wpAny_pure ⟨rfl, hr⟩
        | error e => exact hr.elim
/-- a clause's start -/
theorem loop_start (hk : gens[k]? = some ⟨tg, iter, ifs, 0⟩) (h0 : codeAny (model prog w) A (.compLoop (.ListComp elt gens scope pos) k it acc env) R s)
    (h : wpAny (model prog w) A (pyIter it) (fun j s' => codeAny (model prog w) A (.compLoop (.ListComp elt gens scope pos) k j acc env) R s') (notedBy (model prog w) A env fun x s' => R (.error x) s') s) :
    codeAny (model prog w) A (.compStart (.ListComp elt gens scope pos) k it acc env) R s := by
  refine codeAny_of_tree ?_
  show wpAny _ _ ((compStart (.ListComp elt gens scope pos) k it acc env).onRaise fun x => do
    noteFrame x env
    standAt theWindowsPlace) _ _ s
  refine wpAny_notedAt ?_
  have hc : (clausesOf (.ListComp elt gens scope pos))[k]? = some ⟨tg, iter, ifs, 0⟩ := hk
  unfold compStart
  simp only [hc]
  refine (show wpAny _ _ (ask >>= _) _ _ s from wpAny_bind (wpAny_askSetting (wpAny_ite ?_)))
  split
  · first
      | exact wpAny_bind <| wpAny_pure <| wpAny_pure ⟨rfl, h0⟩
      | exact wpAny_pure ⟨rfl, h0⟩
  · first
      | exact wpAny_bind (wpAny_rule (wpAny_bind (wpAny_standAt (wpAny_bind (wpAny_mono h (fun j t hj => wpAny_pure (And.intro rfl hj)) fun _ _ q => q)))))
      | (refine wpAny_bind ?_
         refine wpAny_rule ?_
         show wpAny _ _ (standAt iter.pos >>= _) _ _ s
         exact wpAny_bind (wpAny_standAt (wpAny_bind (wpAny_mono h (fun j t hj => wpAny_pure (And.intro rfl hj)) fun _ _ q => q))))
end
/-- what a body of a clause asks: the new list, the slots, the heap, what is to be reached -/
abbrev TBd := Addr → L2.St → Hp → (Hp → Prop) → Prop
def bE (te : TE) : TBd := fun D σ H Nx => te σ H fun y H4 => ∃ acc, H4 D = some (.lst acc) ∧ acc.length < sizeLine ∧ Nx (upd H4 D (.lst (acc ++ [y])))
/-- the turns of a clause: `Z` at its end -/
def tTurns (J : It) (g : TG) (tt : TT) (tb : TBd) (vs : List Nat) (D : Addr) (σ : L2.St) (H1 : Hp) (Z : Hp → Prop) : Prop :=
  ∃ W : Nat → Nat → Hp → Prop, (∃ m, W 0 m H1) ∧ ∀ i m H, W i m H →
    (J.stop i H ∧ Z H) ∨ (J.go i H ∧ ∃ Nx : Hp → Prop, (∀ H', Nx H' → ∃ m', m' < m ∧ W (i + 1) m' H') ∧ ∀ x H', J.yld i H x H' →
      g x (wipe σ vs) H' fun σ2 H2 => wipe σ2 vs = wipe σ vs ∧ tt σ2 H2 fun b H3 => if b = true then tb D σ2 H3 Nx else Nx H3)
def bF (wi : TI) (g : TG) (tt : TT) (tb : TBd) (vs : List Nat) : TBd := fun D σ H Nx => wi σ H fun J H4 => tTurns J g tt tb vs D σ H4 Nx
def tLcB (wi : TI) (g : TG) (tt : TT) (tb : TBd) (vs : List Nat) : TE := fun σ H Q => wi σ H fun J H1 => ∀ D, H1 D = none → tTurns J g tt tb vs D σ (upd H1 D (.lst [])) fun H2 => Q (.ref D) H2
/-- the body behind clause k - 1 -/
structure PBd (Y : Cx) (elt : Expr) (gens : List Comprehension) (scope : Scope) (pos : Pos) (k : Nat) (vs : List Nat) (tb : TBd) : Prop where
  syn : ∀ g, gens[k]? = some g → g.is_async = 0 ∧ ∀ x, foldedSetIterable g.iter Y.env x = pure x
  run : ∀ (D : Addr) (pins : List (Addr × Obj)) (s : Shared) (σ : L2.St) (H : Hp) (Nx : Hp → Prop) (E : Value → Shared → Prop), Inv Y pins σ H s → tb D σ H Nx →
    innW (model Y.prog Y.w) Y.A elt gens scope pos k (.ref D) Y.env E (fun s' => ∃ σ' H', Inv Y pins σ' H' s' ∧ σ'.length = σ.length ∧ (∀ (j : Nat) v, j ∉ vs → σ[j]? = some (some v) → σ'[j]? = some (some v)) ∧ Nx H') s
section
variable {Y : Cx} {elt tg iter : Expr} {ifs : List Expr} {gens : List Comprehension} {scope : Scope} {pos : Pos} {k : Nat}
theorem pb_elt {te : TE} (hx : Y.xe = fun _ _ => False) (hk : gens[k]? = none) (he : PE Y elt te) : PBd Y elt gens scope pos k [] (bE te) where
  syn := fun g hg => by
    rw [hk] at hg
    cases hg
  run := fun D pins s σ H Nx E I h => by
    unfold innW
    rw [hk]
    have z := he.run pins s σ H _ I h
    rw [hx] at z
    refine thnF z fun u s1 h1 => ?_
    obtain ⟨y, H1, I1, r1, acc, hD, hz, nx⟩ := h1
    exact app_ok I1 hD hz r1 fun s2 I2 => ⟨σ, _, I2, rfl, fun _ _ _ e => e, nx⟩
/-- the turns of a clause, from an iterator on -/
theorem turns_run {J : It} {fp : List Addr} {it : Addr} {tn : Nat → Heap → Prop} {g : TG} {tt : TT} {tb : TBd} {vs vs' : List Nat} {D : Addr} {σ : L2.St} {H1 : Hp} {s1 : Shared} {pins : List (Addr × Obj)} {Z : Hp → Prop} {R : Result → Shared → Prop}
    (hx : Y.xe = fun _ _ => False) (hc : Y.calm = true) (hk : gens[k]? = some ⟨tg, iter, ifs, 0⟩) (hg : PG Y tg g) (ht : PTs Y ifs tt) (hv : ∀ i ∈ vs', i ∈ vs) (hb : PBd Y elt gens scope pos (k + 1) vs' tb)
    (T : Turn Y.prog Y.w Y.K tg J fp it tn) (I1 : Inv Y pins (wipe σ vs) H1 s1) (st : tn 0 s1.heap) (fo : ∀ H', (∀ b ∈ fp, H' b = none) → ∀ b ∈ fp, FpOk Y pins H' b) (fn : ∀ b ∈ fp, H1 b = none)
    (hT : tTurns J g tt tb vs D σ H1 Z) (hR : ∀ H' s', Inv Y pins (wipe σ vs) H' s' → Z H' → R (.ok .next) s') :
    codeAny (model Y.prog Y.w) Y.A (.compLoop (.ListComp elt gens scope pos) k (.ref it) (.ref D) Y.env) R s1 := by
  obtain ⟨W, ⟨m0, w0⟩, turn⟩ := hT
  refine loop_turns hk hb.syn (fun n s' => ∃ i H', Inv Y pins (wipe σ vs) H' s' ∧ tn i s'.heap ∧ (∀ b ∈ fp, H' b = none) ∧ W i n H') ?_ m0 ⟨0, H1, I1, st, fn, w0⟩
  intro n s5 inv
  obtain ⟨i, H5, I5, st5, n5, w5⟩ := inv
  unfold turnW
  rcases turn i n H5 w5 with ⟨stop, zz⟩ | ⟨go, Nx, hNx, step⟩
  · refine thnF (T.done Y rfl rfl rfl hc i pins s5 _ H5 (fun _ _ => False) I5 (fo H5 n5) st5 stop) fun r s6 hr => ?_
    obtain ⟨rfl, I6⟩ := hr
    exact hR H5 s6 I6 zz
  · refine thnF (T.item Y rfl rfl rfl hc i pins s5 _ H5 (fun _ _ => False) I5 (fo H5 n5) st5 go) fun r s6 hr => ?_
    obtain ⟨u, rfl, h6⟩ := hr
    refine thnF h6 fun _ s7 h7 => ?_
    obtain ⟨x, H7, I7, r7, y7, st7, n7⟩ := h7
    have J7 := I7.pinned (fo H7 n7) (T.obj _ _ st7)
    have z8 := hg.run _ s7 _ H7 x u _ J7 r7 (step x H7 y7)
    rw [hx] at z8
    refine thnF z8 fun _ s8 h8 => ?_
    obtain ⟨σ8, H8, I8, hw8, q8⟩ := h8
    have z9 := ht.run _ s8 σ8 H8 _ I8 q8
    rw [hx] at z9
    refine thnF z9 fun b s9 h9 => ?_
    obtain ⟨H9, I9, q9⟩ := h9
    have l8 : (wipe σ vs).length = σ8.length := by
      rw [← hw8]
      exact wipe_length σ8 vs
    have k8 : ∀ (j : Nat) v, (wipe σ vs)[j]? = some (some v) → σ8[j]? = some (some v) ∧ j ∉ vs := fun j v e => by
      rw [← hw8] at e
      exact wipe_some e
    have fin : ∀ {σ9 : L2.St} {t : Shared} {H' : Hp}, Inv Y (pins ++ pinsAt fp s7.heap) σ9 H' t → σ9.length = σ8.length → (∀ (j : Nat) v, j ∉ vs' → σ8[j]? = some (some v) → σ9[j]? = some (some v)) → Nx H' →
        ∃ m, m < n ∧ ∃ i H', Inv Y pins (wipe σ vs) H' t ∧ tn i t.heap ∧ (∀ b ∈ fp, H' b = none) ∧ W i m H' := fun {σ9 t H'} I' hl hk nx => by
      rcases hNx H' nx with ⟨m', hm, w'⟩
      have pn : ∀ b ∈ fp, ∀ o, s7.heap.get? b = some o → t.heap.get? b = some o ∧ H' b = none := fun b hb o e =>
        have z := I'.pin (b, o) (List.mem_append_right _ (List.mem_append_right _ (mem_pinsAt hb e)))
        ⟨z.1, z.2.1⟩
      refine ⟨m', hm, i + 1, H', I'.unpinned.weak (l8.trans hl.symm) (fun j v e => hk j v (fun c => (k8 j v e).2 (hv j c)) (k8 j v e).1), T.keep _ _ _ st7 (fun b hb o e => (pn b hb o e).1), fun b hb => ?_, w'⟩
      exact (T.obj _ _ st7 b hb).elim fun o z => (pn b hb o z.1).2
    cases b with
    | false =>
      have q9 : Nx H9 := q9
      exact fin I9 rfl (fun _ _ _ e => e) q9
    | true =>
      have q9 : tb D σ8 H9 Nx := q9
      have z := hb.run D _ s9 σ8 H9 Nx (notedBy (model Y.prog Y.w) Y.A Y.env fun e s' => R (.error e) s') I9 q9
      show innW _ _ _ _ _ _ _ _ _ _ _ _
      unfold innW at z ⊢
      cases hq : gens[k + 1]? with
      | none =>
        rw [hq] at z
        exact wpAny_mono z (fun x t1 h1 => wpAny_mono h1 (fun _ t2 h2 => by
          obtain ⟨σ', H', I', a, b, c⟩ := h2
          exact fin I' a b c) fun _ _ e => e) fun _ _ e => e
      | some g' =>
        rw [hq] at z
        exact wpAny_mono z (fun x t1 h1 => wpAny_mono h1 (fun _ t2 h2 => codeAny_mono h2 fun r t3 h3 => by
          cases r with
          | ok f =>
            obtain ⟨σ', H', I', a, b, c⟩ := h3
            exact fin I' a b c
          | error e => exact h3) fun _ _ e => e) fun _ _ e => e
theorem pb_for {wi : TI} {g : TG} {tt : TT} {tb : TBd} {vs vs' : List Nat} (hx : Y.xe = fun _ _ => False) (hc : Y.calm = true) (hk : gens[k]? = some ⟨tg, iter, ifs, 0⟩) (hi : PI Y tg iter wi) (hg : PG Y tg g) (ht : PTs Y ifs tt) (hv : ∀ i ∈ vs', i ∈ vs)
    (hb : PBd Y elt gens scope pos (k + 1) vs' tb) (hs : ∀ x, foldedSetIterable iter Y.env x = pure x := by intro _; rfl) : PBd Y elt gens scope pos k vs (bF wi g tt tb vs) where
  syn := fun g hg => by
    rw [hk] at hg
    obtain rfl := Option.some.inj hg
    exact ⟨rfl, hs⟩
  run := fun D pins s σ H Nx E I h => by
    unfold innW
    rw [hk]
    have z := hi.run pins s σ H _ I h
    rw [hx] at z
    refine thnF z fun u s1 h1 => thnF h1 fun itv s2 h2 => ?_
    rcases h2 with ⟨it, fp, tn, J, H2, rfl, I2, T, st2, f2, q⟩
    have lp := turns_run (s1 := s2) (Z := Nx) (R := fun r s3 => match r with
      | .ok _ => ∃ σ' H', Inv Y pins σ' H' s3 ∧ σ'.length = σ.length ∧ (∀ (j : Nat) v, j ∉ vs → σ[j]? = some (some v) → σ'[j]? = some (some v)) ∧ Nx H'
      | .error _ => False) hx hc hk hg ht hv hb T (I2.weak (wipe_length _ _) fun j v e => (wipe_some e).1) st2 (fun H' hn b hb => ⟨hn b hb, (f2 b hb).2⟩) (fun b hb => (f2 b hb).1) q
      fun H' s' I' zz => ⟨wipe σ vs, H', I', wipe_length _ _, fun j v hj e => by rw [wipe_out hj]; exact e, zz⟩
    exact loop_start hk lp (T.self Y.A 0 _ _ _ st2 lp)
end
section
variable {X : Cx} {elt tg iter : Expr} {ifs : List Expr} {gr : List Comprehension} {scope : Scope} {pos : Pos}
theorem lcB_core {pins : List (Addr × Obj)} {s : Shared} {σ : L2.St} {H : Hp} {Q : VK} {own : List (Str × Nat)} {vs' : List Nat} {pos' : Pos} {wi : TI} {g : TG} {tt : TT} {tb : TBd} {use : Option (Value → Sem Unit)} {Qf : Value → Shared → Prop}
    (hc : X.calm = true) (hN : X.N.Nodup) (I : Inv X pins σ H s) (hi : PI X tg iter wi) (ok : BlkOk X.N X.env.scope scope own) (hv : ∀ i ∈ vs', i ∈ own.map (·.2))
    (hg : ∀ (s : Shared) (H : Hp) (C : Addr) (cl : List (Str × Addr)) (fp : List Addr), PG (X.blk s H scope (compEnvC scope cl C X.env) fp) tg g)
    (ht : ∀ (s : Shared) (H : Hp) (C : Addr) (cl : List (Str × Addr)) (fp : List Addr), PTs (X.blk s H scope (compEnvC scope cl C X.env) fp) ifs tt)
    (hb : ∀ (s : Shared) (H : Hp) (C : Addr) (cl : List (Str × Addr)) (fp : List Addr), PBd (X.blk s H scope (compEnvC scope cl C X.env) fp) elt (⟨tg, iter, ifs, 0⟩ :: gr) scope pos 1 vs' tb)
    (hs : ∀ x, foldedSetIterable iter X.env x = pure x) (h : tLcB wi g tt tb (own.map (·.2)) σ H Q)
    (hRR : ∀ (D C : Addr) (s' : Shared) (m : Str → Option Value) (H' : Hp), Inv X pins σ H' s' → Q (.ref D) H' → s'.heap.Ns C m → FpOk X pins H' C → compPost (model X.prog X.w) X.A X.xe use Qf (.ref D) C (.ok .next) s') :
    wpAny (model X.prog X.w) X.A (comprehension (.ListComp elt (⟨tg, iter, ifs, 0⟩ :: gr) scope pos) scope X.env pos' (newList []) false (eval iter X.env) use) Qf X.xe s := by
  have fr : ∀ y ∈ scope.names, y.2 = .free → ∃ c, X.env.cells.lookup y.1 = some c := fun y hy e => (ok.free y hy e).elim (fun z => I.ok.has _ (.inl z)) fun z => I.ok.has _ (.inr z)
  refine wpAny_comprehension_free (use := use) rfl hs (closure_ok fr) ok.kind (fun y hy e => (by rw [ok.uniq y hy, e] : scope.names.lookup y.1 = some .local)) ?_
  refine thn (hi.run pins s σ H _ I h) fun u t1 h1 => thn h1 fun itv t2 h2 => ?_
  rcases h2 with ⟨it, fp, tn, J, H2, rfl, I2, T, st2, f2, q⟩
  refine wpAny_newObj_type (newEnv_comp ?_) (Nat.zero_le _)
  generalize eD : t2.heap.objs.size = D
  have nD : H2 D = none := I2.hok.fresh (Nat.le_of_eq eD)
  have qT := q D nD
  generalize e3 : ({ t2 with heap := t2.heap.push { cls := .type "list", data := .seq ([] : List Value).toArray } } : Shared) = t3
  have hp3 : t3.heap = t2.heap.push { cls := .type "list", data := .seq ([] : List Value).toArray } := by rw [← e3]
  have I3 : Inv X pins σ (upd H2 D (.lst [])) t3 := by
    rw [← e3]
    refine I2.laid (t' := t2.toks) (fun b o e => Heap.get?_push_of_some _ e) (Nat.le_of_eq eD) ⟨Nat.zero_le _, [], 0, .nil, ?_⟩
    exact eD ▸ Heap.get?_push_size _ rfl
  have lt2 : ∀ b ∈ fp, b < t2.heap.objs.size := fun b hb => (T.obj _ _ st2 b hb).elim fun o z => Heap.lt_size z.1
  have f3 : ∀ b ∈ fp, FpOk X pins (upd H2 D (.lst [])) b ∧ b < t3.heap.objs.size := fun b hb =>
    ⟨⟨by rw [upd_ne (by rw [← eD]; exact Nat.ne_of_lt (lt2 b hb))]; exact (f2 b hb).1, (f2 b hb).2⟩, by rw [hp3, Heap.size_push]; exact Nat.lt_succ_of_lt (lt2 b hb)⟩
  have st3 : tn 0 t3.heap := T.keep _ _ _ st2 fun b _ o e => hp3 ▸ Heap.get?_push_of_some _ e
  have I4 := block_start (X := X) (pins := pins) I3 ok hN f3
  generalize ecl : cellsFrom (t3.heap.objs.size + 1) scope.names (cloFrom X.env.cells scope.names []) = cl at I4
  generalize e4 : ({ t3 with heap := pushCells (t3.heap.push { cls := .type "dict", data := .dict #[] }) scope.names } : Shared) = t4 at I4
  have st4 : tn 0 t4.heap := T.keep _ _ _ st3 fun b _ o e => by
    rw [← e4]
    exact pushCells_keeps _ _ _ _ (Heap.get?_push_of_some _ e)
  have pg := hg t3 (upd H2 D (.lst [])) t3.heap.objs.size cl fp
  have pt := ht t3 (upd H2 D (.lst [])) t3.heap.objs.size cl fp
  have pb := hb t3 (upd H2 D (.lst [])) t3.heap.objs.size cl fp
  have lp := turns_run (Y := X.blk t3 (upd H2 D (.lst [])) scope (compEnvC scope cl t3.heap.objs.size X.env) fp) (s1 := t4) (pins := []) (Z := fun H' => Q (.ref D) H') (R := compPost (model X.prog X.w) X.A X.xe use Qf (.ref D) t3.heap.objs.size) rfl hc rfl pg pt hv pb T I4 st4
    (fun H' hn b hb => ⟨hn b hb, (I4.ok.exf b hb).1, I4.ok.exfs b hb, .inl hb, fun x c e => (I4.ok.exf b hb).2 x c e, fun p hp => absurd hp List.not_mem_nil⟩) (fun b hb => (f3 b hb).1.1) qT
    fun H5 s6 I6 zz => by
      have I7 : Inv X pins σ H5 s6 := I3.call' (ch := fp) I6.os I6.base I6.hok I6.bare fun b hb =>
        have z := (f3 b hb).1.2
        ⟨z.2.2.1, z.1, z.2.2.2.1, z.2.2.2.2⟩
      obtain ⟨m, hn, _⟩ := I6.loc
      exact hRR D t3.heap.objs.size s6 m H5 I7 zz hn (I3.fpOk (Nat.le_refl _) I6.free)
  subst eD e4 ecl
  exact codeAny_compStart_list lp (T.self X.A 0 _ _ _ st4 lp)
/-- as a value -/
theorem pe_lcB {own : List (Str × Nat)} {vs' : List Nat} {wi : TI} {g : TG} {tt : TT} {tb : TBd} (hc : X.calm = true) (hN : X.N.Nodup) (hi : PI X tg iter wi) (ok : BlkOk X.N X.env.scope scope own) (hv : ∀ i ∈ vs', i ∈ own.map (·.2))
    (hg : ∀ (s : Shared) (H : Hp) (C : Addr) (cl : List (Str × Addr)) (fp : List Addr), PG (X.blk s H scope (compEnvC scope cl C X.env) fp) tg g)
    (ht : ∀ (s : Shared) (H : Hp) (C : Addr) (cl : List (Str × Addr)) (fp : List Addr), PTs (X.blk s H scope (compEnvC scope cl C X.env) fp) ifs tt)
    (hb : ∀ (s : Shared) (H : Hp) (C : Addr) (cl : List (Str × Addr)) (fp : List Addr), PBd (X.blk s H scope (compEnvC scope cl C X.env) fp) elt (⟨tg, iter, ifs, 0⟩ :: gr) scope pos 1 vs' tb) (hs : ∀ x, foldedSetIterable iter X.env x = pure x := by intro _; rfl) :
    PE X (.ListComp elt (⟨tg, iter, ifs, 0⟩ :: gr) scope pos) (tLcB wi g tt tb (own.map (·.2))) := by
  constructor
  intro pins s σ H Q I h
  rw [eval_ListComp]
  refine lcB_core hc hN I hi ok hv hg ht hb hs h fun D C s' m H' I' q hn f => ⟨m, hn, fun h2 sb => ?_⟩
  exact ⟨.ref D, H', I'.turned (t' := s'.toks) (fun b o hb e => (sb.2 b hb).trans e) f.1 f.2.1 f.2.2.2.1 f.2.2.2.2.1 f.2.2.2.2.2, rfl, q⟩
end
end Lw

namespace Lw
open PySem.Spec PySem L2 PyProof.Rows
open Evl (Ex Ex.refl Ex.trans Ex.new Ex.off ex_rd ex_l ex_t)
section
variable {K : Fg} {B : Bg} {G G' H : Hp} {σ : L2.St} {te ta : TE} {tr : TA} {tt : TT} {tb : TBd} {d : PyData} {ds es new : List PyData}
/-- a body that appends `new` -/
def EvBd (K : Fg) (B : Bg) (tb : TBd) (σ : L2.St) (G : Hp) (new : List PyData) : Prop :=
  ∀ (D : Addr) (G1 H1 G3 H3 : Hp) (xs : List V) (es : List PyData) (Nx : Hp → Prop), Ex G G3 → Cel K B G → H1 D = none → ¬ isB B D → Ext K B G1 H1 G3 H3 → G3 D = none → H3 D = some (.lst xs) → DpAll K G3 xs es → es.length + new.length ≤ 100000 →
    (∀ G4 H4 ys, Ext K B G1 H1 G4 H4 → Ex G3 G4 → G4 D = none → H4 D = some (.lst ys) → DpAll K G4 ys (es ++ new) → Nx H4) → tb D σ H3 Nx
theorem EvBd.is {m : List PyData} (h : EvBd K B tb σ G new) (e : new = m) : EvBd K B tb σ G m := e ▸ h
theorem EvBd.mono (e : Ex G G') (c : Cel K B G) (h : EvBd K B tb σ G new) : EvBd K B tb σ G' new := fun D G1 H1 G3 H3 xs es Nx e3 _ => h D G1 H1 G3 H3 xs es Nx (e.trans e3) c
theorem bd_E (h : EvD K B te σ G d) : EvBd K B (bE te) σ G [d] := fun D G1 H1 G3 H3 xs es Nx e3 c hD nb X g3 h3 hx hl k => by
  refine h.mono e3 c H3 X.ok _ fun y G5 H5 X5 dy => ?_
  have h5 := X5.hh D _ nb h3
  have g5 := X5.fr D _ h3 g3
  have z : es.length + 1 ≤ 100000 := hl
  refine ⟨xs, h5, by rw [dpAll_len hx]; exact szl (by omega), ?_⟩
  have Y := X.trans X5
  refine k G5 _ (xs ++ [y]) ⟨Y.gg, fun a u n q => ?_, Y.fr, Y.ok.mut g5 nb⟩ X5.gg g5 upd_same (dpAll_app (dpAll_mono X5.gg hx) (.cons dy .nil))
  rw [upd_ne (ne_of_none q hD)]
  exact Y.hh a u n q
/-- a test ahead of it -/
theorem bd_T {b : Bool} (ht : EvB K B tt σ G b) (h : b = true → EvBd K B tb σ G new) (hn : b = false → new = []) : EvBd K B (fun D σ H Nx => tt σ H fun c H3 => if c = true then tb D σ H3 Nx else Nx H3) σ G new := fun D G1 H1 G3 H3 xs es Nx e3 c hD nb X g3 h3 hx hl k => by
  refine ht.mono e3 c H3 X.ok _ fun G4 H4 X4 => ?_
  have g4 := X4.fr D _ h3 g3
  have h4 := X4.hh D _ nb h3
  have a4 := dpAll_mono X4.gg hx
  cases b with
  | false =>
    show (if false = true then _ else _)
    rw [ifF]
    refine k G4 H4 xs (X.trans X4) X4.gg g4 h4 ?_
    rw [hn rfl, List.append_nil]
    exact a4
  | true =>
    refine (show (if true = true then _ else _) from ?_)
    rw [if_pos rfl]
    exact h rfl D G1 H1 G4 H4 xs es Nx (e3.trans X4.gg) c hD nb (X.trans X4) g4 h4 a4 hl fun G5 H5 ys X5 e5 => k G5 H5 ys X5 (X4.gg.trans e5)
theorem wipe_set {i : Nat} {v : V} : ∀ {vs : List Nat} {σ : L2.St}, i ∈ vs → wipe ((wipe σ vs).set i (some v)) vs = wipe σ vs := by
  intro vs σ hi
  apply List.ext_getElem?
  intro j
  by_cases c : j ∈ vs
  · have z : ∀ {us : List Nat} {τ : L2.St}, j ∈ us → (wipe τ us)[j]? = if j < τ.length then some none else none := by
      intro us
      induction us with
      | nil => intro τ h; cases h
      | cons u us ih =>
        intro τ h
        unfold wipe
        by_cases e : u = j
        · subst e
          rw [List.getElem?_set]
          rw [if_pos rfl, wipe_length]
        · rw [List.getElem?_set_ne e]
          exact ih ((List.mem_cons.mp h).resolve_left fun q => e q.symm)
    rw [z c, z c, List.length_set, wipe_length]
  · rw [wipe_out c, wipe_out c, List.getElem?_set_ne (fun e : i = j => c (by rw [← e]; exact hi)), wipe_out c]
theorem turns_range {n i : Nat} {vs : List Nat} {D : Addr} {H1 : Hp} {Z : Hp → Prop} (Pv : Nat → Hp → Prop) (hi : i ∈ vs) (h0 : Pv 0 H1)
    (hs : ∀ (j : Nat) H, j < n → Pv j H → (tt ((wipe σ vs).set i (some (.int (j : Int)))) H fun b H3 => if b = true then tb D ((wipe σ vs).set i (some (.int (j : Int)))) H3 (Pv (j + 1)) else Pv (j + 1) H3)) (hd : ∀ H, Pv n H → Z H) :
    tTurns (Itr 0 n) (gName i) tt tb vs D σ H1 Z := by
  refine ⟨fun j m H => m = n - j ∧ j ≤ n ∧ Pv j H, ⟨n, by omega, Nat.zero_le _, h0⟩, ?_⟩
  rintro j m H ⟨rfl, hj, p⟩
  by_cases c : j < n
  · refine .inr ⟨c, Pv (j + 1), fun H' p' => ⟨n - (j + 1), by omega, rfl, c, p'⟩, fun x H' y => ?_⟩
    obtain ⟨rfl, rfl⟩ := y
    rw [Int.zero_add]
    exact ⟨wipe_set hi, hs j _ c p⟩
  · obtain rfl : j = n := by omega
    exact .inl ⟨Nat.le_refl j, hd H p⟩
theorem flat_one {α β : Type} (f : Nat → List β) (j : Nat) : (List.range (j + 1)).flatMap f = (List.range j).flatMap f ++ f j := by
  rw [List.range_succ, List.flatMap_append, List.flatMap_cons, List.flatMap_nil, List.append_nil]
theorem flat_len {β : Type} (f : Nat → List β) {j n : Nat} (h : j ≤ n) : ((List.range j).flatMap f).length ≤ ((List.range n).flatMap f).length := by
  obtain ⟨m, rfl⟩ := Nat.exists_eq_add_of_le h
  rw [List.range_add, List.flatMap_append, List.length_append]
  omega
/-- for x in range(n) if t, within -/
theorem bd_R {i n : Nat} {vs : List Nat} {b : Nat → Bool} {f : Nat → List PyData} (ha : EvA K B tr σ G [.int (n : Int)]) (hi : i ∈ vs)
    (ht : ∀ j, j < n → EvB K B tt ((wipe σ vs).set i (some (.int (j : Int)))) G (b j)) (hb : ∀ j, j < n → b j = true → EvBd K B tb ((wipe σ vs).set i (some (.int (j : Int)))) G (f j)) (hn : ∀ j, j < n → b j = false → f j = []) (hm : n ≤ 100000) :
    EvBd K B (bF (iRng1 tr) (gName i) tt tb vs) σ G ((List.range n).flatMap f) := fun D G1 H1 G3 H3 xs es Nx e3 c hD nb X g3 h3 hx hl k => by
  refine ha.mono e3 c H3 X.ok _ fun us G4 H4 X4 dv => ?_
  have ev : us = [.int (n : Int)] := by
    cases dv with
    | cons h a =>
      cases a
      rw [dp_int h]
  refine ⟨(n : Int), ev, by omega, by omega, ?_⟩
  show tTurns (Itr 0 (n : Int).toNat) (gName i) tt tb vs D σ H4 Nx
  rw [Int.toNat_natCast]
  refine turns_range (fun j H' => ∃ G' ys, Ext K B G1 H1 G' H' ∧ Ex G3 G' ∧ G' D = none ∧ H' D = some (.lst ys) ∧ DpAll K G' ys (es ++ (List.range j).flatMap f)) hi ⟨G4, xs, X.trans X4, X4.gg, X4.fr D _ h3 g3, X4.hh D _ nb h3, ?_⟩ ?_ ?_
  · rw [List.range_zero, List.flatMap_nil, List.append_nil]
    exact dpAll_mono X4.gg hx
  · rintro j H' hj ⟨G', ys, X', e', g', h', a'⟩
    have lj := flat_len f (show j + 1 ≤ n from hj)
    rw [flat_one (α := Nat), List.length_append] at lj
    refine bd_T (ht j hj) (hb j hj) (hn j hj) D G1 H1 G' H' ys _ _ (e3.trans e') c hD nb X' g' h' a' (by rw [List.length_append]; omega) fun G5 H5 zs X5 e5 g5 h5 a5 => ⟨G5, zs, X5, e'.trans e5, g5, h5, ?_⟩
    rw [flat_one (α := Nat), ← List.append_assoc]
    exact a5
  · rintro H' ⟨G', ys, X', e', g', h', a'⟩
    exact k G' H' ys X' e' g' h' a'
/-- [.. for x in range(n) if t ..] -/
theorem ef_lcBR {i n : Nat} {vs : List Nat} {b : Nat → Bool} {f : Nat → List PyData} (ha : EvA K B tr σ G [.int (n : Int)]) (hi : i ∈ vs)
    (ht : ∀ j, j < n → EvB K B tt ((wipe σ vs).set i (some (.int (j : Int)))) G (b j)) (hb : ∀ j, j < n → b j = true → EvBd K B tb ((wipe σ vs).set i (some (.int (j : Int)))) G (f j)) (hn : ∀ j, j < n → b j = false → f j = []) (hm : n ≤ 100000) (hl : ((List.range n).flatMap f).length ≤ 100000) :
    EvF K B (tLcB (iRng1 tr) (gName i) tt tb vs) σ G ((List.range n).flatMap f) := fun H e Q q =>
  ha H e _ fun us G1 H1 X dv => by
    have ev : us = [.int (n : Int)] := by
      cases dv with
      | cons h a =>
        cases a
        rw [dp_int h]
    refine ⟨(n : Int), ev, by omega, by omega, fun D hD => ?_⟩
    have nb := X.ok.b.ne hD
    show tTurns (Itr 0 (n : Int).toNat) (gName i) tt tb vs D σ (upd H1 D (.lst [])) _
    rw [Int.toNat_natCast]
    refine turns_range (fun j H' => ∃ G' ys, Ext K B G1 H1 G' H' ∧ G' D = none ∧ H' D = some (.lst ys) ∧ DpAll K G' ys ((List.range j).flatMap f)) hi ⟨G1, [], Ext.loose X.ok hD, X.ok.e.off hD, upd_same, .nil⟩ ?_ ?_
    · rintro j H' hj ⟨G', ys, X', g', h', a'⟩
      have lj := flat_len f (show j + 1 ≤ n from hj)
      rw [flat_one (α := Nat), List.length_append] at lj
      refine bd_T (ht j hj) (hb j hj) (hn j hj) D G1 H1 G' H' ys _ _ (X.gg.trans X'.gg) e.c hD nb X' g' h' a' (by omega) fun G5 H5 zs X5 e5 g5 h5 a5 => ⟨G5, zs, X5, g5, h5, ?_⟩
      rw [flat_one (α := Nat)]
      exact a5
    · rintro H' ⟨G', ys, X', g', h', a'⟩
      exact q D ys G' H' (X.trans X') (X.old nb hD) g' nb h' a'
variable {D : Ends} {t : TS}
theorem st_forL {i : Nat} {Pv : Nat → L2.St → Hp → Hp → Prop} (h : EvD K B te σ G (.list ds)) (e : Ok K B G H) (h0 : ∀ G2 H2, Ext K B G H G2 H2 → Pv 0 σ G2 H2)
    (hs : ∀ G1 H1, Ext K B G H G1 H1 → ∀ (j : Nat) d v σ' G' H', ds[j]? = some d → Ext K B G1 H1 G' H' → Pv j σ' G' H' → Dp K G' v d →
      t (lpE D tNext fun σ2 H2 => ∃ G2, Ext K B G1 H1 G2 H2 ∧ Pv (j + 1) σ2 G2 H2) (σ'.set i (some v)) H')
    (hd : ∀ σ' G' H', Ext K B G H G' H' → Pv ds.length σ' G' H' → D.nx σ' H') : tFor (iList K te) (gName i) t D σ H := sq_forL (u := tNext) h e h0 hs hd
theorem es_tup {S : List PyData → Prop} (h : EvAS K B tr σ G S) (hl : ∀ ds, S ds → ds.length ≤ 100000) : EvS K B (tTup tr) σ G (fun d => ∃ ds, d = .tuple ds ∧ S ds) := fun H e Q q =>
  h H e _ fun ds vs G2 H2 s X dv => ⟨by rw [dpAll_len dv]; exact sz (hl ds s), fun p hp =>
    q _ _ _ _ ⟨ds, rfl, s⟩ (X.trans (Ext.new X.ok hp)) (.tup (SqT.of upd_same) (dpAll_mono (Ex.new (X.ok.e.off hp)) dv))⟩
end
end Lw


namespace K01
open PySem.Spec PySem L2 PyProof.Rows Lw
open Evl (Ex Ex.refl Ex.trans Ex.new Ex.off ex_rd ex_l ex_t)
set_option maxHeartbeats 0
def top (i : Nat) : Stmt := PySem.Challenge.pw_leadlight_k01_turns_and_steps.main.body.getD i (.Pass ⟨0, 0, 0, 0⟩)
abbrev s_check_turn : Stmt := top 6
def d_check_turn : He.DefD := ⟨("check_turn", none), "check_turn", "check_turn", defArgs s_check_turn, defBody s_check_turn, defScope s_check_turn, [], []⟩
abbrev s_back : Stmt := top 7
def d_back : He.DefD := ⟨("back", none), "back", "back", defArgs s_back, defBody s_back, defScope s_back, [], []⟩
abbrev s_step : Stmt := top 8
def d_step : He.DefD := ⟨("step", none), "step", "step", defArgs s_step, defBody s_step, defScope s_step, [.int 1], []⟩
abbrev s_lead : Stmt := top 9
def d_lead : He.DefD := ⟨("lead", none), "lead", "lead", defArgs s_lead, defBody s_lead, defScope s_lead, [], []⟩
abbrev s_ends : Stmt := top 10
def d_ends : He.DefD := ⟨("ends", none), "ends", "ends", defArgs s_ends, defBody s_ends, defScope s_ends, [], []⟩
abbrev s__law_bag : Stmt := top 12
def d__law_bag : He.DefD := ⟨("_law_bag", none), "_law_bag", "_law_bag", defArgs s__law_bag, defBody s__law_bag, defScope s__law_bag, [], []⟩
abbrev s__law_pull : Stmt := top 13
def d__law_pull : He.DefD := ⟨("_law_pull", none), "_law_pull", "_law_pull", defArgs s__law_pull, defBody s__law_pull, defScope s__law_pull, [], []⟩
abbrev s__law_whole : Stmt := top 14
def d__law_whole : He.DefD := ⟨("_law_whole", none), "_law_whole", "_law_whole", defArgs s__law_whole, defBody s__law_whole, defScope s__law_whole, [], []⟩
abbrev s__law_same : Stmt := top 15
def d__law_same : He.DefD := ⟨("_law_same", none), "_law_same", "_law_same", defArgs s__law_same, defBody s__law_same, defScope s__law_same, [], []⟩
abbrev s__law_go : Stmt := top 16
def d__law_go : He.DefD := ⟨("_law_go", none), "_law_go", "_law_go", defArgs s__law_go, defBody s__law_go, defScope s__law_go, [], []⟩
abbrev s__law_name : Stmt := top 17
def d__law_name : He.DefD := ⟨("_law_name", none), "_law_name", "_law_name", defArgs s__law_name, defBody s__law_name, defScope s__law_name, [], []⟩
abbrev s__law_tips : Stmt := top 18
def d__law_tips : He.DefD := ⟨("_law_tips", none), "_law_tips", "_law_tips", defArgs s__law_tips, defBody s__law_tips, defScope s__law_tips, [], []⟩
abbrev s__law_asked : Stmt := top 19
def d__law_asked : He.DefD := ⟨("_law_asked", none), "_law_asked", "_law_asked", defArgs s__law_asked, defBody s__law_asked, defScope s__law_asked, [], []⟩
abbrev s__law_said : Stmt := top 20
def d__law_said : He.DefD := ⟨("_law_said", none), "_law_said", "_law_said", defArgs s__law_said, defBody s__law_said, defScope s__law_said, [], []⟩
abbrev s_law : Stmt := top 21
def d_law : He.DefD := ⟨("law", none), "law", "law", defArgs s_law, defBody s_law, defScope s_law, [], []⟩
def fn : List He.DefD := [d_check_turn, d_back, d_step, d_lead, d_ends, d__law_bag, d__law_pull, d__law_whole, d__law_same, d__law_go, d__law_name, d__law_tips, d__law_asked, d__law_said, d_law]
def fa0 : List He.Fa := [.glo "LeadError", .glo "BadTurn", .glo "RIGHT", .glo "DOWN", .glo "check_turn", .glo "back", .glo "step", .glo "lead", .glo "ends", .glo "_law_bag", .glo "_law_pull", .glo "_law_whole", .glo "_law_same", .glo "_law_go", .glo "_law_name", .glo "_law_tips", .glo "_law_asked", .glo "_law_said", .glo "law", .free "ValueError", .free "all", .free "bool", .free "int", .free "isinstance", .free "len", .free "list", .free "range", .free "str", .free "tuple", .exc "LeadError"]
def fa1 : List He.Fa := [.exc "BadTurn"]
def fa : List He.Fa := fa0 ++ fa1
def exL (K : PySem.W.Frag) : List Bool := [He.tupB K "RIGHT" [.int 1, .int 1, .int 0, .int (-1), .int (-1), .int (-1), .int 0, .int 1],
  He.tupB K "DOWN" [.int 0, .int 1, .int 1, .int 1, .int 0, .int (-1), .int (-1), .int (-1)],
  decide (PySem.W.exmOne K (.ref (He.ga K "LeadError")) (.ref (He.ga K "LeadError")) = some true),
  decide (PySem.W.kitOne K (.ref (He.ga K "LeadError")) (.ref (He.ga K "LeadError")) = some true),
  decide (PySem.W.exmOne K (.ref (He.ga K "LeadError")) (.ref (He.ga K "BadTurn")) = some false),
  decide (PySem.W.kitOne K (.ref (He.ga K "LeadError")) (.ref (He.ga K "BadTurn")) = some false),
  decide (PySem.W.kitOne K (.ref (He.ga K "LeadError")) (.type "ValueError") = some true),
  excCB K (He.ga K "LeadError"),
  decide (PySem.W.exmOne K (.ref (He.ga K "BadTurn")) (.ref (He.ga K "LeadError")) = some true),
  decide (PySem.W.kitOne K (.ref (He.ga K "BadTurn")) (.ref (He.ga K "LeadError")) = some true),
  decide (PySem.W.exmOne K (.ref (He.ga K "BadTurn")) (.ref (He.ga K "BadTurn")) = some true),
  decide (PySem.W.kitOne K (.ref (He.ga K "BadTurn")) (.ref (He.ga K "BadTurn")) = some true),
  decide (PySem.W.kitOne K (.ref (He.ga K "BadTurn")) (.type "ValueError") = some true),
  excCB K (He.ga K "BadTurn")]
def exB (K : PySem.W.Frag) : Bool := (exL K).all id
structure Txt (K : PySem.W.Frag) (mg : Str → Option Value) : Prop where
  ex : ∃ h : Heap, K.In h ∧ h.Ns mainGlobals mg
  c : He.SaysD fa fn K
  more : exB K = true
theorem Txt.of {K : PySem.W.Frag} {mg : Str → Option Value} {h : Heap} (X : K.In h) (G : h.Ns mainGlobals mg) (c : He.SaysD fa fn K) (m : exB K = true) : Txt K mg := ⟨⟨h, X, G⟩, c, m⟩
theorem Txt.at_ {K : PySem.W.Frag} {mg : Str → Option Value} (T : Txt K mg) (i : Nat) {b : Bool} (h : (exL K)[i]? = some b) : b = true := by
  have z := List.all_eq_true.mp (show (exL K).all id = true from T.more) b (List.mem_of_getElem? h)
  exact z
section
variable {K : PySem.W.Frag} {mg : Str → Option Value} (T : Txt K mg)
include T
theorem Txt.g_LeadError : mg "LeadError" = some (.ref (He.ga K "LeadError")) := by
  obtain ⟨h, X, G⟩ := T.ex
  exact He.glo_ok X G (T.c.fact 0 (f := .glo "LeadError") rfl)
theorem Txt.g_BadTurn : mg "BadTurn" = some (.ref (He.ga K "BadTurn")) := by
  obtain ⟨h, X, G⟩ := T.ex
  exact He.glo_ok X G (T.c.fact 1 (f := .glo "BadTurn") rfl)
theorem Txt.g_RIGHT : mg "RIGHT" = some (.ref (He.ga K "RIGHT")) := by
  obtain ⟨h, X, G⟩ := T.ex
  exact He.glo_ok X G (T.c.fact 2 (f := .glo "RIGHT") rfl)
theorem Txt.g_DOWN : mg "DOWN" = some (.ref (He.ga K "DOWN")) := by
  obtain ⟨h, X, G⟩ := T.ex
  exact He.glo_ok X G (T.c.fact 3 (f := .glo "DOWN") rfl)
theorem Txt.g_check_turn : mg "check_turn" = some (.ref (He.ga K "check_turn")) := by
  obtain ⟨h, X, G⟩ := T.ex
  exact He.glo_ok X G (T.c.fact 4 (f := .glo "check_turn") rfl)
theorem Txt.g_back : mg "back" = some (.ref (He.ga K "back")) := by
  obtain ⟨h, X, G⟩ := T.ex
  exact He.glo_ok X G (T.c.fact 5 (f := .glo "back") rfl)
theorem Txt.g_step : mg "step" = some (.ref (He.ga K "step")) := by
  obtain ⟨h, X, G⟩ := T.ex
  exact He.glo_ok X G (T.c.fact 6 (f := .glo "step") rfl)
theorem Txt.g_lead : mg "lead" = some (.ref (He.ga K "lead")) := by
  obtain ⟨h, X, G⟩ := T.ex
  exact He.glo_ok X G (T.c.fact 7 (f := .glo "lead") rfl)
theorem Txt.g_ends : mg "ends" = some (.ref (He.ga K "ends")) := by
  obtain ⟨h, X, G⟩ := T.ex
  exact He.glo_ok X G (T.c.fact 8 (f := .glo "ends") rfl)
theorem Txt.g__law_bag : mg "_law_bag" = some (.ref (He.ga K "_law_bag")) := by
  obtain ⟨h, X, G⟩ := T.ex
  exact He.glo_ok X G (T.c.fact 9 (f := .glo "_law_bag") rfl)
theorem Txt.g__law_pull : mg "_law_pull" = some (.ref (He.ga K "_law_pull")) := by
  obtain ⟨h, X, G⟩ := T.ex
  exact He.glo_ok X G (T.c.fact 10 (f := .glo "_law_pull") rfl)
theorem Txt.g__law_whole : mg "_law_whole" = some (.ref (He.ga K "_law_whole")) := by
  obtain ⟨h, X, G⟩ := T.ex
  exact He.glo_ok X G (T.c.fact 11 (f := .glo "_law_whole") rfl)
theorem Txt.g__law_same : mg "_law_same" = some (.ref (He.ga K "_law_same")) := by
  obtain ⟨h, X, G⟩ := T.ex
  exact He.glo_ok X G (T.c.fact 12 (f := .glo "_law_same") rfl)
theorem Txt.g__law_go : mg "_law_go" = some (.ref (He.ga K "_law_go")) := by
  obtain ⟨h, X, G⟩ := T.ex
  exact He.glo_ok X G (T.c.fact 13 (f := .glo "_law_go") rfl)
theorem Txt.g__law_name : mg "_law_name" = some (.ref (He.ga K "_law_name")) := by
  obtain ⟨h, X, G⟩ := T.ex
  exact He.glo_ok X G (T.c.fact 14 (f := .glo "_law_name") rfl)
theorem Txt.g__law_tips : mg "_law_tips" = some (.ref (He.ga K "_law_tips")) := by
  obtain ⟨h, X, G⟩ := T.ex
  exact He.glo_ok X G (T.c.fact 15 (f := .glo "_law_tips") rfl)
theorem Txt.g__law_asked : mg "_law_asked" = some (.ref (He.ga K "_law_asked")) := by
  obtain ⟨h, X, G⟩ := T.ex
  exact He.glo_ok X G (T.c.fact 16 (f := .glo "_law_asked") rfl)
theorem Txt.g__law_said : mg "_law_said" = some (.ref (He.ga K "_law_said")) := by
  obtain ⟨h, X, G⟩ := T.ex
  exact He.glo_ok X G (T.c.fact 17 (f := .glo "_law_said") rfl)
theorem Txt.g_law : mg "law" = some (.ref (He.ga K "law")) := by
  obtain ⟨h, X, G⟩ := T.ex
  exact He.glo_ok X G (T.c.fact 18 (f := .glo "law") rfl)
theorem Txt.f_ValueError : mg "ValueError" = none := by
  obtain ⟨h, X, G⟩ := T.ex
  exact He.free_ok X G (T.c.fact 19 (f := .free "ValueError") rfl)
theorem Txt.f_all : mg "all" = none := by
  obtain ⟨h, X, G⟩ := T.ex
  exact He.free_ok X G (T.c.fact 20 (f := .free "all") rfl)
theorem Txt.f_bool : mg "bool" = none := by
  obtain ⟨h, X, G⟩ := T.ex
  exact He.free_ok X G (T.c.fact 21 (f := .free "bool") rfl)
theorem Txt.f_int : mg "int" = none := by
  obtain ⟨h, X, G⟩ := T.ex
  exact He.free_ok X G (T.c.fact 22 (f := .free "int") rfl)
theorem Txt.f_isinstance : mg "isinstance" = none := by
  obtain ⟨h, X, G⟩ := T.ex
  exact He.free_ok X G (T.c.fact 23 (f := .free "isinstance") rfl)
theorem Txt.f_len : mg "len" = none := by
  obtain ⟨h, X, G⟩ := T.ex
  exact He.free_ok X G (T.c.fact 24 (f := .free "len") rfl)
theorem Txt.f_list : mg "list" = none := by
  obtain ⟨h, X, G⟩ := T.ex
  exact He.free_ok X G (T.c.fact 25 (f := .free "list") rfl)
theorem Txt.f_range : mg "range" = none := by
  obtain ⟨h, X, G⟩ := T.ex
  exact He.free_ok X G (T.c.fact 26 (f := .free "range") rfl)
theorem Txt.f_str : mg "str" = none := by
  obtain ⟨h, X, G⟩ := T.ex
  exact He.free_ok X G (T.c.fact 27 (f := .free "str") rfl)
theorem Txt.f_tuple : mg "tuple" = none := by
  obtain ⟨h, X, G⟩ := T.ex
  exact He.free_ok X G (T.c.fact 28 (f := .free "tuple") rfl)
theorem Txt.x_LeadError : PySem.W.excIn K (He.ga K "LeadError") He.veBase "ValueError.__new__" = true := (He.exc_ok (T.c.fact 29 (f := .exc "LeadError") rfl)).1
theorem Txt.k_LeadError : PySem.W.keepIn K (.ref (He.ga K "LeadError")) = true := (He.exc_ok (T.c.fact 29 (f := .exc "LeadError") rfl)).2.1
theorem Txt.b_LeadError : PySem.W.subIn K (.ref (He.ga K "LeadError")) (.type "BaseException") = some true := (He.exc_ok (T.c.fact 29 (f := .exc "LeadError") rfl)).2.2.1
theorem Txt.t_LeadError : PySem.W.typeIn K (.ref (He.ga K "LeadError")) = some (.type "type") := (He.exc_ok (T.c.fact 29 (f := .exc "LeadError") rfl)).2.2.2
theorem Txt.x_BadTurn : PySem.W.excIn K (He.ga K "BadTurn") He.veBase "ValueError.__new__" = true := (He.exc_ok (T.c.fact 30 (f := .exc "BadTurn") rfl)).1
theorem Txt.k_BadTurn : PySem.W.keepIn K (.ref (He.ga K "BadTurn")) = true := (He.exc_ok (T.c.fact 30 (f := .exc "BadTurn") rfl)).2.1
theorem Txt.b_BadTurn : PySem.W.subIn K (.ref (He.ga K "BadTurn")) (.type "BaseException") = some true := (He.exc_ok (T.c.fact 30 (f := .exc "BadTurn") rfl)).2.2.1
theorem Txt.t_BadTurn : PySem.W.typeIn K (.ref (He.ga K "BadTurn")) = some (.type "type") := (He.exc_ok (T.c.fact 30 (f := .exc "BadTurn") rfl)).2.2.2
theorem Txt.sq_RIGHT (H : Hp) : SqT K H (He.ga K "RIGHT") [.int 1, .int 1, .int 0, .int (-1), .int (-1), .int (-1), .int 0, .int 1] := He.tupB_ok (T.at_ 0 rfl) H
theorem Txt.sq_DOWN (H : Hp) : SqT K H (He.ga K "DOWN") [.int 0, .int 1, .int 1, .int 1, .int 0, .int (-1), .int (-1), .int (-1)] := He.tupB_ok (T.at_ 1 rfl) H
theorem Txt.exm_LeadError_LeadError : PySem.W.exmOne K (.ref (He.ga K "LeadError")) (.ref (He.ga K "LeadError")) = some true := of_decide_eq_true (T.at_ 2 rfl)
theorem Txt.kit_LeadError_LeadError : PySem.W.kitOne K (.ref (He.ga K "LeadError")) (.ref (He.ga K "LeadError")) = some true := of_decide_eq_true (T.at_ 3 rfl)
theorem Txt.exm_LeadError_BadTurn : PySem.W.exmOne K (.ref (He.ga K "LeadError")) (.ref (He.ga K "BadTurn")) = some false := of_decide_eq_true (T.at_ 4 rfl)
theorem Txt.kit_LeadError_BadTurn : PySem.W.kitOne K (.ref (He.ga K "LeadError")) (.ref (He.ga K "BadTurn")) = some false := of_decide_eq_true (T.at_ 5 rfl)
theorem Txt.kit_LeadError_ValueError : PySem.W.kitOne K (.ref (He.ga K "LeadError")) (.type "ValueError") = some true := of_decide_eq_true (T.at_ 6 rfl)
theorem Txt.ec_LeadError : ExcC K (He.ga K "LeadError") := excC_of (T.at_ 7 rfl)
theorem Txt.exm_BadTurn_LeadError : PySem.W.exmOne K (.ref (He.ga K "BadTurn")) (.ref (He.ga K "LeadError")) = some true := of_decide_eq_true (T.at_ 8 rfl)
theorem Txt.kit_BadTurn_LeadError : PySem.W.kitOne K (.ref (He.ga K "BadTurn")) (.ref (He.ga K "LeadError")) = some true := of_decide_eq_true (T.at_ 9 rfl)
theorem Txt.exm_BadTurn_BadTurn : PySem.W.exmOne K (.ref (He.ga K "BadTurn")) (.ref (He.ga K "BadTurn")) = some true := of_decide_eq_true (T.at_ 10 rfl)
theorem Txt.kit_BadTurn_BadTurn : PySem.W.kitOne K (.ref (He.ga K "BadTurn")) (.ref (He.ga K "BadTurn")) = some true := of_decide_eq_true (T.at_ 11 rfl)
theorem Txt.kit_BadTurn_ValueError : PySem.W.kitOne K (.ref (He.ga K "BadTurn")) (.type "ValueError") = some true := of_decide_eq_true (T.at_ 12 rfl)
theorem Txt.ec_BadTurn : ExcC K (He.ga K "BadTurn") := excC_of (T.at_ 13 rfl)
end
def loose0 : List PySem.Str := ["LeadError", "BadTurn", "RIGHT", "DOWN", "check_turn", "back", "step", "lead", "ends", "_law_bag", "_law_pull", "_law_whole", "_law_same", "_law_go", "_law_name", "_law_tips", "_law_asked", "_law_said"]
def loose : List PySem.Str := loose0
abbrev R : PySem.W.OpenRow := PySem.W.OpenLaw.row PySem.Challenge.rw_leadlight_k01_turns_and_steps
abbrev hk : PySem.W.Hook := He.hookX 5 fa fn [] [] exB
def ob (s : PySem.W.SharedT) : He.AlX := He.obsX 5 fa fn [] [] exB (HandSHeadRun.getT s)
theorem ob_eq (s : PySem.W.SharedT) : ob s = hk.obs s.abs := He.obsX_eq (HandSHeadRun.getT_eq s)
theorem run (w : World) : HandSHeadRun.RunEq R (PySem.W.view R.prog [21]) hk ob 3000 loose w := by
  intro os
  kernel_rfl
set_option maxHeartbeats 4400000
section
variable {mg : Str → Option Value} {base : Heap} {P : Program} {w : World} {K : PySem.W.Frag}
/-! check_turn -/
def okT (t : Int) : Prop := 0 ≤ t ∧ t ≤ 7
instance (t : Int) : Decidable (okT t) := inferInstanceAs (Decidable (_ ∧ _))
def sp_check_turn (K : Fg) : Sp := fun vs H Q E => ∃ (B : Bg) (G : Hp) (t : Int), Ok K B G H ∧ vs = [.int t] ∧ (okT t → Ret K B G H Q .none) ∧ (¬ okT t → Rai K B G H E (He.ga K "BadTurn"))
abbrev N_check_turn : List Str := ["turn"]
theorem sc_check_turn : FnScope N_check_turn ["turn"] (defScope s_check_turn) := ⟨rfl, rfl, rfl, by decide +kernel, rfl, by decide +kernel, by decide +kernel⟩
theorem ok_check_turn (T : Txt K mg)  : Good P w K mg base (L2.CX P w) 1 "check_turn" ["turn"] [] (sp_check_turn K) := by
  obtain ⟨fd, F⟩ := T.c.def_ 0 (d := d_check_turn) rfl
  have b : Binds K fd ["turn"] [] := F.bindsN fun _ _ _ _ _ _ us hl => match us, hl with | [_], _ => rfl
  refine ⟨⟨fd, [], F.ok sc_check_turn (fun vs H Q E h => ?_) (fun cdv A outer s H vs Q E hr h => ?_), .nil, b⟩, T.g_check_turn, F.kp⟩
  · obtain ⟨B, G, t, e, rfl, _⟩ := h
    all_goals rfl
  · obtain ⟨B, G, t, e, rfl, q, r⟩ := h
    all_goals refine ⟨_, (pss_one (ps_if (pt_not (pt_chain op_le op_le pe_int (pv 0) pe_int)) (pss_one (ps_raise rfl (takes_of rfl rfl rfl rfl) (pmk_own PySem.F.excBase_ValueError T.x_BadTurn T.g_BadTurn T.k_BadTurn (raises_own T.b_BadTurn T.t_BadTurn) (by rfl)))) pss_nil)), ?_⟩
    refine st_if (K := K) (B := B) (eb_not (eb_test (ed_chain ed_int (ed_var rfl (.int t)) (fun _ => ed_int) rd_B0 (fun _ => rd_B0)))) e (fun c G2 H2 X => ?_) (fun c G2 H2 X => ?_)
    · refine r (fun z => ?_) G2 H2 X
      have : (decide (0 ≤ t) && decide (t ≤ 7)) = true := by rw [decide_eq_true z.1, decide_eq_true z.2]; rfl
      rw [this] at c
      exact Bool.noConfusion c
    · have z : okT t := by
        simp only [Bool.not_eq_false', Bool.and_eq_true, decide_eq_true_eq] at c
        exact c
      exact q z _ G2 H2 X .non
theorem sq_chk {B : Bg} {G H : Hp} {σ : L2.St} {D : Ends} {u : TS} {E : XK} {i : Nat} {t : Int} (hσ : σ[i]? = some (some (.int t))) (e : Ok K B G H) (k1 : okT t → ∀ G2 H2, Ext K B G H G2 H2 → u D σ H2) (k2 : ¬ okT t → Rai K B G H E (He.ga K "BadTurn")) :
    tSeq (tDrop (tCall (sp_check_turn K) [] E (tCons (tVar i) tNil))) u D σ H := ⟨.int t, hσ, B, G, t, e, rfl, fun z v G2 H2 X _ => k1 z G2 H2 X, k2⟩
/-! back -/
def sp_back (K : Fg) : Sp := fun vs H Q E => ∃ (B : Bg) (G : Hp) (t : Int), Ok K B G H ∧ vs = [.int t] ∧ (okT t → Ret K B G H Q (.int ((t + 4) % 8))) ∧ (¬ okT t → Rai K B G H E (He.ga K "BadTurn"))
abbrev N_back : List Str := ["turn"]
theorem sc_back : FnScope N_back ["turn"] (defScope s_back) := ⟨rfl, rfl, rfl, by decide +kernel, rfl, by decide +kernel, by decide +kernel⟩
theorem ok_back (T : Txt K mg) (G_check_turn : Good P w K mg base (L2.CX P w) 1 "check_turn" ["turn"] [] (sp_check_turn K)) : Good P w K mg base (L2.CX P w) 2 "back" ["turn"] [] (sp_back K) := by
  obtain ⟨fd, F⟩ := T.c.def_ 1 (d := d_back) rfl
  have b : Binds K fd ["turn"] [] := F.bindsN fun _ _ _ _ _ _ us hl => match us, hl with | [_], _ => rfl
  refine ⟨⟨fd, [], F.ok sc_back (fun vs H Q E h => ?_) (fun cdv A outer s H vs Q E hr h => ?_), .nil, b⟩, T.g_back, F.kp⟩
  · obtain ⟨B, G, t, e, rfl, _⟩ := h
    all_goals rfl
  · obtain ⟨B, G, t, e, rfl, q, r⟩ := h
    all_goals refine ⟨_, (pss_cons (ps_expr (pe_own G_check_turn (hr.mono (by decide)) (by rfl) (passes_call (takes_of rfl rfl rfl rfl) (fun _ _ _ _ h => h)) (pa_cons (pv 0) pa_nil))) (pss_one (ps_ret (pe_op op_mod (pe_op op_add (pv 0) pe_int) pe_int)))), ?_⟩
    refine sq_chk rfl e (fun z G2 H2 X => ?_) r
    exact st_ret (ed_op (ed_op (ed_var rfl (.int t)) ed_int rd_I0) ed_int (rd_I (by decide))) X.ok ((q z).mono X)
theorem ed_back {B : Bg} {G : Hp} {σ : L2.St} {tr : TA} {E : XK} {t : Int} (ha : EvA K B tr σ G [.int t]) (ht : okT t) : EvD K B (tCall (sp_back K) [] E tr) σ G (.int ((t + 4) % 8)) :=
  ed_call ha fun vs G2 H2 _ e dv Q q => ⟨B, G2, t, e, by rw [List.append_nil]; exact dpAll_intsV (bs := [t]) dv, fun _ => q, fun n => absurd ht n⟩
/-! step -/
def dx (t : Int) : Int := [1, 1, 0, -1, -1, -1, 0, 1].getD t.toNat 0
def dy (t : Int) : Int := [0, 1, 1, 1, 0, -1, -1, -1].getD t.toNat 0
theorem lt8 {t : Int} (h : okT t) : ∃ n : Nat, t = (n : Int) ∧ n < 8 := by
  obtain ⟨h1, h2⟩ := h
  exact ⟨t.toNat, by omega, by omega⟩
theorem at_dx {t : Int} (h : okT t) : atI ([1, 1, 0, -1, -1, -1, 0, 1].map PyData.int) t = some (.int (dx t)) := by
  obtain ⟨n, rfl, hn⟩ := lt8 h
  refine atI_nat ?_
  match n, hn with
  | 0, _ | 1, _ | 2, _ | 3, _ | 4, _ | 5, _ | 6, _ | 7, _ => rfl
theorem at_dy {t : Int} (h : okT t) : atI ([0, 1, 1, 1, 0, -1, -1, -1].map PyData.int) t = some (.int (dy t)) := by
  obtain ⟨n, rfl, hn⟩ := lt8 h
  refine atI_nat ?_
  match n, hn with
  | 0, _ | 1, _ | 2, _ | 3, _ | 4, _ | 5, _ | 6, _ | 7, _ => rfl
theorem dx_small {t : Int} (h : okT t) : -1 ≤ dx t ∧ dx t ≤ 1 := by
  obtain ⟨n, rfl, hn⟩ := lt8 h
  match n, hn with
  | 0, _ | 1, _ | 2, _ | 3, _ | 4, _ | 5, _ | 6, _ | 7, _ => decide
theorem dy_small {t : Int} (h : okT t) : -1 ≤ dy t ∧ dy t ≤ 1 := by
  obtain ⟨n, rfl, hn⟩ := lt8 h
  match n, hn with
  | 0, _ | 1, _ | 2, _ | 3, _ | 4, _ | 5, _ | 6, _ | 7, _ => decide
theorem cm {i j : Int} (h : -1 ≤ j ∧ j ≤ 1) : CMul i j := .inr ⟨by omega, by omega⟩
def goD (x y t m : Int) : PyData := .tuple [.int (x + m * dx t), .int (y + m * dy t)]
def sp_step (K : Fg) : Sp := fun vs H Q E => ∃ (B : Bg) (G : Hp) (x y t m : Int), Ok K B G H ∧ vs = [.int x, .int y, .int t, .int m] ∧ (okT t → Ret K B G H Q (goD x y t m)) ∧ (¬ okT t → Rai K B G H E (He.ga K "BadTurn"))
abbrev N_step : List Str := ["x", "y", "turn", "many"]
theorem sc_step : FnScope N_step ["x", "y", "turn", "many"] (defScope s_step) := ⟨rfl, rfl, rfl, by decide +kernel, rfl, by decide +kernel, by decide +kernel⟩
theorem fn_step (T : Txt K mg) (G_check_turn : Good P w K mg base (L2.CX P w) 1 "check_turn" ["turn"] [] (sp_check_turn K)) {fd : FuncData} (F : FunD K "step" "step" (defArgs s_step) (defBody s_step) (defScope s_step) [.int 1] [] (He.ga K "step") fd) :
    FnOk P w K mg base (L2.CX P w) 2 (He.ga K "step") fd ["x", "y", "turn", "many"] (sp_step K) := by
  refine F.ok sc_step (fun vs H Q E h => ?_) (fun cdv A outer s H vs Q E hr h => ?_)
  · obtain ⟨B, G, x, y, t, m, e, rfl, _⟩ := h
    rfl
  · obtain ⟨B, G, x, y, t, m, e, rfl, q, r⟩ := h
    refine ⟨_, (pss_cons (ps_expr (pe_own G_check_turn (hr.mono (by decide)) (by rfl) (passes_call (takes_of rfl rfl rfl rfl) (fun _ _ _ _ h => h)) (pa_cons (pv 2) pa_nil))) (pss_one (ps_ret (pe_tup (pa_cons (pe_op op_add (pv 0) (pe_op op_mul (pv 3) (pe_ix (r := rIxT K) ix_tup (pe_glob (v := .ref (He.ga K "RIGHT")) (by rfl) T.g_RIGHT rfl) (pv 2) (fun _ _ => rfl)))) (pa_cons (pe_op op_add (pv 1) (pe_op op_mul (pv 3) (pe_ix (r := rIxT K) ix_tup (pe_glob (v := .ref (He.ga K "DOWN")) (by rfl) T.g_DOWN rfl) (pv 2) (fun _ _ => rfl)))) pa_nil)))))), ?_⟩
    refine sq_chk rfl e (fun z G2 H2 X => ?_) r
    refine st_ret (K := K) (B := B) (d := goD x y t m) (ed_tup (ea_cons (ed_op (ed_var rfl (.int x)) (ed_op (ed_var rfl (.int m)) (ed_op (ed_c (.tup (T.sq_RIGHT G2) (dpAll_ints [1, 1, 0, -1, -1, -1, 0, 1]))) (ed_var rfl (.int t)) (rd_ixT (at_dx z))) (rd_I (cm (dx_small z)))) rd_I0)
      (ea_cons (ed_op (ed_var rfl (.int y)) (ed_op (ed_var rfl (.int m)) (ed_op (ed_c (.tup (T.sq_DOWN G2) (dpAll_ints [0, 1, 1, 1, 0, -1, -1, -1]))) (ed_var rfl (.int t)) (rd_ixT (at_dy z))) (rd_I (cm (dy_small z)))) rd_I0) ea_nil)) (Nat.le_of_ble_eq_true rfl)) X.ok ((q z).mono X)
theorem fun_step (T : Txt K mg) : ∃ fd, FunD K "step" "step" (defArgs s_step) (defBody s_step) (defScope s_step) [.int 1] [] (He.ga K "step") fd := T.c.def_ 2 (d := d_step) rfl
theorem ok_step_d1 (T : Txt K mg) (G_check_turn : Good P w K mg base (L2.CX P w) 1 "check_turn" ["turn"] [] (sp_check_turn K)) : Good P w K mg base (L2.CX P w) 2 "step" ["x", "y", "turn", "many"] [.int 1] (sp_step K) := by
  obtain ⟨fd, F⟩ := fun_step T
  obtain ⟨ds, r, b⟩ := F.binds1 (ps := ["x", "y", "turn", "many"]) 3 0 (by simp) rfl fun T' kV doc pm an cdv ct us its l1 l2 => match us, its, l1, l2 with
    | [_, _, _], [_], _, _ => ⟨_, rfl, rfl⟩
  exact ⟨⟨fd, ds, fn_step T G_check_turn F, r, b⟩, T.g_step, F.kp⟩
theorem ok_step_many (T : Txt K mg) (G_check_turn : Good P w K mg base (L2.CX P w) 1 "check_turn" ["turn"] [] (sp_check_turn K)) : GoodK P w K mg base (L2.CX P w) 2 "step" ["x", "y", "turn", "many"] 3 ["many"] (fun vs zs => vs ++ zs) (sp_step K) := by
  obtain ⟨fd, F⟩ := fun_step T
  obtain ⟨its, b⟩ := F.kbindsD (ps := ["x", "y", "turn", "many"]) 3 ["many"] (fun vs _ zs => vs ++ zs) (by simp) (fun r1 _ r3 => r1.append r3) fun T' kV doc pm an cdv ct us its ws l1 l2 l3 => match us, its, ws, l1, l2, l3 with
    | [_, _, _], [_], [_], _, _, _ => ⟨_, rfl, rfl⟩
  exact ⟨⟨fd, _, fn_step T G_check_turn F, b⟩, T.g_step, F.kp⟩
theorem ok_step_turn_y_x (T : Txt K mg) (G_check_turn : Good P w K mg base (L2.CX P w) 1 "check_turn" ["turn"] [] (sp_check_turn K)) : GoodK P w K mg base (L2.CX P w) 2 "step" ["x", "y", "turn", "many"] 0 ["turn", "y", "x"] (fun vs zs => zs.reverse ++ [.int 1]) (sp_step K) := by
  obtain ⟨fd, F⟩ := fun_step T
  obtain ⟨its, b⟩ := F.kbindsD (ps := ["x", "y", "turn", "many"]) 0 ["turn", "y", "x"] (fun _ ds zs => zs.reverse ++ ds) (by simp) (fun _ r2 r3 => r3.reverse.append r2) fun T' kV doc pm an cdv ct us its ws l1 l2 l3 => match us, its, ws, l1, l2, l3 with
    | [], [_], [_, _, _], _, _, _ => ⟨_, rfl, rfl⟩
  exact ⟨⟨fd, _, fn_step T G_check_turn F, b⟩, T.g_step, F.kp⟩
theorem ed_step {B : Bg} {G : Hp} {σ : L2.St} {tr : TA} {E : XK} {x y t : Int} (ha : EvA K B tr σ G [.int x, .int y, .int t]) (ht : okT t) : EvD K B (tCall (sp_step K) [.int 1] E tr) σ G (goD x y t 1) :=
  ed_call ha fun vs G2 H2 _ e dv Q q => ⟨B, G2, x, y, t, 1, e, by rw [dpAll_intsV (bs := [x, y, t]) dv]; rfl, fun _ => q, fun n => absurd ht n⟩
/-! lead -/
def leadD (x y t : Int) : PyData := if t < 4 then .tuple [.int x, .int y, .int t] else .tuple [.int (x + 1 * dx t), .int (y + 1 * dy t), .int ((t + 4) % 8)]
def sp_lead (K : Fg) : Sp := fun vs H Q E => ∃ (B : Bg) (G : Hp) (x y t : Int), Ok K B G H ∧ vs = [.int x, .int y, .int t] ∧ (okT t → Ret K B G H Q (leadD x y t)) ∧ (¬ okT t → Rai K B G H E (He.ga K "BadTurn"))
abbrev N_lead : List Str := ["x", "y", "turn", "far_x", "far_y"]
theorem sc_lead : FnScope N_lead ["x", "y", "turn"] (defScope s_lead) := ⟨rfl, rfl, rfl, by decide +kernel, rfl, by decide +kernel, by decide +kernel⟩
theorem ok_lead (T : Txt K mg) (G_check_turn : Good P w K mg base (L2.CX P w) 1 "check_turn" ["turn"] [] (sp_check_turn K)) (G_step_d1 : Good P w K mg base (L2.CX P w) 2 "step" ["x", "y", "turn", "many"] [.int 1] (sp_step K)) (G_back : Good P w K mg base (L2.CX P w) 2 "back" ["turn"] [] (sp_back K)) : Good P w K mg base (L2.CX P w) 3 "lead" ["x", "y", "turn"] [] (sp_lead K) := by
  obtain ⟨fd, F⟩ := T.c.def_ 3 (d := d_lead) rfl
  have b : Binds K fd ["x", "y", "turn"] [] := F.bindsN fun _ _ _ _ _ _ us hl => match us, hl with | [_, _, _], _ => rfl
  refine ⟨⟨fd, [], F.ok sc_lead (fun vs H Q E h => ?_) (fun cdv A outer s H vs Q E hr h => ?_), .nil, b⟩, T.g_lead, F.kp⟩
  · obtain ⟨B, G, x, y, t, e, rfl, _⟩ := h
    all_goals rfl
  · obtain ⟨B, G, x, y, t, e, rfl, q, r⟩ := h
    all_goals refine ⟨_, (pss_cons (ps_expr (pe_own G_check_turn (hr.mono (by decide)) (by rfl) (passes_call (takes_of rfl rfl rfl rfl) (fun _ _ _ _ h => h)) (pa_cons (pv 2) pa_nil))) (pss_cons (ps_if (pt_cmpR op_lt (pv 2) pe_int (nomark _)) (pss_one (ps_ret (pe_tup (pa_cons (pv 0) (pa_cons (pv 1) (pa_cons (pv 2) pa_nil)))))) pss_nil) (pss_cons (ps_asg (pe_own G_step_d1 (hr.mono (by decide)) (by rfl) (passes_call (takes_of rfl rfl rfl rfl) (fun _ _ _ _ h => h)) (pa_cons (pv 0) (pa_cons (pv 1) (pa_cons (pv 2) pa_nil)))) (pg_tup rfl (pgs_cons (by exact (pg_name (i := 3) sc_lead.nd rfl (Or.inl rfl))) (pgs_cons (by exact (pg_name (i := 4) sc_lead.nd rfl (Or.inl rfl))) pgs_nil)))) (pss_one (ps_ret (pe_tup (pa_cons (pv 3) (pa_cons (pv 4) (pa_cons (pe_own G_back (hr.mono (by decide)) (by rfl) (passes_call (takes_of rfl rfl rfl rfl) (fun _ _ _ _ h => h)) (pa_cons (pv 2) pa_nil)) pa_nil))))))))), ?_⟩
    refine sq_chk rfl e (fun z G2 H2 X => ?_) r
    replace q := (q z).mono X
    unfold leadD at q
    refine sq_if (eb_test (ed_op (ed_var rfl (.int t)) ed_int rd_B0)) X.ok (fun c G3 H3 X3 => ?_) (fun c G3 H3 X3 => ?_)
    · rw [if_pos (of_decide_eq_true c)] at q
      exact st_ret (ed_tup (ea_cons (ed_var rfl (.int x)) (ea_cons (ed_var rfl (.int y)) (ea_cons (ed_var rfl (.int t)) ea_nil))) (Nat.le_of_ble_eq_true rfl)) X3.ok (q.mono X3)
    · rw [if_neg (of_decide_eq_false c)] at q
      refine sq_unpack (ed_step (ea_cons (ed_var rfl (.int x)) (ea_cons (ed_var rfl (.int y)) (ea_cons (ed_var rfl (.int t)) ea_nil))) z) X3.ok rfl (fun vs G4 H4 X4 dv => ?_)
      obtain rfl := dpAll_intsV (bs := [x + 1 * dx t, y + 1 * dy t]) dv
      refine ⟨_, _, rfl, _, _, rfl, rfl, ?_⟩
      exact st_ret (ed_tup (ea_cons (ed_var rfl (.int _)) (ea_cons (ed_var rfl (.int _)) (ea_cons (ed_back (ea_cons (ed_var rfl (.int t)) ea_nil) z) ea_nil))) (Nat.le_of_ble_eq_true rfl)) X4.ok ((q.mono X3).mono X4)
theorem ed_lead {B : Bg} {G : Hp} {σ : L2.St} {tr : TA} {E : XK} {x y t : Int} (ha : EvA K B tr σ G [.int x, .int y, .int t]) (ht : okT t) : EvD K B (tCall (sp_lead K) [] E tr) σ G (leadD x y t) :=
  ed_call ha fun vs G2 H2 _ e dv Q q => ⟨B, G2, x, y, t, e, by rw [List.append_nil]; exact dpAll_intsV (bs := [x, y, t]) dv, fun _ => q, fun n => absurd ht n⟩
/-! ends -/
def endsD (x y t : Int) : PyData := .tuple [.tuple [.int x, .int y], goD x y t 1]
def sp_ends (K : Fg) : Sp := fun vs H Q E => ∃ (B : Bg) (G : Hp) (v : V) (x y t : Int), Ok K B G H ∧ vs = [v] ∧ Dp K G v (.tuple [.int x, .int y, .int t]) ∧ okT t ∧ Ret K B G H Q (endsD x y t)
abbrev N_ends : List Str := ["name", "x", "y", "turn"]
theorem sc_ends : FnScope N_ends ["name"] (defScope s_ends) := ⟨rfl, rfl, rfl, by decide +kernel, rfl, by decide +kernel, by decide +kernel⟩
theorem ok_ends (T : Txt K mg) (G_step_d1 : Good P w K mg base (L2.CX P w) 2 "step" ["x", "y", "turn", "many"] [.int 1] (sp_step K)) : Good P w K mg base (L2.CX P w) 3 "ends" ["name"] [] (sp_ends K) := by
  obtain ⟨fd, F⟩ := T.c.def_ 4 (d := d_ends) rfl
  have b : Binds K fd ["name"] [] := F.bindsN fun _ _ _ _ _ _ us hl => match us, hl with | [_], _ => rfl
  refine ⟨⟨fd, [], F.ok sc_ends (fun vs H Q E h => ?_) (fun cdv A outer s H vs Q E hr h => ?_), .nil, b⟩, T.g_ends, F.kp⟩
  · obtain ⟨B, G, v, x, y, t, e, rfl, _⟩ := h
    all_goals rfl
  · obtain ⟨B, G, v, x, y, t, e, rfl, dv, z, q⟩ := h
    all_goals refine ⟨_, (pss_cons (ps_asg (pv 0) (pg_tup rfl (pgs_cons (by exact (pg_name (i := 1) sc_ends.nd rfl (Or.inl rfl))) (pgs_cons (by exact (pg_name (i := 2) sc_ends.nd rfl (Or.inl rfl))) (pgs_cons (by exact (pg_name (i := 3) sc_ends.nd rfl (Or.inl rfl))) pgs_nil))))) (pss_one (ps_ret (pe_tup (pa_cons (pe_tup (pa_cons (pv 1) (pa_cons (pv 2) pa_nil))) (pa_cons (pe_own G_step_d1 (hr.mono (by decide)) (by rfl) (passes_call (takes_of rfl rfl rfl rfl) (fun _ _ _ _ h => h)) (pa_cons (pv 1) (pa_cons (pv 2) (pa_cons (pv 3) pa_nil)))) pa_nil)))))), ?_⟩
    refine sq_unpack (ed_var rfl dv) e rfl (fun vs G4 H4 X4 dv => ?_)
    obtain rfl := dpAll_intsV (bs := [x, y, t]) dv
    refine ⟨_, _, rfl, _, _, rfl, _, _, rfl, rfl, ?_⟩
    exact st_ret (ed_tup (ea_cons (ed_tup (ea_cons (ed_var rfl (.int _)) (ea_cons (ed_var rfl (.int _)) ea_nil)) (Nat.le_of_ble_eq_true rfl)) (ea_cons (ed_step (ea_cons (ed_var rfl (.int x)) (ea_cons (ed_var rfl (.int y)) (ea_cons (ed_var rfl (.int t)) ea_nil))) z) ea_nil)) (Nat.le_of_ble_eq_true rfl)) X4.ok (q.mono X4)
theorem ed_ends {B : Bg} {G : Hp} {σ : L2.St} {tr : TA} {E : XK} {x y t : Int} (ha : EvA K B tr σ G [.tuple [.int x, .int y, .int t]]) (ht : okT t) : EvD K B (tCall (sp_ends K) [] E tr) σ G (endsD x y t) :=
  ed_call ha fun vs G2 H2 _ e dv Q q => by
    cases dv with
    | cons h a =>
      cases a
      exact ⟨B, G2, _, x, y, t, e, rfl, h, ht, q⟩
/-! _law_bag -/
def sp__law_bag (K : Fg) : Sp := fun vs H Q E => ∃ (a : Addr) (ns : List Int), vs = [.ref a] ∧ SqL K H a (ns.map V.int) ∧ ns.length ≤ 63 ∧ ∀ b c G2 H2, Ok K (some (b, c)) G2 H2 → Q (.ref b) H2
theorem ok_none {K : Fg} (H : Hp) : Ok K none H H := ⟨Ex.refl H, fun _ _ z => (by cases z), fun _ _ z => (by cases z)⟩
theorem cut_map (ns : List Int) (lo hi : Option Int) : ∃ ms : List Int, Lw.cutD (ns.map PyData.int) lo hi = ms.map PyData.int ∧ ms.length ≤ ns.length := by
  unfold Lw.cutD
  refine ⟨(ns.drop (HT.sIx (ns.map PyData.int).length 0 lo)).take (HT.sIx (ns.map PyData.int).length (ns.map PyData.int).length hi - HT.sIx (ns.map PyData.int).length 0 lo), ?_, ?_⟩
  · rw [List.map_take, List.map_drop]
  · rw [List.length_take, List.length_drop]
    omega
abbrev N__law_bag : List Str := ["_law_script", "_law_cells", "_law_mark", "_law_cell"]
theorem sc__law_bag : FnScope N__law_bag ["_law_script"] (defScope s__law_bag) := ⟨rfl, rfl, rfl, by decide +kernel, rfl, by decide +kernel, by decide +kernel⟩
theorem ok__law_bag (T : Txt K mg)  : Good P w K mg base (L2.CX P w) 1 "_law_bag" ["_law_script"] [] (sp__law_bag K) := by
  obtain ⟨fd, F⟩ := T.c.def_ 5 (d := d__law_bag) rfl
  have b : Binds K fd ["_law_script"] [] := F.bindsN fun _ _ _ _ _ _ us hl => match us, hl with | [_], _ => rfl
  refine ⟨⟨fd, [], F.ok sc__law_bag (fun vs H Q E h => ?_) (fun cdv A outer s H vs Q E hr h => ?_), .nil, b⟩, T.g__law_bag, F.kp⟩
  · obtain ⟨a, ns, rfl, _⟩ := h
    all_goals rfl
  · obtain ⟨a, ns, rfl, hS, hl, q⟩ := h
    all_goals refine ⟨_, PSs.nox (pss_cons (ps_set (i := 1) sc__law_bag.nd rfl (Or.inl rfl) (pe_callTy (r := rListS K) call_list_of (by rfl) T.f_list (by decide +kernel) (pa_cons (pe_slice (r := rSlL K) sl_list (pv 0) po_none (po_some pe_int)) pa_nil))) (pss_cons (ps_set (i := 2) sc__law_bag.nd rfl (Or.inl rfl) (pe_op op_add pe_int (pe_callB (r := rLenS K) call_len_seq (by rfl) T.f_len (by decide +kernel) (pa_cons (pv 1) pa_nil)))) (pss_cons (ps_for PassesOwn.never rfl (pi_list (pv 1)) (pg_name (i := 3) sc__law_bag.nd rfl (Or.inl rfl)) (pss_one (ps_set (i := 2) sc__law_bag.nd rfl (Or.inl rfl) (pe_op op_mod (pe_op op_add (pe_op op_mul (pv 2) pe_int) (pv 3)) pe_int)))) (pss_one (ps_ret (pe_lst (pa_cons (pv 1) (pa_cons pe_int (pa_cons pe_int (pa_cons (pv 2) pa_nil)))))))))), ?_⟩
    obtain ⟨ms, em, hm⟩ := cut_map ns none (some 63)
    refine ed_isF (ed_listOf (ed_slL (ed_var rfl (.lst hS (dpAll_ints ns))) eo_none (eo_some ed_int))) em H (ok_none H) _ (fun c xs G1 H2 X1 hp hg nb h2 hx => ?_)
    obtain rfl := dpAll_intsV hx
    have X := X1.freeze hp hg nb h2
    have hc : SqL K (upd G1 c (.lst (ms.map V.int))) c (ms.map V.int) := SqL.of upd_same
    have dv : Dp K (upd G1 c (.lst (ms.map V.int))) (.ref c) (.list (ms.map .int)) := .lst hc (dpAll_ints ms)
    have hcH : (upd G1 c (.lst (ms.map V.int))) c = some (.lst (ms.map V.int)) := upd_same
    refine sq_set (ed_op ed_int (ed_len (ed_var rfl dv) rfl) rd_I0) X.ok (fun v3 G3 H3 X3 d3 => ?_)
    obtain rfl := dp_int d3
    refine sq_forL (Pv := fun _ σ' _ _ => ∃ (m : Int) (y : Option V), σ' = [some (.ref a), some (.ref c), some (.int m), y]) (ed_var rfl (dp_mono X3.gg dv)) X3.ok (fun _ _ _ => ⟨_, none, rfl⟩) (fun G4 H4 X4 j d v5 σ5 G5 H5 hj X5 p d5 => ?_) (fun σ5 G5 H5 X5 p => ?_)
    · obtain ⟨m, y, rfl⟩ := p
      obtain ⟨z, rfl⟩ : ∃ z, d = .int z := by
        rw [List.getElem?_map] at hj
        cases q : ms[j]? with
        | none =>
          rw [q] at hj
          cases hj
        | some z =>
          rw [q] at hj
          exact ⟨z, (Option.some.inj hj).symm⟩
      refine st_set (ed_op (ed_op (ed_op (ed_var rfl (.int m)) ed_int (rd_I (.inr (by decide)))) (ed_var rfl d5) rd_I0) ed_int (rd_I (by decide))) X5.ok (fun v6 G6 H6 X6 d6 => ?_)
      obtain rfl := dp_int d6
      exact ⟨G6, X5.trans X6, _, some v5, rfl⟩
    · obtain ⟨m, y, rfl⟩ := p
      have dc := dp_mono (X3.gg.trans X5.gg) dv
      refine ⟨.ref c, rfl, .int m, rfl, (by show 4 ≤ sizeLine; decide), fun p hp => ?_⟩
      refine q p c G5 _ ⟨X5.ok.e.trans (Ex.new hp), fun b' c' z => ?_, fun b' c' z => ?_⟩
      · obtain ⟨rfl, rfl⟩ := Prod.mk.inj (Option.some.inj z)
        exact ⟨ms, ex_l (X3.gg.trans X5.gg) hc⟩
      · obtain ⟨rfl, rfl⟩ := Prod.mk.inj (Option.some.inj z)
        exact ⟨⟨X5.ok.e.off hp, ne_of_none (X5.ok.e _ _ (X5.gg _ _ (X3.gg _ _ hcH))) hp⟩, 0, 0, m, upd_same, by decide⟩
/-! _law_pull -/
def sp__law_pull (K : Fg) : Sp := fun vs H Q E => ∃ (b c : Addr) (G : Hp) (u : Int), vs = [.ref b, .int u] ∧ Ok K (some (b, c)) G H ∧ 0 < u ∧ u.natAbs.log2 < 9000 ∧ ∀ n G2 H2, 0 ≤ n → n < u → Ext K (some (b, c)) G H G2 H2 → Q (.int n) H2
/-- the bag between two steps of a draw: what was read at first stands, but the bag itself -/
structure BagS (K : Fg) (b c : Addr) (ns : List Int) (G H H2 : Hp) (i r m : Int) : Prop where
  k : ∀ a o, a ≠ b → H a = some o → H2 a = some o
  h : H2 b = some (.lst [.ref c, .int i, .int r, .int m])
  s : SqL K H2 c (ns.map V.int)
  p : 0 ≤ i
theorem BagS.d {b c : Addr} {ns : List Int} {G H H2 : Hp} {i r m : Int} (z : BagS K b c ns G H H2 i r m) : Dp K H2 (.ref b) (.list [.list (ns.map .int), .int i, .int r, .int m]) :=
  .lst (SqL.of z.h) (.cons (.lst z.s (dpAll_ints ns)) (.cons (.int i) (.cons (.int r) (.cons (.int m) .nil))))
theorem BagS.x {b c : Addr} {ns : List Int} {G H H2 G3 H3 : Hp} {i r m : Int} (z : BagS K b c ns G H H2 i r m) (X : Ext K none H2 H2 G3 H3) : BagS K b c ns G H H3 i r m := by
  have k : Ex H2 H3 := fun a o h => X.hh a o (fun ⟨_, q⟩ => by cases q) h
  exact ⟨fun a o n h => k a o (z.k a o n h), k _ _ z.h, ex_l k z.s, z.p⟩
theorem BagS.put {b c : Addr} {ns : List Int} {G H H2 : Hp} {i r m i' r' : Int} (z : BagS K b c ns G H H2 i r m) (hc : c ≠ b) (h : 0 ≤ i') : BagS K b c ns G H (upd H2 b (.lst [.ref c, .int i', .int r', .int m])) i' r' m :=
  ⟨fun a o n h => by rw [upd_ne n]; exact z.k a o n h, upd_same, by
    rcases z.s with (s | ⟨o, s⟩) | s
    · exact .inl (.inl (by rw [upd_ne hc]; exact s))
    · exact .inl (.inr ⟨o, by rw [upd_ne hc]; exact s⟩)
    · exact .inr s, h⟩
theorem BagS.ext {b c : Addr} {ns : List Int} {G H H2 : Hp} {i r m : Int} (z : BagS K b c ns G H H2 i r m) (e : Ok K (some (b, c)) G H) : Ext K (some (b, c)) G H G H2 := by
  have gb := (e.b b c rfl).1.1
  refine ⟨Ex.refl G, fun a o n h => z.k a o (fun w => n ⟨c, by rw [w]⟩) h, fun _ _ _ g => g, ⟨fun a o h => z.k a o (fun w => ?_) (e.e a o h), e.c, fun b' c' w => ?_⟩⟩
  · rw [w, gb] at h
    cases h
  · obtain ⟨rfl, rfl⟩ := Prod.mk.inj (Option.some.inj w)
    exact ⟨⟨gb, (e.b _ _ rfl).1.2⟩, i, r, m, z.h, z.p⟩
abbrev N__law_pull : List Str := ["_law_bag_here", "_law_upto", "_law_seed", "_law_fold", "_law_twist", "_law_drawn"]
theorem sc__law_pull : FnScope N__law_pull ["_law_bag_here", "_law_upto"] (defScope s__law_pull) := ⟨rfl, rfl, rfl, by decide +kernel, rfl, by decide +kernel, by decide +kernel⟩
theorem ok__law_pull (T : Txt K mg)  : Good P w K mg base (L2.CX P w) 1 "_law_pull" ["_law_bag_here", "_law_upto"] [] (sp__law_pull K) := by
  obtain ⟨fd, F⟩ := T.c.def_ 6 (d := d__law_pull) rfl
  have b : Binds K fd ["_law_bag_here", "_law_upto"] [] := F.bindsN fun _ _ _ _ _ _ us hl => match us, hl with | [_, _], _ => rfl
  refine ⟨⟨fd, [], F.ok sc__law_pull (fun vs H Q E h => ?_) (fun cdv A outer s H vs Q E hr h => ?_), .nil, b⟩, T.g__law_pull, F.kp⟩
  · obtain ⟨b, c, G, u, rfl, _⟩ := h
    all_goals rfl
  · obtain ⟨b, c, G, u, rfl, e, hu, hw, q⟩ := h
    all_goals refine ⟨_, PSs.nox (pss_cons (ps_if (pt_cmpR op_lt (pe_ix (r := rIxL K) ix_list (pv 0) pe_int (fun _ _ => rfl)) pe_int (nomark _)) (pss_cons (ps_asg (pe_op op_add (pe_ix (r := rIxL K) ix_list (pv 0) pe_int (fun _ _ => rfl)) pe_int) (pg_sub (pv 0) pe_int set_list)) (pss_cons (ps_set (i := 2) sc__law_pull.nd rfl (Or.inl rfl) (pe_op op_add (pe_ix (r := rIxL K) ix_list (pv 0) pe_int (fun _ _ => rfl)) (pe_op op_mul (pe_ix (r := rIxL K) ix_list (pv 0) pe_int (fun _ _ => rfl)) pe_int))) (pss_cons (ps_if (pt_cmpR op_le (pe_ix (r := rIxL K) ix_list (pv 0) pe_int (fun _ _ => rfl)) (pe_callB (r := rLenS K) call_len_seq (by rfl) T.f_len (by decide +kernel) (pa_cons (pe_ix (r := rIxL K) ix_list (pv 0) pe_int (fun _ _ => rfl)) pa_nil)) (nomark _)) (pss_one (ps_set (i := 2) sc__law_pull.nd rfl (Or.inl rfl) (pe_ix (r := rIxL K) ix_list (pe_ix (r := rIxL K) ix_list (pv 0) pe_int (fun _ _ => rfl)) (pe_op op_sub (pe_ix (r := rIxL K) ix_list (pv 0) pe_int (fun _ _ => rfl)) pe_int) (fun _ _ => rfl)))) pss_nil) (pss_cons (ps_if (PW.pt (pw_or (pt_cmpR op_gt (pe_ix (r := rIxL K) ix_list (pv 0) pe_int (fun _ _ => rfl)) (pe_callB (r := rLenS K) call_len_seq (by rfl) T.f_len (by decide +kernel) (pa_cons (pe_ix (r := rIxL K) ix_list (pv 0) pe_int (fun _ _ => rfl)) pa_nil)) (nomark _)) (pw_or1 (pt_cmpR op_lt (pv 2) (pe_op op_pow pe_int pe_int) (nomark _))))) (pss_cons (ps_set (i := 3) sc__law_pull.nd rfl (Or.inl rfl) (pe_op op_mod (pe_op op_add (pe_op op_add (pe_op op_mul (pv 2) pe_int) (pe_op op_mul (pe_ix (r := rIxL K) ix_list (pv 0) pe_int (fun _ _ => rfl)) pe_int)) (pe_ix (r := rIxL K) ix_list (pv 0) pe_int (fun _ _ => rfl))) pe_int)) (pss_cons (ps_set (i := 4) sc__law_pull.nd rfl (Or.inl rfl) (pe_op op_mod (pe_op op_add (pe_op op_mul (pv 3) (pv 3)) (pe_ix (r := rIxL K) ix_list (pv 0) pe_int (fun _ _ => rfl))) pe_int)) (pss_one (ps_ret (pe_op op_mod (pe_op op_fdivW (pe_op op_mod (pe_op op_add (pe_op op_mul (pv 4) pe_int) (pv 3)) pe_int) pe_int) (pv 1)))))) pss_nil) (pss_one (ps_asg (pv 2) (pg_sub (pv 0) pe_int set_list))))))) pss_nil) (pss_cons (ps_set (i := 5) sc__law_pull.nd rfl (Or.inl rfl) (pe_op op_mod (pe_ix (r := rIxL K) ix_list (pv 0) pe_int (fun _ _ => rfl)) (pv 1))) (pss_cons (ps_asg (pe_op op_fdivW (pe_ix (r := rIxL K) ix_list (pv 0) pe_int (fun _ _ => rfl)) (pv 1)) (pg_sub (pv 0) pe_int set_list)) (pss_one (ps_ret (pv 5)))))), ?_⟩
    obtain ⟨⟨gb, ncb⟩, i, r, m, hb, hi⟩ := e.b b c rfl
    obtain ⟨ns, hc⟩ := e.c b c rfl
    have S0 : BagS K b c ns G H H i r m := ⟨fun _ _ _ h => h, hb, ex_l e.e hc, hi⟩
    have c31 : CDivW (0 : Int) u := ⟨hu, hw⟩
    have fin : ∀ {i r : Int} {H2 : Hp}, BagS K b c ns G H H2 i r m → ∀ {y2 y3 y4 y5 : Option V}, (tSeq (tAsg (tOp (rI (fun _ j => 0 < j) fun i j => .int (i % j)) (tOp (rIxL K) (tVar 0) (tC (.int 2))) (tVar 1)) (gName 5)) (tSeq (tAsg (tOp (rI CDivW fun i j => .int (i / j)) (tOp (rIxL K) (tVar 0) (tC (.int 2))) (tVar 1)) (gSub (tVar 0) (tC (.int 2)) rSetL)) (tRet (tVar 5)))) { nx := fun _ H' => Q .non H', rt := Q } [some (.ref b), some (.int u), y2, y3, y4, y5] H2 := fun {i r H2} S {y2 y3 y4 y5} => by
      refine sq_set (ed_op (ed_op (ed_var rfl S.d) ed_int (rd_ixL rfl)) (ed_var rfl (.int u)) (rd_I hu)) (ok_none H2) (fun v G3 H3 X3 d3 => ?_)
      obtain rfl := dp_int d3
      have S3 := S.x X3
      refine ed_op (ed_op (ed_var rfl S3.d) ed_int (rd_ixL rfl)) (ed_var rfl (.int u)) (rd_I (C := CDivW) (i := r) ⟨hu, hw⟩) H3 (ok_none H3) _ (fun v G4 H4 X4 d4 => ?_)
      obtain rfl := dp_int d4
      have S4 := S3.x X4
      refine ⟨.ref b, rfl, b, _, 2, 2, rfl, rfl, S4.h, rfl, ?_⟩
      have S5 := S4.put (i' := i) (r' := r / u) ncb S4.p
      exact ⟨_, rfl, q (r % u) G _ (Int.emod_nonneg _ (by omega)) (Int.emod_lt_of_pos _ hu) (S5.ext e)⟩
    refine sq_if (eb_test (ed_op (ed_op (ed_var rfl S0.d) ed_int (rd_ixL rfl)) ed_int rd_B0)) (ok_none H) (fun _ G1 H1 X1 => ?_) (fun _ G1 H1 X1 => fin (S0.x X1))
    have S1 := S0.x X1
    refine ed_op (ed_op (ed_var rfl S1.d) ed_int (rd_ixL rfl)) ed_int rd_I0 H1 (ok_none H1) _ (fun v G2 H2 X2 d2 => ?_)
    obtain rfl := dp_int d2
    have S2 := S1.x X2
    refine ⟨.ref b, rfl, b, _, 1, 1, rfl, rfl, S2.h, rfl, ?_⟩
    have S3 := S2.put (i' := i + 1) (r' := r) ncb (by omega)
    refine sq_set (ed_op (ed_op (ed_var rfl S3.d) ed_int (rd_ixL rfl)) (ed_op (ed_op (ed_var rfl S3.d) ed_int (rd_ixL rfl)) ed_int (rd_I (.inr (by decide)))) rd_I0) (ok_none _) (fun v G4 H4 X4 d4 => ?_)
    obtain rfl := dp_int d4
    have S4 := S3.x X4
    refine sq_if (eb_test (ed_op (ed_op (ed_var rfl S4.d) ed_int (rd_ixL rfl)) (ed_len (ed_op (ed_var rfl S4.d) ed_int (rd_ixL rfl)) rfl) rd_B0)) (ok_none _) (fun k G5 H5 X5 => ?_) (fun k G5 H5 X5 => ?_)
    focus
      have S5 := S4.x X5
      have hk : i + 1 ≤ ((ns.map PyData.int).length : Int) := of_decide_eq_true k
      rw [List.length_map] at hk
      have hj : i.toNat < (ns.map PyData.int).length := by
        rw [List.length_map]
        omega
      have ej : i + 1 - 1 = ((i.toNat : Nat) : Int) := by omega
      obtain ⟨s, es⟩ : ∃ s : Int, atI (ns.map PyData.int) (i + 1 - 1) = some (.int s) := by
        refine ⟨ns[i.toNat]'(by rw [List.length_map] at hj; exact hj), ?_⟩
        rw [ej]
        refine atI_nat ?_
        rw [List.getElem?_map, List.getElem?_eq_getElem (by rw [List.length_map] at hj; exact hj)]
        rfl
      refine st_set (ed_op (ed_op (ed_var rfl S5.d) ed_int (rd_ixL rfl)) (ed_op (ed_op (ed_var rfl S5.d) ed_int (rd_ixL rfl)) ed_int rd_I0) (rd_ixL es)) (ok_none _) (fun v G6 H6 X6 d6 => ?_)
      obtain rfl := dp_int d6
      have S6 := S5.x X6
      clear es ej hj hk k X6 d6 X5 S5
      revert S6
      generalize H6 = Hs
      intro S6
    rotate_left
    focus
      have S6 := S4.x X5
      clear k X5
      revert S6
      generalize H5 = Hs
      generalize m + (i + 1) * 7919 = s
      intro S6
    all_goals
      refine sq_if (eb_or (eb_test (ed_op (ed_op (ed_var rfl S6.d) ed_int (rd_ixL rfl)) (ed_len (ed_op (ed_var rfl S6.d) ed_int (rd_ixL rfl)) rfl) rd_B0)) (fun _ => eb_test (ed_op (ed_var rfl (.int s)) (ed_op ed_int ed_int (rd_I (C := CPow) ⟨by decide, by decide, by decide⟩)) rd_B0))) (ok_none _) (fun _ G7 H7 X7 => ?_) (fun _ G7 H7 X7 => ?_)
      · have S7 := S6.x X7
        refine sq_set (ed_op (ed_op (ed_op (ed_op (ed_var rfl (.int s)) ed_int (rd_I (.inr (by decide)))) (ed_op (ed_op (ed_var rfl S7.d) ed_int (rd_ixL rfl)) ed_int (rd_I (.inr (by decide)))) rd_I0) (ed_op (ed_var rfl S7.d) ed_int (rd_ixL rfl)) rd_I0) ed_int (rd_I (by decide))) (ok_none _) (fun v G8 H8 X8 d8 => ?_)
        obtain rfl := dp_int d8
        have S8 := S7.x X8
        clear d8 X8
        have f0 := Int.emod_nonneg (s * 48271 + (i + 1) * 40692 + m) (show (2147483647 : Int) ≠ 0 by decide)
        have f1 := Int.emod_lt_of_pos (s * 48271 + (i + 1) * 40692 + m) (show (0 : Int) < 2147483647 by decide)
        revert f0 f1
        generalize (s * 48271 + (i + 1) * 40692 + m) % 2147483647 = f
        intro f0 f1
        refine sq_set (ed_op (ed_op (ed_op (ed_var rfl (.int f)) (ed_var rfl (.int f)) (rd_I (.inl ⟨by omega, by omega⟩))) (ed_op (ed_var rfl S8.d) ed_int (rd_ixL rfl)) rd_I0) ed_int (rd_I (by decide))) (ok_none _) (fun v G9 H9 X9 d9 => ?_)
        obtain rfl := dp_int d9
        have S9 := S8.x X9
        refine st_ret (K := K) (ed_op (ed_op (ed_op (ed_op (ed_op (ed_var rfl (.int _)) ed_int (rd_I (.inr (by decide)))) (ed_var rfl (.int f)) rd_I0) ed_int (rd_I (by decide))) ed_int (rd_I (C := CDivW) ⟨by decide, by decide +kernel⟩)) (ed_var rfl (.int u)) (rd_I hu)) (ok_none _) (fun v G10 H10 X10 d10 => ?_)
        obtain rfl := dp_int d10
        exact q _ G _ (Int.emod_nonneg _ (by omega)) (Int.emod_lt_of_pos _ hu) ((S9.x X10).ext e)
      · have S7 := S6.x X7
        refine ⟨_, rfl, .ref b, rfl, b, _, 2, 2, rfl, rfl, S7.h, rfl, ?_⟩
        exact fin (S7.put (i' := i + 1) (r' := s) ncb S7.p)
def isN (u : Int) (d : PyData) : Prop := ∃ n : Int, d = .int n ∧ 0 ≤ n ∧ n < u
theorem es_pull {b c : Addr} {i : Nat} {tb : TE} {σ : L2.St} {G : Hp} {E : XK} {u : Int} (hσ : σ[i]? = some (some (.ref b))) (hu : EvD K (some (b, c)) tb σ G (.int u)) (h0 : 0 < u) (hw : u < 2 ^ 250) :
    EvS K (some (b, c)) (tCall (sp__law_pull K) [] E (tCons (tVar i) (tCons tb tNil))) σ G (isN u) := fun H e Q q =>
  ⟨.ref b, hσ, hu H e _ fun v G2 H2 X dv => ⟨b, c, G2, u, by rw [dp_int dv]; rfl, X.ok, h0, lg h0 hw, fun n G3 H3 h1 h2 X3 => q (.int n) (.int n) G3 H3 ⟨n, rfl, h1, h2⟩ (X.trans X3) (.int n)⟩⟩
theorem es_pullS {b c : Addr} {i : Nat} {tb : TE} {σ : L2.St} {G : Hp} {E : XK} {S : PyData → Prop} {M : Int} (hσ : σ[i]? = some (some (.ref b))) (hu : EvS K (some (b, c)) tb σ G S) (hS : ∀ d, S d → ∃ u : Int, d = .int u ∧ 0 < u ∧ u ≤ M) (hM : M < 2 ^ 250) :
    EvS K (some (b, c)) (tCall (sp__law_pull K) [] E (tCons (tVar i) (tCons tb tNil))) σ G (isN M) := fun H e Q q =>
  ⟨.ref b, hσ, hu H e _ fun d v G2 H2 s X dv => by
    obtain ⟨u, rfl, h0, hu⟩ := hS d s
    exact ⟨b, c, G2, u, by rw [dp_int dv]; rfl, X.ok, h0, lg h0 (by omega), fun n G3 H3 h1 h2 X3 => q (.int n) (.int n) G3 H3 ⟨n, rfl, h1, by omega⟩ (X.trans X3) (.int n)⟩⟩
/-! _law_whole -/
def wholeD : PyData → Bool
  | .int _ => true
  | _ => false
theorem kb_ii : kitB "int" "int" = some true := by decide +kernel
theorem kb_ib : kitB "int" "bool" = some false := by decide +kernel
theorem kb_bi : kitB "bool" "int" = some true := by decide +kernel
theorem kb_bb : kitB "bool" "bool" = some true := by decide +kernel
theorem kb_ni : kitB "NoneType" "int" = some false := by decide +kernel
theorem kb_si : kitB "str" "int" = some false := by decide +kernel
theorem kb_sb : kitB "str" "bool" = some false := by decide +kernel
theorem kb_ss : kitB "str" "str" = some true := by decide +kernel
theorem kb_li : kitB "list" "int" = some false := by decide +kernel
theorem kb_lb : kitB "list" "bool" = some false := by decide +kernel
theorem kb_ls : kitB "list" "str" = some false := by decide +kernel
theorem kb_ll : kitB "list" "list" = some true := by decide +kernel
theorem kb_lt : kitB "list" "tuple" = some false := by decide +kernel
theorem kb_ti : kitB "tuple" "int" = some false := by decide +kernel
theorem kb_tb : kitB "tuple" "bool" = some false := by decide +kernel
theorem kb_ts : kitB "tuple" "str" = some false := by decide +kernel
theorem kb_tl : kitB "tuple" "list" = some false := by decide +kernel
theorem kb_tt : kitB "tuple" "tuple" = some true := by decide +kernel
def sp__law_whole (K : Fg) : Sp := fun vs H Q E => ∃ (B : Bg) (G : Hp) (v : V) (d : PyData), Ok K B G H ∧ vs = [v] ∧ Dp K G v d ∧ Ret K B G H Q (.bool (wholeD d))
abbrev N__law_whole : List Str := ["_law_found"]
theorem sc__law_whole : FnScope N__law_whole ["_law_found"] (defScope s__law_whole) := ⟨rfl, rfl, rfl, by decide +kernel, rfl, by decide +kernel, by decide +kernel⟩
theorem ok__law_whole (T : Txt K mg)  : Good P w K mg base (L2.CX P w) 1 "_law_whole" ["_law_found"] [] (sp__law_whole K) := by
  obtain ⟨fd, F⟩ := T.c.def_ 7 (d := d__law_whole) rfl
  have b : Binds K fd ["_law_found"] [] := F.bindsN fun _ _ _ _ _ _ us hl => match us, hl with | [_], _ => rfl
  refine ⟨⟨fd, [], F.ok sc__law_whole (fun vs H Q E h => ?_) (fun cdv A outer s H vs Q E hr h => ?_), .nil, b⟩, T.g__law_whole, F.kp⟩
  · obtain ⟨B, G, v, d, e, rfl, _⟩ := h
    all_goals rfl
  · obtain ⟨B, G, v, d, e, rfl, dv, q⟩ := h
    all_goals refine ⟨_, PSs.nox (pss_one (ps_ret (pe_and (pe_callB (r := rIsi K) call_isi (by rfl) T.f_isinstance (by decide +kernel) (pa_cons (pv 0) (pa_cons (pe_bltn (v := .ty "int") (by rfl) T.f_int (by decide +kernel) rfl) pa_nil))) (pe_one (pe_not (pe_callB (r := rIsi K) call_isi (by rfl) T.f_isinstance (by decide +kernel) (pa_cons (pv 0) (pa_cons (pe_bltn (v := .ty "bool") (by rfl) T.f_bool (by decide +kernel) rfl) pa_nil)))))))), ?_⟩
    cases dv with
    | non => exact st_ret (ed_andV (b := false) (c := true) (ed_isi (ed_var rfl .non) kb_ni) (fun z => Bool.noConfusion z)) e q
    | bl x => exact st_ret (ed_andV (b := true) (ed_isi (ed_var rfl (.bl x)) kb_bi) (fun _ => ed_notV (ed_isi (ed_var rfl (.bl x)) kb_bb))) e q
    | int x => exact st_ret (ed_andV (b := true) (ed_isi (ed_var rfl (.int x)) kb_ii) (fun _ => ed_notV (ed_isi (ed_var rfl (.int x)) kb_ib))) e q
    | str x => exact st_ret (ed_andV (b := false) (c := true) (ed_isi (ed_var rfl (.str x)) kb_si) (fun z => Bool.noConfusion z)) e q
    | lst h a => exact st_ret (ed_andV (b := false) (c := true) (ed_isi (ed_var rfl (.lst h a)) kb_li) (fun z => Bool.noConfusion z)) e q
    | tup h a => exact st_ret (ed_andV (b := false) (c := true) (ed_isi (ed_var rfl (.tup h a)) kb_ti) (fun z => Bool.noConfusion z)) e q
theorem ed_whole {B : Bg} {G : Hp} {σ : L2.St} {tr : TA} {E : XK} {d : PyData} (ha : EvA K B tr σ G [d]) : EvD K B (tCall (sp__law_whole K) [] E tr) σ G (.bool (wholeD d)) :=
  ed_call ha fun vs G2 H2 _ e dv Q q => by
    cases dv with
    | cons h a =>
      cases a
      exact ⟨B, G2, _, d, e, rfl, h, q⟩
/-! _law_same -/
/-- data of a depth below n, no list too long -/
def fit : Nat → PyData → Prop
  | 0, _ => False
  | n + 1, .list ds => ds.length ≤ 100000 ∧ ∀ x ∈ ds, fit n x
  | n + 1, .tuple ds => ds.length ≤ 100000 ∧ ∀ x ∈ ds, fit n x
  | _ + 1, .dict _ => False
  | _ + 1, _ => True
theorem fit_int {n : Nat} {i : Int} : fit (n + 1) (.int i) := trivial
theorem fit_str {n : Nat} {i : Str} : fit (n + 1) (.str i) := trivial
theorem fit_bool {n : Nat} {i : Bool} : fit (n + 1) (.bool i) := trivial
theorem fit_none {n : Nat} : fit (n + 1) .none := trivial
theorem fit_tup {n : Nat} {ds : List PyData} (hl : ds.length ≤ 100000) (h : ∀ x ∈ ds, fit n x) : fit (n + 1) (.tuple ds) := ⟨hl, h⟩
theorem fit_lst {n : Nat} {ds : List PyData} (hl : ds.length ≤ 100000) (h : ∀ x ∈ ds, fit n x) : fit (n + 1) (.list ds) := ⟨hl, h⟩
theorem fa_nil {n : Nat} : ∀ x ∈ ([] : List PyData), fit n x := fun _ h => by cases h
theorem fa_cons {n : Nat} {d : PyData} {ds : List PyData} (h : fit n d) (h2 : ∀ x ∈ ds, fit n x) : ∀ x ∈ d :: ds, fit n x := fun x hx => by
  cases hx with
  | head => exact h
  | tail _ q => exact h2 x q
def sp_same (n : Nat) (K : Fg) : Sp := fun vs H Q E => ∃ (B : Bg) (G : Hp) (v u : V) (d : PyData), Ok K B G H ∧ vs = [v, u] ∧ Dp K G v d ∧ Dp K G u d ∧ fit n d ∧ Ret K B G H Q (.bool true)
abbrev sp__law_same (K : Fg) : Sp := sp_same 6 K
theorem ed_same {n : Nat} {B : Bg} {G : Hp} {σ : L2.St} {tr : TA} {E : XK} {d : PyData} (ha : EvA K B tr σ G [d, d]) (hf : fit n d) : EvD K B (tCall (sp_same n K) [] E tr) σ G (.bool true) :=
  ed_call ha fun vs G2 H2 _ e dv Q q => by
    cases dv with
    | cons h a =>
      cases a with
      | cons h2 a2 =>
        cases a2
        exact ⟨B, G2, _, _, d, e, rfl, h, h2, hf, q⟩
theorem all_yes (n : Nat) : (List.range n).filterMap (fun j : Nat => (fun _ : Int => some (PyData.bool true)) (j : Int)) = (List.replicate n true).map PyData.bool := by
  induction n with
  | zero => rfl
  | succ n ih =>
    rw [List.range_succ, List.filterMap_append, ih, List.replicate_succ', List.map_append]
    rfl
theorem at_some {ds : List PyData} {j : Nat} (h : j < ds.length) : atI ds (j : Int) = some ds[j] := atI_nat (List.getElem?_eq_getElem h)
abbrev N__law_same : List Str := ["_law_found", "_law_due", "_law_at"]
theorem sc__law_same : FnScope N__law_same ["_law_found", "_law_due"] (defScope s__law_same) := ⟨rfl, rfl, rfl, by decide +kernel, rfl, by decide +kernel, by decide +kernel⟩
theorem same_ok (T : Txt K mg) (G__law_whole : Good P w K mg base (L2.CX P w) 1 "_law_whole" ["_law_found"] [] (sp__law_whole K)) : ∀ n : Nat, Good P w K mg base (L2.CX P w) (n + 2) "_law_same" ["_law_found", "_law_due"] [] (sp_same n K)
  | 0 => by
    obtain ⟨fd, F⟩ := T.c.def_ 8 (d := d__law_same) rfl
    have b : Binds K fd ["_law_found", "_law_due"] [] := F.bindsN fun _ _ _ _ _ _ us hl => match us, hl with | [_, _], _ => rfl
    exact ⟨⟨fd, [], ⟨fun vs H Q E h => (by obtain ⟨_, _, _, _, _, _, _, _, _, z, _⟩ := h; exact z.elim), fun A outer s H args us vs Q E hr e0 hb hv h => (by obtain ⟨_, _, _, _, _, _, _, _, _, z, _⟩ := h; exact z.elim)⟩, .nil, b⟩, T.g__law_same, F.kp⟩
  | n + 1 => by
    have G__law_same := same_ok T G__law_whole n
    obtain ⟨fd, F⟩ := T.c.def_ 8 (d := d__law_same) rfl
    have b : Binds K fd ["_law_found", "_law_due"] [] := F.bindsN fun _ _ _ _ _ _ us hl => match us, hl with | [_, _], _ => rfl
    refine ⟨⟨fd, [], F.ok sc__law_same (fun vs H Q E h => ?_) (fun cdv A outer s H vs Q E hr h => ?_), .nil, b⟩, T.g__law_same, F.kp⟩
    · obtain ⟨B, G, v, u, d, e, rfl, _⟩ := h
      rfl
    · obtain ⟨B, G, v, u, d, e, rfl, dv, du, hf, q⟩ := h
      have hr1 : Room 1 _ := hr.mono (Nat.succ_le_succ (Nat.zero_le (n + 1)))
      refine ⟨_, PSs.nox (pss_cons (ps_if (pt_cmpR op_isN (pv 1) pe_non (nomark _)) (pss_one (ps_ret (pe_cmpR op_isN (pv 0) pe_non (nomark _)))) pss_nil) (pss_cons (ps_if (pt_val (pe_callB (r := rIsi K) call_isi (by rfl) T.f_isinstance (by decide +kernel) (pa_cons (pv 1) (pa_cons (pe_bltn (v := .ty "bool") (by rfl) T.f_bool (by decide +kernel) rfl) pa_nil)))) (pss_one (ps_ret (pe_and (pe_callB (r := rIsi K) call_isi (by rfl) T.f_isinstance (by decide +kernel) (pa_cons (pv 0) (pa_cons (pe_bltn (v := .ty "bool") (by rfl) T.f_bool (by decide +kernel) rfl) pa_nil))) (pe_one (pe_cmpR op_eq (pv 0) (pv 1) (nomark _)))))) pss_nil) (pss_cons (ps_if (pt_val (pe_callB (r := rIsi K) call_isi (by rfl) T.f_isinstance (by decide +kernel) (pa_cons (pv 1) (pa_cons (pe_bltn (v := .ty "int") (by rfl) T.f_int (by decide +kernel) rfl) pa_nil)))) (pss_one (ps_ret (pe_and (pe_own G__law_whole hr1 (by rfl) passL (pa_cons (pv 0) pa_nil)) (pe_one (pe_cmpR op_eq (pv 0) (pv 1) (nomark _)))))) pss_nil) (pss_cons (ps_if (pt_val (pe_callB (r := rIsi K) call_isi (by rfl) T.f_isinstance (by decide +kernel) (pa_cons (pv 1) (pa_cons (pe_bltn (v := .ty "str") (by rfl) T.f_str (by decide +kernel) rfl) pa_nil)))) (pss_one (ps_ret (pe_and (pe_callB (r := rIsi K) call_isi (by rfl) T.f_isinstance (by decide +kernel) (pa_cons (pv 0) (pa_cons (pe_bltn (v := .ty "str") (by rfl) T.f_str (by decide +kernel) rfl) pa_nil))) (pe_one (pe_cmpR op_eq (pv 0) (pv 1) (nomark _)))))) pss_nil) (pss_cons (ps_if (PW.pt (pw_or (pt_cmpR op_ne (pe_callB (r := rIsi K) call_isi (by rfl) T.f_isinstance (by decide +kernel) (pa_cons (pv 1) (pa_cons (pe_bltn (v := .ty "list") (by rfl) T.f_list (by decide +kernel) rfl) pa_nil))) (pe_callB (r := rIsi K) call_isi (by rfl) T.f_isinstance (by decide +kernel) (pa_cons (pv 0) (pa_cons (pe_bltn (v := .ty "list") (by rfl) T.f_list (by decide +kernel) rfl) pa_nil))) (nomark _)) (pw_or1 (pt_cmpR op_ne (pe_callB (r := rIsi K) call_isi (by rfl) T.f_isinstance (by decide +kernel) (pa_cons (pv 1) (pa_cons (pe_bltn (v := .ty "tuple") (by rfl) T.f_tuple (by decide +kernel) rfl) pa_nil))) (pe_callB (r := rIsi K) call_isi (by rfl) T.f_isinstance (by decide +kernel) (pa_cons (pv 0) (pa_cons (pe_bltn (v := .ty "tuple") (by rfl) T.f_tuple (by decide +kernel) rfl) pa_nil))) (nomark _))))) (pss_one (ps_ret pe_bl)) pss_nil) (pss_cons (ps_if (pt_cmpR op_ne (pe_callB (r := rLenS K) call_len_seq (by rfl) T.f_len (by decide +kernel) (pa_cons (pv 0) pa_nil)) (pe_callB (r := rLenS K) call_len_seq (by rfl) T.f_len (by decide +kernel) (pa_cons (pv 1) pa_nil)) (nomark _)) (pss_one (ps_ret pe_bl)) pss_nil) (pss_one (ps_ret (pe_callB (r := rAll K) (cr_all rfl) (by rfl) T.f_all (by decide +kernel) (pa_cons (pe_lc (own := [("_law_at", 2)]) (g := gName 2) rfl sc__law_same.nd (pi_range1 (by rfl) T.f_range (pa_cons (pe_callB (r := rLenS K) call_len_seq (by rfl) T.f_len (by decide +kernel) (pa_cons (pv 1) pa_nil)) pa_nil)) (blkOk_by (own := [("_law_at", 2)]) (N := N__law_same) (sc := defScope s__law_same) (by decide +kernel)) (fun _ _ _ _ _ => (pg_name (i := 2) sc__law_same.nd rfl (Or.inl rfl))) (fun _ _ _ _ _ => pts_nil) (fun _ _ _ _ _ => (pe_own G__law_same hr (by rfl) passL (pa_cons (pe_ix (r := rIx K) ix_seq (pv 0) (pv 2) (fun _ _ => rfl)) (pa_cons (pe_ix (r := rIx K) ix_seq (pv 1) (pv 2) (fun _ _ => rfl)) pa_nil))))) pa_nil)))))))))), ?_⟩
      refine sq_if (eb_test (ed_op (ed_var rfl du) ed_non rd_isN)) e (fun c G2 H2 X => ?_) (fun c G2 H2 X => ?_)
      · cases d with
        | none => exact st_ret (ed_op (ed_var rfl (dp_mono X.gg dv)) ed_non rd_isN) X.ok (q.mono X)
        | _ => exact Bool.noConfusion c
      replace q := q.mono X
      replace dv := dp_mono X.gg dv
      replace du := dp_mono X.gg du
      have e2 := X.ok
      cases d with
      | none => exact Bool.noConfusion c
      | bool x =>
        refine sq_if (b := true) (eb_B (ed_isi (ed_var rfl du) kb_bb)) e2 (fun _ G3 H3 X3 => ?_) (fun c _ _ _ => Bool.noConfusion c)
        refine st_ret (d := .bool true) (ed_is (ed_andV (b := true) (ed_isi (ed_var rfl (dp_mono X3.gg dv)) kb_bb) (fun _ => ed_op (ed_var rfl (dp_mono X3.gg dv)) (ed_var rfl (dp_mono X3.gg du)) (rd_eq rfl))) ?_) X3.ok (q.mono X3)
        rw [decide_eq_true (rfl : vOf (.bool x) = vOf (.bool x))]
        rfl
      | int x =>
        refine sq_if (b := false) (eb_B (ed_isi (ed_var rfl du) kb_ib)) e2 (fun c _ _ _ => Bool.noConfusion c) (fun _ G3 H3 X3 => ?_)
        refine sq_if (b := true) (eb_B (ed_isi (ed_var rfl (dp_mono X3.gg du)) kb_ii)) X3.ok (fun _ G4 H4 X4 => ?_) (fun c _ _ _ => Bool.noConfusion c)
        have g := X3.gg.trans X4.gg
        refine st_ret (d := .bool true) (ed_is (ed_andV (b := true) (ed_whole (ea_cons (ed_var rfl (dp_mono g dv)) ea_nil)) (fun _ => ed_op (ed_var rfl (dp_mono g dv)) (ed_var rfl (dp_mono g du)) (rd_eq rfl))) ?_) X4.ok (q.mono (X3.trans X4))
        rw [decide_eq_true (rfl : vOf (.int x) = vOf (.int x))]
        rfl
      | str x =>
        refine sq_if (b := false) (eb_B (ed_isi (ed_var rfl du) kb_sb)) e2 (fun c _ _ _ => Bool.noConfusion c) (fun _ G3 H3 X3 => ?_)
        refine sq_if (b := false) (eb_B (ed_isi (ed_var rfl (dp_mono X3.gg du)) kb_si)) X3.ok (fun c _ _ _ => Bool.noConfusion c) (fun _ G4 H4 X4 => ?_)
        refine sq_if (b := true) (eb_B (ed_isi (ed_var rfl (dp_mono (X3.gg.trans X4.gg) du)) kb_ss)) X4.ok (fun _ G5 H5 X5 => ?_) (fun c _ _ _ => Bool.noConfusion c)
        have g := (X3.gg.trans X4.gg).trans X5.gg
        refine st_ret (d := .bool true) (ed_is (ed_andV (b := true) (ed_isi (ed_var rfl (dp_mono g dv)) kb_ss) (fun _ => ed_op (ed_var rfl (dp_mono g dv)) (ed_var rfl (dp_mono g du)) (rd_eq rfl))) ?_) X5.ok (q.mono ((X3.trans X4).trans X5))
        rw [decide_eq_true (rfl : vOf (.str x) = vOf (.str x))]
        rfl
      | list ds =>
        refine sq_if (b := false) (eb_B (ed_isi (ed_var rfl du) kb_lb)) e2 (fun c _ _ _ => Bool.noConfusion c) (fun _ G3 H3 X3 => ?_)
        refine sq_if (b := false) (eb_B (ed_isi (ed_var rfl (dp_mono X3.gg du)) kb_li)) X3.ok (fun c _ _ _ => Bool.noConfusion c) (fun _ G4 H4 X4 => ?_)
        refine sq_if (b := false) (eb_B (ed_isi (ed_var rfl (dp_mono (X3.gg.trans X4.gg) du)) kb_ls)) X4.ok (fun c _ _ _ => Bool.noConfusion c) (fun _ G5 H5 X5 => ?_)
        have g := (X3.gg.trans X4.gg).trans X5.gg
        replace q := q.mono ((X3.trans X4).trans X5)
        replace dv := dp_mono g dv
        replace du := dp_mono g du
        refine sq_if (b := false) (eb_or (b := false) (eb_test (ed_op (ed_isi (ed_var rfl du) kb_ll) (ed_isi (ed_var rfl dv) kb_ll) (rd_ne rfl))) (fun _ => eb_test (ed_op (ed_isi (ed_var rfl du) kb_lt) (ed_isi (ed_var rfl dv) kb_lt) (rd_ne rfl)))) X5.ok (fun c _ _ _ => Bool.noConfusion c) (fun _ G6 H6 X6 => ?_)
        refine sq_if (b := false) (eb_is (eb_test (ed_op (ed_len (ed_var rfl (dp_mono X6.gg dv)) rfl) (ed_len (ed_var rfl (dp_mono X6.gg du)) rfl) (rd_ne rfl))) (by rw [decide_eq_true (rfl : vOf (.int (ds.length : Int)) = vOf (.int (ds.length : Int)))]; rfl)) X6.ok (fun c _ _ _ => Bool.noConfusion c) (fun _ G7 H7 X7 => ?_)
        have g7 := X6.gg.trans X7.gg
        refine st_ret (d := .bool true) (ed_is (ed_all (bs := List.replicate ds.length true) (EvF.ed (ed_isF (ef_lcR (n := ds.length) (f := fun _ => some (.bool true)) (ea_cons (ed_len (ed_var rfl (dp_mono g7 du)) rfl) ea_nil) hf.1 (fun j _ => eb_yes) (fun j d hj hd => ?_)) (all_yes _)))) (by simp)) X7.ok (q.mono (X6.trans X7))
        obtain rfl := Option.some.inj hd
        exact ed_same (d := ds[j]) (ea_cons (ed_op (ed_var rfl (dp_mono g7 dv)) (ed_var rfl (.int _)) (rd_ixSL (at_some hj))) (ea_cons (ed_op (ed_var rfl (dp_mono g7 du)) (ed_var rfl (.int _)) (rd_ixSL (at_some hj))) ea_nil)) (hf.2 _ (List.getElem_mem hj))
      | tuple ds =>
        refine sq_if (b := false) (eb_B (ed_isi (ed_var rfl du) kb_tb)) e2 (fun c _ _ _ => Bool.noConfusion c) (fun _ G3 H3 X3 => ?_)
        refine sq_if (b := false) (eb_B (ed_isi (ed_var rfl (dp_mono X3.gg du)) kb_ti)) X3.ok (fun c _ _ _ => Bool.noConfusion c) (fun _ G4 H4 X4 => ?_)
        refine sq_if (b := false) (eb_B (ed_isi (ed_var rfl (dp_mono (X3.gg.trans X4.gg) du)) kb_ts)) X4.ok (fun c _ _ _ => Bool.noConfusion c) (fun _ G5 H5 X5 => ?_)
        have g := (X3.gg.trans X4.gg).trans X5.gg
        replace q := q.mono ((X3.trans X4).trans X5)
        replace dv := dp_mono g dv
        replace du := dp_mono g du
        refine sq_if (b := false) (eb_or (b := false) (eb_test (ed_op (ed_isi (ed_var rfl du) kb_tl) (ed_isi (ed_var rfl dv) kb_tl) (rd_ne rfl))) (fun _ => eb_test (ed_op (ed_isi (ed_var rfl du) kb_tt) (ed_isi (ed_var rfl dv) kb_tt) (rd_ne rfl)))) X5.ok (fun c _ _ _ => Bool.noConfusion c) (fun _ G6 H6 X6 => ?_)
        refine sq_if (b := false) (eb_is (eb_test (ed_op (ed_len (ed_var rfl (dp_mono X6.gg dv)) rfl) (ed_len (ed_var rfl (dp_mono X6.gg du)) rfl) (rd_ne rfl))) (by rw [decide_eq_true (rfl : vOf (.int (ds.length : Int)) = vOf (.int (ds.length : Int)))]; rfl)) X6.ok (fun c _ _ _ => Bool.noConfusion c) (fun _ G7 H7 X7 => ?_)
        have g7 := X6.gg.trans X7.gg
        refine st_ret (d := .bool true) (ed_is (ed_all (bs := List.replicate ds.length true) (EvF.ed (ed_isF (ef_lcR (n := ds.length) (f := fun _ => some (.bool true)) (ea_cons (ed_len (ed_var rfl (dp_mono g7 du)) rfl) ea_nil) hf.1 (fun j _ => eb_yes) (fun j d hj hd => ?_)) (all_yes _)))) (by simp)) X7.ok (q.mono (X6.trans X7))
        obtain rfl := Option.some.inj hd
        exact ed_same (d := ds[j]) (ea_cons (ed_op (ed_var rfl (dp_mono g7 dv)) (ed_var rfl (.int _)) (rd_ixST (at_some hj))) (ea_cons (ed_op (ed_var rfl (dp_mono g7 du)) (ed_var rfl (.int _)) (rd_ixST (at_some hj))) ea_nil)) (hf.2 _ (List.getElem_mem hj))
      | dict kvs => exact hf.elim
theorem ok__law_same (T : Txt K mg) (G__law_whole : Good P w K mg base (L2.CX P w) 1 "_law_whole" ["_law_found"] [] (sp__law_whole K)) : Good P w K mg base (L2.CX P w) 8 "_law_same" ["_law_found", "_law_due"] [] (sp_same 6 K) := same_ok T G__law_whole 6
/-! _law_go -/
def okL (t : Int) : Prop := 0 ≤ t ∧ t ≤ 7
def dxL (t : Int) : Int := [1, 1, 0, -1, -1, -1, 0, 1].getD t.toNat 0
def dyL (t : Int) : Int := [0, 1, 1, 1, 0, -1, -1, -1].getD t.toNat 0
theorem lt8L {t : Int} (h : okL t) : ∃ n : Nat, t = (n : Int) ∧ n < 8 := by
  obtain ⟨h1, h2⟩ := h
  exact ⟨t.toNat, by omega, by omega⟩
theorem at_dxL {t : Int} (h : okL t) : atI ([.int 1, .int 1, .int 0, .int (0 - 1), .int (0 - 1), .int (0 - 1), .int 0, .int 1] : List PyData) t = some (.int (dxL t)) := by
  obtain ⟨n, rfl, hn⟩ := lt8L h
  refine atI_nat ?_
  match n, hn with
  | 0, _ | 1, _ | 2, _ | 3, _ | 4, _ | 5, _ | 6, _ | 7, _ => rfl
theorem at_dyL {t : Int} (h : okL t) : atI ([.int 0, .int 1, .int 1, .int 1, .int 0, .int (0 - 1), .int (0 - 1), .int (0 - 1)] : List PyData) t = some (.int (dyL t)) := by
  obtain ⟨n, rfl, hn⟩ := lt8L h
  refine atI_nat ?_
  match n, hn with
  | 0, _ | 1, _ | 2, _ | 3, _ | 4, _ | 5, _ | 6, _ | 7, _ => rfl
def goL (x y t : Int) : PyData := .tuple [.int (x + dxL t), .int (y + dyL t)]
def sp__law_go (K : Fg) : Sp := fun vs H Q E => ∃ (B : Bg) (G : Hp) (x y t : Int), Ok K B G H ∧ vs = [.int x, .int y, .int t] ∧ okL t ∧ Ret K B G H Q (goL x y t)
abbrev N__law_go : List Str := ["_law_here", "_law_low", "_law_pick", "_law_there"]
theorem sc__law_go : FnScope N__law_go ["_law_here", "_law_low", "_law_pick"] (defScope s__law_go) := ⟨rfl, rfl, rfl, by decide +kernel, rfl, by decide +kernel, by decide +kernel⟩
theorem ok__law_go (T : Txt K mg)  : Good P w K mg base (L2.CX P w) 1 "_law_go" ["_law_here", "_law_low", "_law_pick"] [] (sp__law_go K) := by
  obtain ⟨fd, F⟩ := T.c.def_ 9 (d := d__law_go) rfl
  have b : Binds K fd ["_law_here", "_law_low", "_law_pick"] [] := F.bindsN fun _ _ _ _ _ _ us hl => match us, hl with | [_, _, _], _ => rfl
  refine ⟨⟨fd, [], F.ok sc__law_go (fun vs H Q E h => ?_) (fun cdv A outer s H vs Q E hr h => ?_), .nil, b⟩, T.g__law_go, F.kp⟩
  · obtain ⟨B, G, x, y, t, e, rfl, _⟩ := h
    all_goals rfl
  · obtain ⟨B, G, x, y, t, e, rfl, z, q⟩ := h
    all_goals refine ⟨_, PSs.nox (pss_cons (ps_set (i := 3) sc__law_go.nd rfl (Or.inl rfl) (pe_op op_add (pv 0) (pe_ix (r := rIxL K) ix_list (pe_lst (pa_cons pe_int (pa_cons pe_int (pa_cons pe_int (pa_cons (pe_op op_sub pe_int pe_int) (pa_cons (pe_op op_sub pe_int pe_int) (pa_cons (pe_op op_sub pe_int pe_int) (pa_cons pe_int (pa_cons pe_int pa_nil))))))))) (pv 2) (fun _ _ => rfl)))) (pss_one (ps_ret (pe_tup (pa_cons (pv 3) (pa_cons (pe_op op_add (pv 1) (pe_ix (r := rIxL K) ix_list (pe_lst (pa_cons pe_int (pa_cons pe_int (pa_cons pe_int (pa_cons pe_int (pa_cons pe_int (pa_cons (pe_op op_sub pe_int pe_int) (pa_cons (pe_op op_sub pe_int pe_int) (pa_cons (pe_op op_sub pe_int pe_int) pa_nil))))))))) (pv 2) (fun _ _ => rfl))) pa_nil)))))), ?_⟩
    refine sq_set (ed_op (ed_var rfl (.int x)) (ed_op (ed_lst (ea_cons ed_int (ea_cons ed_int (ea_cons ed_int (ea_cons (ed_op ed_int ed_int rd_I0) (ea_cons (ed_op ed_int ed_int rd_I0) (ea_cons (ed_op ed_int ed_int rd_I0) (ea_cons ed_int (ea_cons ed_int ea_nil)))))))) (Nat.le_of_ble_eq_true rfl)) (ed_var rfl (.int t)) (rd_ixL (at_dxL z))) rd_I0) e (fun v G2 H2 X dv => ?_)
    obtain rfl := dp_int dv
    exact st_ret (ed_tup (ea_cons (ed_var rfl (.int _)) (ea_cons (ed_op (ed_var rfl (.int y)) (ed_op (ed_lst (ea_cons ed_int (ea_cons ed_int (ea_cons ed_int (ea_cons ed_int (ea_cons ed_int (ea_cons (ed_op ed_int ed_int rd_I0) (ea_cons (ed_op ed_int ed_int rd_I0) (ea_cons (ed_op ed_int ed_int rd_I0) ea_nil)))))))) (Nat.le_of_ble_eq_true rfl)) (ed_var rfl (.int t)) (rd_ixL (at_dyL z))) rd_I0) ea_nil)) (Nat.le_of_ble_eq_true rfl)) X.ok (q.mono X)
theorem ed_go {B : Bg} {G : Hp} {σ : L2.St} {tr : TA} {E : XK} {x y t : Int} (ha : EvA K B tr σ G [.int x, .int y, .int t]) (ht : okL t) : EvD K B (tCall (sp__law_go K) [] E tr) σ G (goL x y t) :=
  ed_call ha fun vs G2 H2 _ e dv Q q => ⟨B, G2, x, y, t, e, by rw [List.append_nil]; exact dpAll_intsV (bs := [x, y, t]) dv, ht, q⟩
/-! _law_name -/
def na (x t : Int) : Int := if t < 4 then x else x + dxL t
def nb (y t : Int) : Int := if t < 4 then y else y + dyL t
def nc (t : Int) : Int := if t < 4 then t else t - 4
def nameL (x y t : Int) : PyData := .tuple [.int (na x t), .int (nb y t), .int (nc t)]
def sp__law_name (K : Fg) : Sp := fun vs H Q E => ∃ (B : Bg) (G : Hp) (x y t : Int), Ok K B G H ∧ vs = [.int x, .int y, .int t] ∧ okL t ∧ Ret K B G H Q (nameL x y t)
abbrev N__law_name : List Str := ["_law_here", "_law_low", "_law_pick"]
theorem sc__law_name : FnScope N__law_name ["_law_here", "_law_low", "_law_pick"] (defScope s__law_name) := ⟨rfl, rfl, rfl, by decide +kernel, rfl, by decide +kernel, by decide +kernel⟩
theorem ok__law_name (T : Txt K mg) (G__law_go : Good P w K mg base (L2.CX P w) 1 "_law_go" ["_law_here", "_law_low", "_law_pick"] [] (sp__law_go K)) : Good P w K mg base (L2.CX P w) 2 "_law_name" ["_law_here", "_law_low", "_law_pick"] [] (sp__law_name K) := by
  obtain ⟨fd, F⟩ := T.c.def_ 10 (d := d__law_name) rfl
  have b : Binds K fd ["_law_here", "_law_low", "_law_pick"] [] := F.bindsN fun _ _ _ _ _ _ us hl => match us, hl with | [_, _, _], _ => rfl
  refine ⟨⟨fd, [], F.ok sc__law_name (fun vs H Q E h => ?_) (fun cdv A outer s H vs Q E hr h => ?_), .nil, b⟩, T.g__law_name, F.kp⟩
  · obtain ⟨B, G, x, y, t, e, rfl, _⟩ := h
    all_goals rfl
  · obtain ⟨B, G, x, y, t, e, rfl, z, q⟩ := h
    all_goals refine ⟨_, PSs.nox (pss_cons (ps_if (pt_cmpR op_lt (pv 2) pe_int (nomark _)) (pss_one (ps_ret (pe_tup (pa_cons (pv 0) (pa_cons (pv 1) (pa_cons (pv 2) pa_nil)))))) pss_nil) (pss_one (ps_ret (pe_op (r := rCatT K) op_catT (pe_own G__law_go (hr.mono (by decide)) (by rfl) passL (pa_cons (pv 0) (pa_cons (pv 1) (pa_cons (pv 2) pa_nil)))) (pe_tup (pa_cons (pe_op op_sub (pv 2) pe_int) pa_nil)))))), ?_⟩
    unfold nameL na nb nc at q
    refine sq_if (eb_test (ed_op (ed_var rfl (.int t)) ed_int rd_B0)) e (fun c G3 H3 X3 => ?_) (fun c G3 H3 X3 => ?_)
    · simp only [if_pos (of_decide_eq_true c)] at q
      exact st_ret (ed_tup (ea_cons (ed_var rfl (.int x)) (ea_cons (ed_var rfl (.int y)) (ea_cons (ed_var rfl (.int t)) ea_nil))) (Nat.le_of_ble_eq_true rfl)) X3.ok (q.mono X3)
    · simp only [if_neg (of_decide_eq_false c)] at q
      exact st_ret (ed_op (ed_go (ea_cons (ed_var rfl (.int x)) (ea_cons (ed_var rfl (.int y)) (ea_cons (ed_var rfl (.int t)) ea_nil))) z) (ed_tup (ea_cons (ed_op (ed_var rfl (.int t)) ed_int rd_I0) ea_nil) (Nat.le_of_ble_eq_true rfl)) (rd_catT (by simp) (by simp) (Nat.le_of_ble_eq_true rfl))) X3.ok (q.mono X3)
theorem ed_name {B : Bg} {G : Hp} {σ : L2.St} {tr : TA} {E : XK} {x y t : Int} (ha : EvA K B tr σ G [.int x, .int y, .int t]) (ht : okL t) : EvD K B (tCall (sp__law_name K) [] E tr) σ G (nameL x y t) :=
  ed_call ha fun vs G2 H2 _ e dv Q q => ⟨B, G2, x, y, t, e, by rw [List.append_nil]; exact dpAll_intsV (bs := [x, y, t]) dv, ht, q⟩
/-! _law_tips -/
def tipsL (x y t : Int) : PyData := .tuple [.tuple [.int x, .int y], goL x y t]
def sp__law_tips (K : Fg) : Sp := fun vs H Q E => ∃ (B : Bg) (G : Hp) (v : V) (x y t : Int), Ok K B G H ∧ vs = [v] ∧ Dp K G v (.tuple [.int x, .int y, .int t]) ∧ okL t ∧ Ret K B G H Q (tipsL x y t)
abbrev N__law_tips : List Str := ["_law_name_here"]
theorem sc__law_tips : FnScope N__law_tips ["_law_name_here"] (defScope s__law_tips) := ⟨rfl, rfl, rfl, by decide +kernel, rfl, by decide +kernel, by decide +kernel⟩
theorem ok__law_tips (T : Txt K mg) (G__law_go : Good P w K mg base (L2.CX P w) 1 "_law_go" ["_law_here", "_law_low", "_law_pick"] [] (sp__law_go K)) : Good P w K mg base (L2.CX P w) 2 "_law_tips" ["_law_name_here"] [] (sp__law_tips K) := by
  obtain ⟨fd, F⟩ := T.c.def_ 11 (d := d__law_tips) rfl
  have b : Binds K fd ["_law_name_here"] [] := F.bindsN fun _ _ _ _ _ _ us hl => match us, hl with | [_], _ => rfl
  refine ⟨⟨fd, [], F.ok sc__law_tips (fun vs H Q E h => ?_) (fun cdv A outer s H vs Q E hr h => ?_), .nil, b⟩, T.g__law_tips, F.kp⟩
  · obtain ⟨B, G, v, x, y, t, e, rfl, _⟩ := h
    all_goals rfl
  · obtain ⟨B, G, v, x, y, t, e, rfl, dv, z, q⟩ := h
    all_goals refine ⟨_, PSs.nox (pss_one (ps_ret (pe_tup (pa_cons (pe_slice (r := rSlT K) sl_tup (pv 0) po_none (po_some pe_int)) (pa_cons (pe_own G__law_go (hr.mono (by decide)) (by rfl) passL (pa_cons (pe_ix (r := rIxT K) ix_tup (pv 0) pe_int (fun _ _ => rfl)) (pa_cons (pe_ix (r := rIxT K) ix_tup (pv 0) pe_int (fun _ _ => rfl)) (pa_cons (pe_ix (r := rIxT K) ix_tup (pv 0) pe_int (fun _ _ => rfl)) pa_nil)))) pa_nil))))), ?_⟩
    exact st_ret (ed_tup (ea_cons (ed_slT (ed_var rfl dv) eo_none (eo_some ed_int) (fun h => absurd h.2 (by show ¬ HT.sIx 3 3 (some 2) = 3; decide))) (ea_cons (ed_go (ea_cons (ed_op (ed_var rfl dv) ed_int (rd_ixT rfl)) (ea_cons (ed_op (ed_var rfl dv) ed_int (rd_ixT rfl)) (ea_cons (ed_op (ed_var rfl dv) ed_int (rd_ixT rfl)) ea_nil))) z) ea_nil)) (Nat.le_of_ble_eq_true rfl)) e q
theorem ed_tips {B : Bg} {G : Hp} {σ : L2.St} {tr : TA} {E : XK} {x y t : Int} (ha : EvA K B tr σ G [.tuple [.int x, .int y, .int t]]) (ht : okL t) : EvD K B (tCall (sp__law_tips K) [] E tr) σ G (tipsL x y t) :=
  ed_call ha fun vs G2 H2 _ e dv Q q => by
    cases dv with
    | cons h a =>
      cases a
      exact ⟨B, G2, _, x, y, t, e, rfl, h, ht, q⟩
/-! _law_asked -/
def askD (w x y t : Int) : PyData := if w = 0 then .int ((t + 4) % 8) else if w = 1 then goD x y t 1 else leadD x y t
def sp__law_asked (K : Fg) : Sp := fun vs H Q E => ∃ (B : Bg) (G : Hp) (w x y t : Int), Ok K B G H ∧ vs = [.int w, .int x, .int y, .int t] ∧ (okT t → Ret K B G H Q (askD w x y t)) ∧ (¬ okT t → Rai K B G H E (He.ga K "BadTurn"))
abbrev N__law_asked : List Str := ["_law_which", "_law_across", "_law_down", "_law_pick"]
theorem sc__law_asked : FnScope N__law_asked ["_law_which", "_law_across", "_law_down", "_law_pick"] (defScope s__law_asked) := ⟨rfl, rfl, rfl, by decide +kernel, rfl, by decide +kernel, by decide +kernel⟩
theorem ok__law_asked (T : Txt K mg) (G_back : Good P w K mg base (L2.CX P w) 2 "back" ["turn"] [] (sp_back K)) (G_step_d1 : Good P w K mg base (L2.CX P w) 2 "step" ["x", "y", "turn", "many"] [.int 1] (sp_step K)) (G_lead : Good P w K mg base (L2.CX P w) 3 "lead" ["x", "y", "turn"] [] (sp_lead K)) : Good P w K mg base (L2.CX P w) 4 "_law_asked" ["_law_which", "_law_across", "_law_down", "_law_pick"] [] (sp__law_asked K) := by
  obtain ⟨fd, F⟩ := T.c.def_ 12 (d := d__law_asked) rfl
  have b : Binds K fd ["_law_which", "_law_across", "_law_down", "_law_pick"] [] := F.bindsN fun _ _ _ _ _ _ us hl => match us, hl with | [_, _, _, _], _ => rfl
  refine ⟨⟨fd, [], F.ok sc__law_asked (fun vs H Q E h => ?_) (fun cdv A outer s H vs Q E hr h => ?_), .nil, b⟩, T.g__law_asked, F.kp⟩
  · obtain ⟨B, G, w, x, y, t, e, rfl, _⟩ := h
    all_goals rfl
  · obtain ⟨B, G, wh, x, y, t, e, rfl, q, r⟩ := h
    all_goals refine ⟨_, (pss_cons (ps_if (pt_cmpR op_eq (pv 0) pe_int (nomark _)) (pss_one (ps_ret (pe_own G_back (hr.mono (by decide)) (by rfl) (passes_call (takes_of rfl rfl rfl rfl) (fun _ _ _ _ h => h)) (pa_cons (pv 3) pa_nil)))) pss_nil) (pss_cons (ps_if (pt_cmpR op_eq (pv 0) pe_int (nomark _)) (pss_one (ps_ret (pe_own G_step_d1 (hr.mono (by decide)) (by rfl) (passes_call (takes_of rfl rfl rfl rfl) (fun _ _ _ _ h => h)) (pa_cons (pv 1) (pa_cons (pv 2) (pa_cons (pv 3) pa_nil)))))) pss_nil) (pss_one (ps_ret (pe_own G_lead (hr.mono (by decide)) (by rfl) (passes_call (takes_of rfl rfl rfl rfl) (fun _ _ _ _ h => h)) (pa_cons (pv 1) (pa_cons (pv 2) (pa_cons (pv 3) pa_nil)))))))), ?_⟩
    unfold askD at q
    have d1 : ∀ {n : Int}, (decide (vOf (.int wh) = vOf (.int n))) = true → wh = n := fun h => V.int.inj (of_decide_eq_true h)
    have d2 : ∀ {n : Int}, (decide (vOf (.int wh) = vOf (.int n))) = false → ¬ wh = n := fun h z => of_decide_eq_false h (congrArg V.int z)
    refine sq_if (eb_test (ed_op (ed_var rfl (.int wh)) ed_int (rd_eq rfl))) e (fun c G3 H3 X3 => ?_) (fun c G3 H3 X3 => ?_)
    · simp only [if_pos (d1 c)] at q
      refine ⟨.int t, rfl, B, G3, t, X3.ok, rfl, fun z => (q z).mono X3, fun z G4 H4 X4 => r z G4 H4 (X3.trans X4)⟩
    · simp only [if_neg (d2 c)] at q
      refine sq_if (eb_test (ed_op (ed_var rfl (.int wh)) ed_int (rd_eq rfl))) X3.ok (fun c G4 H4 X4 => ?_) (fun c G4 H4 X4 => ?_)
      · simp only [if_pos (d1 c)] at q
        exact ⟨.int x, rfl, .int y, rfl, .int t, rfl, B, G4, x, y, t, 1, X4.ok, rfl, fun z => (q z).mono (X3.trans X4), fun z G5 H5 X5 => r z G5 H5 ((X3.trans X4).trans X5)⟩
      · simp only [if_neg (d2 c)] at q
        exact ⟨.int x, rfl, .int y, rfl, .int t, rfl, B, G4, x, y, t, X4.ok, rfl, fun z => (q z).mono (X3.trans X4), fun z G5 H5 X5 => r z G5 H5 ((X3.trans X4).trans X5)⟩
/-! _law_said -/
def saidD (w x y t : Int) : PyData := if okT t then askD w x y t else .str "bad"
def sp__law_said (K : Fg) : Sp := fun vs H Q E => ∃ (B : Bg) (G : Hp) (w x y t : Int), Ok K B G H ∧ vs = [.int w, .int x, .int y, .int t] ∧ Ret K B G H Q (saidD w x y t)
abbrev N__law_said : List Str := ["_law_which", "_law_across", "_law_down", "_law_pick", "_law_told", "e"]
theorem sc__law_said : FnScope N__law_said ["_law_which", "_law_across", "_law_down", "_law_pick"] (defScope s__law_said) := ⟨rfl, rfl, rfl, by decide +kernel, rfl, by decide +kernel, by decide +kernel⟩
theorem ok__law_said (T : Txt K mg) (G__law_asked : Good P w K mg base (L2.CX P w) 4 "_law_asked" ["_law_which", "_law_across", "_law_down", "_law_pick"] [] (sp__law_asked K)) : Good P w K mg base (L2.CX P w) 5 "_law_said" ["_law_which", "_law_across", "_law_down", "_law_pick"] [] (sp__law_said K) := by
  obtain ⟨fd, F⟩ := T.c.def_ 13 (d := d__law_said) rfl
  have b : Binds K fd ["_law_which", "_law_across", "_law_down", "_law_pick"] [] := F.bindsN fun _ _ _ _ _ _ us hl => match us, hl with | [_, _, _, _], _ => rfl
  refine ⟨⟨fd, [], F.ok sc__law_said (fun vs H Q E h => ?_) (fun cdv A outer s H vs Q E hr h => ?_), .nil, b⟩, T.g__law_said, F.kp⟩
  · obtain ⟨B, G, w, x, y, t, e, rfl, _⟩ := h
    all_goals rfl
  · obtain ⟨B, G, wh, x, y, t, e, rfl, q⟩ := h
    all_goals refine ⟨_, PSs.nox (pss_cons (ps_set (i := 4) sc__law_said.nd rfl (Or.inl rfl) pe_non) (pss_cons (ps_try_as (i := 5) (Wout := fun _ _ _ _ => False) rfl rfl sc__law_said.nd rfl rfl ⟨rfl, by decide, .inl T.g_LeadError⟩ takes0 (fun W pn xe tk _ => (pss_one (ps_set (i := 4) sc__law_said.nd rfl (Or.inl rfl) (pe_ownS G__law_asked (hr.mono (by decide)) (by rfl) (fun σ => passAt tk σ) (pa_cons (pv 0) (pa_cons (pv 1) (pa_cons (pv 2) (pa_cons (pv 3) pa_nil))))))))
    (fun a oe cls d pn hz hf => (pss_when (p := cls = .ref (He.ga K "BadTurn") ∧ d = none) fun hD => (by obtain ⟨rfl, rfl⟩ := hD; exact (pss_one (ps_set (i := 4) sc__law_said.nd rfl (Or.inl rfl) (pe_ifExp (PW.pt (pw_and (pt_val (pe_callB (call_isE T.ec_BadTurn hz hf) (by rfl) T.f_isinstance (by decide +kernel) (pa_cons (pv 5) (pa_cons (pe_glob (v := .ref (He.ga K "BadTurn")) (by rfl) T.g_BadTurn rfl) pa_nil)))) (pw_and1 (pt_val (pe_callB (call_isE T.ec_BadTurn hz hf) (by rfl) T.f_isinstance (by decide +kernel) (pa_cons (pv 5) (pa_cons (pe_bltn (v := .ty "ValueError") (by rfl) T.f_ValueError (by decide +kernel) rfl) pa_nil))))))) pe_str pe_str))))))) (pss_one (ps_ret (pv 4))))), ?_⟩
    unfold saidD at q
    refine ⟨.int wh, rfl, .int x, rfl, .int y, rfl, .int t, rfl, B, G, wh, x, y, t, e, rfl, fun z v G2 H2 X dv => ?_, fun z G2 H2 X => ?_⟩
    · rw [if_pos z] at q
      exact ⟨v, rfl, q v G2 H2 X dv⟩
    · rw [if_neg z] at q
      refine ⟨true, T.exm_BadTurn_LeadError, fun _ a ha => ⟨⟨rfl, rfl⟩, ?_⟩, fun z => Bool.noConfusion z⟩
      refine ⟨.ref a, rfl, .ref (He.ga K "BadTurn"), .ref (He.ga K "BadTurn"), true, rfl, fun u r => r, T.kit_BadTurn_BadTurn, true, rfl, iteT ?_⟩
      refine ⟨.ref a, rfl, .ty "ValueError", .type "ValueError", true, rfl, fun u r => r, T.kit_BadTurn_ValueError, true, rfl, iteT ?_⟩
      exact ⟨_, rfl, q _ G2 H2 X (.str _)⟩
theorem ed_said {B : Bg} {G : Hp} {σ : L2.St} {tr : TA} {E : XK} {wh x y t : Int} (ha : EvA K B tr σ G [.int wh, .int x, .int y, .int t]) : EvD K B (tCall (sp__law_said K) [] E tr) σ G (saidD wh x y t) :=
  ed_call ha fun vs G2 H2 _ e dv Q q => ⟨B, G2, wh, x, y, t, e, by rw [List.append_nil]; exact dpAll_intsV (bs := [wh, x, y, t]) dv, q⟩
/-! law -/
abbrev N_law : List Str := ["_law_script", "_law_bag_here", "_law_k", "_law_scale", "_law_across", "_law_down", "_law_pick", "_law_due", "_law_times", "_law_one", "_law_other", "_law_spot", "_law_which"]
theorem sc_law : FnScope N_law ["_law_script"] (defScope s_law) := ⟨rfl, rfl, rfl, by decide +kernel, rfl, by decide +kernel, by decide +kernel⟩
def spLaw (K : Fg) : Sp := fun vs H Q E => ∃ (a : Addr) (ns : List Int), vs = [.ref a] ∧ SqL K H a (ns.map V.int) ∧ ns.length ≤ 63 ∧ ∀ H', Q (.bl true) H'
def isI (d : PyData) : Prop := ∃ n : Int, d = .int n
def isSc (d : PyData) : Prop := ∃ n : Int, d = .int n ∧ 0 < n ∧ n < 2 ^ 248
theorem es_sub {B : Bg} {G : Hp} {σ : L2.St} {ta tb : TE} {S : PyData → Prop} {m : Int} (h : EvS K B ta σ G S) (hs : ∀ d, S d → isI d) (h2 : EvD K B tb σ G (.int m)) : EvS K B (tOp (rI0 fun i j => .int (i - j)) ta tb) σ G isI :=
  es_op h (h2.toS (S := fun d => d = .int m) rfl) fun x y sx sy => by
    obtain ⟨n, rfl⟩ := hs x sx
    subst sy
    exact ⟨_, ⟨_, rfl⟩, rd_I0⟩
theorem isN_I {u : Int} {d : PyData} (h : isN u d) : isI d := by
  obtain ⟨n, e, _⟩ := h
  exact ⟨n, e⟩
theorem go_eq (x y t : Int) : goD x y t 1 = goL x y t := by
  show PyData.tuple [.int (x + 1 * dx t), .int (y + 1 * dy t)] = .tuple [.int (x + dx t), .int (y + dy t)]
  rw [Int.one_mul, Int.one_mul]
theorem lead_eq {t : Int} (x y : Int) (z : okT t) : leadD x y t = nameL x y t := by
  unfold leadD nameL na nb nc
  by_cases c : t < 4
  · simp only [if_pos c]
  · simp only [if_neg c]
    have z2 := z.1
    have z3 := z.2
    have e : (t + 4) % 8 = t - 4 := by omega
    rw [e, Int.one_mul, Int.one_mul]
    rfl
theorem said_ok {t : Int} (x y : Int) (z : okT t) : (List.range 3).filterMap (fun j : Nat => (fun j : Int => some (saidD j x y t)) (j : Int)) = [.int ((t + 4) % 8), goL x y t, nameL x y t] := by
  show [saidD 0 x y t, saidD 1 x y t, saidD 2 x y t] = _
  have e0 : saidD 0 x y t = .int ((t + 4) % 8) := by
    unfold saidD askD
    rw [if_pos z, if_pos rfl]
  have e1 : saidD 1 x y t = goL x y t := by
    unfold saidD askD
    rw [if_pos z, if_neg (by decide), if_pos rfl, go_eq]
  have e2 : saidD 2 x y t = nameL x y t := by
    unfold saidD askD
    rw [if_pos z, if_neg (by decide), if_neg (by decide), lead_eq x y z]
  rw [e0, e1, e2]
theorem said_no {t : Int} (x y : Int) (z : ¬ okT t) : (List.range 3).filterMap (fun j : Nat => (fun j : Int => some (saidD j x y t)) (j : Int)) = [.str "bad", .str "bad", .str "bad"] := by
  show [saidD 0 x y t, saidD 1 x y t, saidD 2 x y t] = _
  unfold saidD
  simp only [if_neg z]
theorem nc_ok {t : Int} (z : okT t) : okT (nc t) := by
  have z2 := z.1
  have z3 := z.2
  unfold nc
  by_cases c : t < 4
  · rw [if_pos c]
    exact z
  · rw [if_neg c]
    exact ⟨by omega, by omega⟩
theorem fn_law (T : Txt K mg) {fd : FuncData} (F : FunD K "law" "law" (defArgs s_law) (defBody s_law) (defScope s_law) [] [] (He.ga K "law") fd) (G__law_bag : Good P w K mg base (L2.CX P w) 1 "_law_bag" ["_law_script"] [] (sp__law_bag K)) (G__law_pull : Good P w K mg base (L2.CX P w) 1 "_law_pull" ["_law_bag_here", "_law_upto"] [] (sp__law_pull K)) (G__law_go : Good P w K mg base (L2.CX P w) 1 "_law_go" ["_law_here", "_law_low", "_law_pick"] [] (sp__law_go K)) (G__law_name : Good P w K mg base (L2.CX P w) 2 "_law_name" ["_law_here", "_law_low", "_law_pick"] [] (sp__law_name K)) (G__law_same : Good P w K mg base (L2.CX P w) 8 "_law_same" ["_law_found", "_law_due"] [] (sp__law_same K)) (G__law_said : Good P w K mg base (L2.CX P w) 5 "_law_said" ["_law_which", "_law_across", "_law_down", "_law_pick"] [] (sp__law_said K)) (G_step_many : GoodK P w K mg base (L2.CX P w) 2 "step" ["x", "y", "turn", "many"] 3 ["many"] (fun vs zs => vs ++ zs) (sp_step K)) (G_ends : Good P w K mg base (L2.CX P w) 3 "ends" ["name"] [] (sp_ends K)) (G__law_tips : Good P w K mg base (L2.CX P w) 2 "_law_tips" ["_law_name_here"] [] (sp__law_tips K)) (G_step_turn_y_x : GoodK P w K mg base (L2.CX P w) 2 "step" ["x", "y", "turn", "many"] 0 ["turn", "y", "x"] (fun vs zs => zs.reverse ++ [.int 1]) (sp_step K)) : FnOk P w K mg base CX0 9 (He.ga K "law") fd ["_law_script"] (spLaw K) := by
  refine F.ok sc_law (fun vs H Q E h => ?_) (fun cdv A outer s H vs Q E hr h => ?_)
  · obtain ⟨a, ns, rfl, _⟩ := h
    rfl
  · obtain ⟨a, ns, rfl, hS, hl, q⟩ := h
    refine ⟨_, PSs.nox (pss_cons (ps_set (i := 1) sc_law.nd rfl (Or.inl rfl) (pe_own G__law_bag (hr.mono (by decide)) (by rfl) passL (pa_cons (pv 0) pa_nil))) (pss_cons (ps_for PassesOwn.never rfl (pi_range1 (by rfl) T.f_range (pa_cons pe_int pa_nil)) (pg_name (i := 2) sc_law.nd rfl (Or.inl rfl)) (pss_cons (ps_set (i := 3) sc_law.nd rfl (Or.inl rfl) (pe_ix (r := rIxL K) ix_list (pe_lst (pa_cons pe_int (pa_cons pe_int (pa_cons (pe_op op_fdivW (pe_op op_pow pe_int pe_int) pe_int) pa_nil)))) (pe_own G__law_pull (hr.mono (by decide)) (by rfl) passL (pa_cons (pv 1) (pa_cons pe_int pa_nil))) (fun _ _ => rfl))) (pss_cons (ps_set (i := 4) sc_law.nd rfl (Or.inr rfl) (pe_op op_sub (pe_own G__law_pull (hr.mono (by decide)) (by rfl) passL (pa_cons (pv 1) (pa_cons (pe_op op_mul pe_int (pv 3)) pa_nil))) (pv 3))) (pss_cons (ps_set (i := 5) sc_law.nd rfl (Or.inr rfl) (pe_op op_sub (pe_own G__law_pull (hr.mono (by decide)) (by rfl) passL (pa_cons (pv 1) (pa_cons (pe_op op_mul pe_int (pv 3)) pa_nil))) (pv 3))) (pss_cons (ps_set (i := 6) sc_law.nd rfl (Or.inr rfl) (pe_ix (r := rIxL K) ix_list (pe_lst (pa_cons (pe_own G__law_pull (hr.mono (by decide)) (by rfl) passL (pa_cons (pv 1) (pa_cons pe_int pa_nil))) (pa_cons (pe_op op_sub pe_int pe_int) (pa_cons pe_int (pa_cons pe_int (pa_cons (pe_op op_pow pe_int pe_int) pa_nil)))))) (pe_own G__law_pull (hr.mono (by decide)) (by rfl) passL (pa_cons (pv 1) (pa_cons pe_int pa_nil))) (fun _ _ => rfl))) (pss_cons (ps_set (i := 7) sc_law.nd rfl (Or.inl rfl) (pe_op op_rep (pe_lst (pa_cons pe_str pa_nil)) pe_int)) (pss_cons (ps_if (pt_chain op_le op_le pe_int (pv 6) pe_int) (pss_one (ps_set (i := 7) sc_law.nd rfl (Or.inl rfl) (pe_lst (pa_cons (pe_op op_mod (pe_op op_add (pv 6) pe_int) pe_int) (pa_cons (pe_own G__law_go (hr.mono (by decide)) (by rfl) passL (pa_cons (pv 4) (pa_cons (pv 5) (pa_cons (pv 6) pa_nil)))) (pa_cons (pe_own G__law_name (hr.mono (by decide)) (by rfl) passL (pa_cons (pv 4) (pa_cons (pv 5) (pa_cons (pv 6) pa_nil)))) pa_nil)))))) pss_nil) (pss_cons (ps_if (pt_not (pt_val (pe_own G__law_same (hr.mono (by decide)) (by rfl) passL (pa_cons (pe_lc (own := [("_law_which", 12)]) (g := gName 12) rfl sc_law.nd (pi_range1 (by rfl) T.f_range (pa_cons pe_int pa_nil)) (blkOk_by (own := [("_law_which", 12)]) (N := N_law) (sc := defScope s_law) (by decide +kernel)) (fun _ _ _ _ _ => (pg_name (i := 12) sc_law.nd rfl (Or.inl rfl))) (fun _ _ _ _ _ => pts_nil) (fun _ _ _ _ _ => (pe_own G__law_said (hr.mono (by decide)) (by rfl) passL (pa_cons (pv 12) (pa_cons (pv 4) (pa_cons (pv 5) (pa_cons (pv 6) pa_nil))))))) (pa_cons (pv 7) pa_nil))))) (pss_one (ps_ret pe_bl)) pss_nil) (pss_one (ps_if (pt_cmpR op_ne (pe_ix (r := rIxL K) ix_list (pv 7) pe_int (fun _ _ => rfl)) pe_str (nomark _)) (pss_cons (ps_set (i := 8) sc_law.nd rfl (Or.inl rfl) (pe_op op_sub (pe_own G__law_pull (hr.mono (by decide)) (by rfl) passL (pa_cons (pv 1) (pa_cons (pe_op op_mul pe_int (pv 3)) pa_nil))) (pv 3))) (pss_cons (ps_asg (pe_own G__law_go (hr.mono (by decide)) (by rfl) passL (pa_cons pe_int (pa_cons pe_int (pa_cons (pv 6) pa_nil)))) (pg_tup rfl (pgs_cons (by exact (pg_name (i := 9) sc_law.nd rfl (Or.inl rfl))) (pgs_cons (by exact (pg_name (i := 10) sc_law.nd rfl (Or.inl rfl))) pgs_nil)))) (pss_cons (ps_set (i := 11) sc_law.nd rfl (Or.inl rfl) (pe_tup (pa_cons (pe_op op_add (pv 4) (pe_op op_mul (pv 8) (pv 9))) (pa_cons (pe_op op_add (pv 5) (pe_op op_mul (pv 8) (pv 10))) pa_nil)))) (pss_cons (ps_if (pt_not (pt_val (pe_own G__law_same (hr.mono (by decide)) (by rfl) passL (pa_cons (pe_ownK G_step_many (hr.mono (by decide)) (by rfl) passL (pa_cons (pv 4) (pa_cons (pv 5) (pa_cons (pv 6) pa_nil))) (pk_cons (pv 8) pk_nil)) (pa_cons (pv 11) pa_nil))))) (pss_one (ps_ret pe_bl)) pss_nil) (pss_cons (ps_if (pt_not (pt_val (pe_own G__law_same (hr.mono (by decide)) (by rfl) passL (pa_cons (pe_own G_ends (hr.mono (by decide)) (by rfl) passL (pa_cons (pe_ix (r := rIxL K) ix_list (pv 7) pe_int (fun _ _ => rfl)) pa_nil)) (pa_cons (pe_own G__law_tips (hr.mono (by decide)) (by rfl) passL (pa_cons (pe_ix (r := rIxL K) ix_list (pv 7) pe_int (fun _ _ => rfl)) pa_nil)) pa_nil))))) (pss_one (ps_ret pe_bl)) pss_nil) (pss_one (ps_if (pt_not (pt_val (pe_own G__law_same (hr.mono (by decide)) (by rfl) passL (pa_cons (pe_ownK0 G_step_turn_y_x (hr.mono (by decide)) (by rfl) passL  (pk_cons (pv 6) (pk_cons (pv 5) (pk_cons (pv 4) pk_nil)))) (pa_cons (pe_ix (r := rIxL K) ix_list (pv 7) pe_int (fun _ _ => rfl)) pa_nil))))) (pss_one (ps_ret pe_bl)) pss_nil))))))) pss_nil)))))))))) (pss_one (ps_ret pe_bl)))), ?_⟩
    refine ⟨.ref a, rfl, a, ns, rfl, hS, hl, fun b c G1 H1 e1 => ?_⟩
    refine sq_forR (K := K) (B := some (b, c)) (n := 5) (Pv := fun _ σ' _ _ => ∃ y2 y3 y4 y5 y6 y7 y8 y9 y10 y11 y12, σ' = [some (.ref a), some (.ref b), y2, y3, y4, y5, y6, y7, y8, y9, y10, y11, y12]) (ea_cons ed_int ea_nil) (by decide) e1 (fun _ _ _ => ⟨_, _, _, _, _, _, _, _, _, _, _, rfl⟩) (fun G2 H2 X2 j σ3 G3 H3 hj X3 p => ?_) (fun σ3 G3 H3 X3 p => q _)
    obtain ⟨y2, y3, y4, y5, y6, y7, y8, y9, y10, y11, y12, rfl⟩ := p
    -- scale
    refine sq_setS (S := isSc) (es_op ((ed_lst (ea_cons ed_int (ea_cons ed_int (ea_cons (ed_op (ed_op ed_int ed_int (rd_I (C := CPow) ⟨by decide, by decide, by decide⟩)) ed_int (rd_I (C := CDivW) ⟨by decide, by decide +kernel⟩)) ea_nil))) (Nat.le_of_ble_eq_true rfl)).toS (S := fun d => d = _) rfl) (es_pull rfl ed_int (by decide) (by decide)) ?_) X3.ok (fun d v G4 H4 sd X4 dv => ?_)
    · rintro x y rfl ⟨n, rfl, h0, h1⟩
      have : n = 0 ∨ n = 1 ∨ n = 2 := by omega
      rcases this with rfl | rfl | rfl
      · exact ⟨_, ⟨3, rfl, by decide, by decide⟩, rd_ixL rfl⟩
      · exact ⟨_, ⟨9, rfl, by decide, by decide⟩, rd_ixL rfl⟩
      · exact ⟨_, ⟨_, rfl, by decide +kernel, by decide +kernel⟩, rd_ixL rfl⟩
    obtain ⟨s, rfl, s0, s1⟩ := sd
    obtain rfl := dp_int dv
    -- across, down
    refine sq_setS (S := isI) (es_sub (es_pull rfl (ed_op ed_int (ed_var rfl (.int s)) (rd_I (.inl (by decide)))) (by omega) (by omega)) (fun d h => isN_I h) (ed_var rfl (.int s))) X4.ok (fun d v G5 H5 sd X5 dv => ?_)
    obtain ⟨x, rfl⟩ := sd
    obtain rfl := dp_int dv
    refine sq_setS (S := isI) (es_sub (es_pull rfl (ed_op ed_int (ed_var rfl (.int s)) (rd_I (.inl (by decide)))) (by omega) (by omega)) (fun d h => isN_I h) (ed_var rfl (.int s))) X5.ok (fun d v G6 H6 sd X6 dv => ?_)
    obtain ⟨y, rfl⟩ := sd
    obtain rfl := dp_int dv
    -- pick
    refine sq_setS (S := isI) (es_op (es_lst (S := fun ds => ∃ n : Int, ds = [.int n, .int (0 - 1), .int 8, .int 7, .int (10 ^ 20)]) (eas_cons (es_pull (u := 8) rfl ed_int (by decide) (by decide)) (fun d hd => eas_of (ea_cons (ed_op ed_int ed_int rd_I0) (ea_cons ed_int (ea_cons ed_int (ea_cons (ed_op ed_int ed_int (rd_I (C := CPow) ⟨by decide, by decide, by decide⟩)) ea_nil)))) (by
      obtain ⟨n, rfl, _⟩ := hd
      exact ⟨n, rfl⟩))) (fun ds hds => by
      obtain ⟨n, rfl⟩ := hds
      exact Nat.le_of_ble_eq_true rfl)) (es_pull (u := 5) rfl ed_int (by decide) (by decide)) ?_) X6.ok (fun d v G7 H7 sd X7 dv => ?_)
    · rintro x y ⟨ds, rfl, n, rfl⟩ ⟨k, rfl, h0, h1⟩
      have : k = 0 ∨ k = 1 ∨ k = 2 ∨ k = 3 ∨ k = 4 := by omega
      rcases this with rfl | rfl | rfl | rfl | rfl
      · exact ⟨_, ⟨_, rfl⟩, rd_ixL rfl⟩
      · exact ⟨_, ⟨_, rfl⟩, rd_ixL rfl⟩
      · exact ⟨_, ⟨_, rfl⟩, rd_ixL rfl⟩
      · exact ⟨_, ⟨_, rfl⟩, rd_ixL rfl⟩
      · exact ⟨_, ⟨_, rfl⟩, rd_ixL rfl⟩
    obtain ⟨t, rfl⟩ := sd
    obtain rfl := dp_int dv
    -- due
    refine sq_set (EvF.ed (rd_rep (n := 3) (by decide) (by decide) (ef_lst (ea_cons ed_str ea_nil) (Nat.le_of_ble_eq_true rfl)) ed_int)) X7.ok (fun v8 G8 H8 X8 d8 => ?_)
    have Y8 := ((X4.trans X5).trans (X6.trans X7)).trans X8
    by_cases z : okT t
    · -- a turn
      refine sq_if (b := true) (eb_is (eb_test (ed_chain ed_int (ed_var rfl (.int t)) (fun _ => ed_int) rd_B0 (fun _ => rd_B0))) (by rw [decide_eq_true z.1, decide_eq_true z.2]; rfl)) X8.ok (fun _ G9 H9 X9 => ?_) (fun c _ _ _ => by cases c)
      refine st_set (ed_lst (ea_cons (ed_op (ed_op (ed_var rfl (.int t)) ed_int rd_I0) ed_int (rd_I (by decide))) (ea_cons (ed_go (ea_cons (ed_var rfl (.int x)) (ea_cons (ed_var rfl (.int y)) (ea_cons (ed_var rfl (.int t)) ea_nil))) z) (ea_cons (ed_name (ea_cons (ed_var rfl (.int x)) (ea_cons (ed_var rfl (.int y)) (ea_cons (ed_var rfl (.int t)) ea_nil))) z) ea_nil))) (Nat.le_of_ble_eq_true rfl)) X9.ok (fun v10 G10 H10 X10 d10 => ?_)
      have dueF : fit 6 (.list [.int ((t + 4) % 8), goL x y t, nameL x y t]) := fit_lst (Nat.le_of_ble_eq_true rfl) (fa_cons fit_int (fa_cons (fit_tup (Nat.le_of_ble_eq_true rfl) (fa_cons fit_int (fa_cons fit_int fa_nil))) (fa_cons (fit_tup (Nat.le_of_ble_eq_true rfl) (fa_cons fit_int (fa_cons fit_int (fa_cons fit_int fa_nil)))) fa_nil)))
      refine sq_if (b := false) (eb_is (eb_not (eb_B (ed_same (ea_cons (EvF.ed (ed_isF (ef_lcR (n := 3) (f := fun j => some (saidD j x y t)) (ea_cons ed_int ea_nil) (by decide) (fun _ _ => eb_yes) (fun j d hj hd => ?_)) (said_ok x y z))) (ea_cons (ed_var rfl d10) ea_nil)) dueF))) rfl) X10.ok (fun c _ _ _ => by cases c) (fun _ G11 H11 X11 => ?_)
      · obtain rfl := Option.some.inj hd
        exact ed_said (ea_cons (ed_var rfl (.int _)) (ea_cons (ed_var rfl (.int x)) (ea_cons (ed_var rfl (.int y)) (ea_cons (ed_var rfl (.int t)) ea_nil))))
      replace d10 := dp_mono X11.gg d10
      refine st_if (b := true) (eb_is (eb_test (ed_op (ed_op (ed_var rfl d10) ed_int (rd_ixL rfl)) ed_str (rd_ne rfl))) rfl) X11.ok (fun _ G12 H12 X12 => ?_) (fun c _ _ _ => by cases c)
      replace d10 := dp_mono X12.gg d10
      -- times
      refine sq_setS (S := isI) (es_sub (es_pull rfl (ed_op ed_int (ed_var rfl (.int s)) (rd_I (.inl (by decide)))) (by omega) (by omega)) (fun d h => isN_I h) (ed_var rfl (.int s))) X12.ok (fun d v G13 H13 sd X13 dv => ?_)
      obtain ⟨m, rfl⟩ := sd
      obtain rfl := dp_int dv
      replace d10 := dp_mono X13.gg d10
      refine sq_unpack (ed_go (ea_cons ed_int (ea_cons ed_int (ea_cons (ed_var rfl (.int t)) ea_nil))) z) X13.ok rfl (fun vs G14 H14 X14 dv => ?_)
      obtain rfl := dpAll_intsV (bs := [0 + dxL t, 0 + dyL t]) dv
      refine ⟨_, _, rfl, _, _, rfl, rfl, ?_⟩
      replace d10 := dp_mono X14.gg d10
      have sx := dx_small z
      have sy := dy_small z
      have ex : dxL t = dx t := rfl
      have ey : dyL t = dy t := rfl
      refine sq_set (ed_tup (ea_cons (ed_op (ed_var rfl (.int x)) (ed_op (ed_var rfl (.int m)) (ed_var rfl (.int _)) (rd_I (.inr (by rw [ex]; omega)))) rd_I0) (ea_cons (ed_op (ed_var rfl (.int y)) (ed_op (ed_var rfl (.int m)) (ed_var rfl (.int _)) (rd_I (.inr (by rw [ey]; omega)))) rd_I0) ea_nil)) (Nat.le_of_ble_eq_true rfl)) X14.ok (fun v15 G15 H15 X15 d15 => ?_)
      replace d10 := dp_mono X15.gg d10
      have e15 : (PyData.tuple [.int (x + m * (0 + dxL t)), .int (y + m * (0 + dyL t))]) = goD x y t m := by
        rw [Int.zero_add, Int.zero_add]
        rfl
      rw [e15] at d15
      have goF : fit 6 (goD x y t m) := fit_tup (Nat.le_of_ble_eq_true rfl) (fa_cons fit_int (fa_cons fit_int fa_nil))
      refine sq_if (b := false) (eb_is (eb_not (eb_B (ed_same (ea_cons (ed_callN (d := goD x y t m) (ea_cons (ed_var rfl (.int x)) (ea_cons (ed_var rfl (.int y)) (ea_cons (ed_var rfl (.int t)) ea_nil))) (ea_cons (ed_var rfl (.int m)) ea_nil) rfl rfl (fun vs zs G2 H2 _ e2 dv dz Q q => ?_)) (ea_cons (ed_var rfl d15) ea_nil)) goF))) rfl) X15.ok (fun c _ _ _ => by cases c) (fun _ G16 H16 X16 => ?_)
      · exact ⟨_, G2, x, y, t, m, e2, by rw [dpAll_intsV (bs := [x, y, t]) dv, dpAll_intsV (bs := [m]) dz]; rfl, fun _ => q, fun n => absurd z n⟩
      replace d10 := dp_mono X16.gg d10
      have tiE : endsD (na x t) (nb y t) (nc t) = tipsL (na x t) (nb y t) (nc t) := by
        unfold endsD tipsL
        rw [go_eq]
      have tiF : fit 6 (tipsL (na x t) (nb y t) (nc t)) := fit_tup (Nat.le_of_ble_eq_true rfl) (fa_cons (fit_tup (Nat.le_of_ble_eq_true rfl) (fa_cons fit_int (fa_cons fit_int fa_nil))) (fa_cons (fit_tup (Nat.le_of_ble_eq_true rfl) (fa_cons fit_int (fa_cons fit_int fa_nil))) fa_nil))
      refine sq_ifN (b := false) (eb_is (eb_not (eb_B (ed_same (ea_cons (ed_is (ed_ends (ea_cons (ed_op (ed_var rfl d10) ed_int (rd_ixL rfl)) ea_nil) (nc_ok z)) tiE) (ea_cons (ed_tips (ea_cons (ed_op (ed_var rfl d10) ed_int (rd_ixL rfl)) ea_nil) (nc_ok z)) ea_nil)) tiF))) rfl) X16.ok (fun c _ _ _ => by cases c) (fun _ G17 H17 X17 => ?_)
      replace d10 := dp_mono X17.gg d10
      have goG : fit 6 (goL x y t) := fit_tup (Nat.le_of_ble_eq_true rfl) (fa_cons fit_int (fa_cons fit_int fa_nil))
      refine st_if (b := false) (eb_is (eb_not (eb_B (ed_same (ea_cons (ed_is (ed_callN (d := goD x y t 1) ea_nil (ea_cons (ed_var rfl (.int t)) (ea_cons (ed_var rfl (.int y)) (ea_cons (ed_var rfl (.int x)) ea_nil))) rfl rfl (fun vs zs G2 H2 _ e2 dv dz Q q => ?_)) (go_eq x y t)) (ea_cons (ed_op (ed_var rfl d10) ed_int (rd_ixL (i := 1) rfl)) ea_nil)) goG))) rfl) X17.ok (fun c _ _ _ => by cases c) (fun _ G18 H18 X18 => ?_)
      · exact ⟨_, G2, x, y, t, 1, e2, by rw [dpAll_intsV (bs := [t, y, x]) dz]; rfl, fun _ => q, fun n => absurd z n⟩
      have Y := ((((X9.trans X10).trans (X11.trans X12)).trans (X13.trans X14)).trans (X15.trans X16)).trans (X17.trans X18)
      exact ⟨G18, X3.trans (Y8.trans Y), _, _, _, _, _, _, _, _, _, _, _, rfl⟩
    · -- no turn
      refine sq_if (b := false) (eb_is (eb_test (ed_chain (k1 := decide (0 ≤ t)) (k2 := decide (t ≤ 7)) ed_int (ed_var rfl (.int t)) (fun _ => ed_int) rd_B0 (fun _ => rd_B0))) ?_) X8.ok (fun c _ _ _ => by cases c) (fun _ G9 H9 X9 => ?_)
      · cases h1 : decide (0 ≤ t) with
        | false => rfl
        | true =>
          cases h2 : decide (t ≤ 7) with
          | false => rfl
          | true => exact absurd ⟨of_decide_eq_true h1, of_decide_eq_true h2⟩ z
      replace d8 := dp_mono X9.gg d8
      have dueF : fit 6 (.list [.str "bad", .str "bad", .str "bad"]) := fit_lst (Nat.le_of_ble_eq_true rfl) (fa_cons fit_str (fa_cons fit_str (fa_cons fit_str fa_nil)))
      refine sq_if (b := false) (eb_is (eb_not (eb_B (ed_same (ea_cons (EvF.ed (ed_isF (ef_lcR (n := 3) (f := fun j => some (saidD j x y t)) (ea_cons ed_int ea_nil) (by decide) (fun _ _ => eb_yes) (fun j d hj hd => ?_)) (said_no x y z))) (ea_cons (ed_var rfl d8) ea_nil)) dueF))) rfl) X9.ok (fun c _ _ _ => by cases c) (fun _ G11 H11 X11 => ?_)
      · obtain rfl := Option.some.inj hd
        exact ed_said (ea_cons (ed_var rfl (.int _)) (ea_cons (ed_var rfl (.int x)) (ea_cons (ed_var rfl (.int y)) (ea_cons (ed_var rfl (.int t)) ea_nil))))
      replace d8 := dp_mono X11.gg d8
      refine st_if (b := false) (eb_is (eb_test (ed_op (ed_op (ed_var rfl d8) ed_int (rd_ixL rfl)) ed_str (rd_ne rfl))) rfl) X11.ok (fun c _ _ _ => by cases c) (fun _ G12 H12 X12 => ?_)
      exact ⟨G12, X3.trans (Y8.trans ((X9.trans X11).trans X12)), _, _, _, _, _, _, _, _, _, _, _, rfl⟩
theorem law_ok (T : Txt K mg) {fa : Addr} (hfa : mg "law" = some (.ref fa)) : ∃ fd : FuncData, (∀ (s : Shared) (v : Value), BindsTo s fd ⟨[v], []⟩ [("_law_script", v)]) ∧ ∀ base : Heap, K.In base → base.Ns mainGlobals mg → FnOk P w K mg base CX0 9 fa fd ["_law_script"] (spLaw K) := by
  obtain ⟨fd, F⟩ := T.c.def_ 14 (d := d_law) rfl
  have e := hfa.symm.trans T.g_law
  cases e
  have b := FunD.bindsA (ps := ["_law_script"]) F fun _ _ _ _ _ _ us hl => match us, hl with | [_], _ => rfl
  refine ⟨fd, fun s v => b s [v] rfl, fun base _ _ => ?_⟩
  have G_check_turn := ok_check_turn (P := P) (w := w) (base := base) T 
  have G_back := ok_back (P := P) (w := w) (base := base) T G_check_turn
  have G_step_d1 := ok_step_d1 (P := P) (w := w) (base := base) T G_check_turn
  have G_step_many := ok_step_many (P := P) (w := w) (base := base) T G_check_turn
  have G_step_turn_y_x := ok_step_turn_y_x (P := P) (w := w) (base := base) T G_check_turn
  have G_lead := ok_lead (P := P) (w := w) (base := base) T G_check_turn G_step_d1 G_back
  have G_ends := ok_ends (P := P) (w := w) (base := base) T G_step_d1
  have G__law_bag := ok__law_bag (P := P) (w := w) (base := base) T 
  have G__law_pull := ok__law_pull (P := P) (w := w) (base := base) T 
  have G__law_whole := ok__law_whole (P := P) (w := w) (base := base) T 
  have G__law_same := ok__law_same (P := P) (w := w) (base := base) T G__law_whole
  have G__law_go := ok__law_go (P := P) (w := w) (base := base) T 
  have G__law_name := ok__law_name (P := P) (w := w) (base := base) T G__law_go
  have G__law_tips := ok__law_tips (P := P) (w := w) (base := base) T G__law_go
  have G__law_asked := ok__law_asked (P := P) (w := w) (base := base) T G_back G_step_d1 G_lead
  have G__law_said := ok__law_said (P := P) (w := w) (base := base) T G__law_asked
  exact fn_law T F G__law_bag G__law_pull G__law_go G__law_name G__law_same G__law_said G_step_many G_ends G__law_tips G_step_turn_y_x
end
end K01
set_option maxHeartbeats 0
open PySem PySem.W PySem.Calls PyProof.Rows
theorem PySem.Challenge.cw_leadlight_k01_turns_and_steps_holds : PySem.Challenge.rw_leadlight_k01_turns_and_steps.Holds := by
  w_on; o_law
  refine HandSHeadRun.head_any (r := OpenLaw.row PySem.Challenge.rw_leadlight_k01_turns_and_steps) (q := view (OpenLaw.row PySem.Challenge.rw_leadlight_k01_turns_and_steps).prog [21]) (H := K01.hk) (ob := K01.ob) (M := 3000) (loose := K01.loose) (d := HandSHeadRun.topDef (OpenLaw.row PySem.Challenge.rw_leadlight_k01_turns_and_steps).prog 21) (kwd := []) K01.ob_eq
    (by kernel_rfl) (fun s => by kernel_rfl) K01.run (by kernel_rfl) (by kernel_rfl) (by kernel_rfl) (by rfl) (by first | assumption | decide +kernel) (by decide +kernel) ⟨rfl, rfl, rfl, rfl, rfl, by decide +kernel⟩ ?hw ?hc
  case hw => w_witness2
  case hc =>
    refine L2.walk_ofE (l := PySem.Challenge.rw_leadlight_k01_turns_and_steps) (n := 63) (k := 9) (x := "_law_script") (CX := L2.CX0) rfl (by decide) (by kernel_rfl) ⟨rfl, by decide, by decide⟩ ?F (fun _ _ _ _ z => z)
    intro w mg fa h Y G hmg0
    obtain ⟨K, KX, c⟩ := Y
    have hmg : mg ("law" : PySem.Str) = some (.ref fa) := by
      have e : (HandSHeadRun.topDef (OpenLaw.row PySem.Challenge.rw_leadlight_k01_turns_and_steps).prog 21).name = ("law" : PySem.Str) := by kernel_rfl
      rw [← e]
      exact hmg0
    obtain ⟨fd, hb, hF⟩ := K01.law_ok (P := (PySem.Challenge.rw_leadlight_k01_turns_and_steps).prog) (w := w) (K01.Txt.of KX G c.t.d c.more) hmg
    exact ⟨K, fd, K01.spLaw K, KX, hb, fun H a ns hl _ hS => ⟨a, ns, rfl, hS, hl, fun _ => rfl⟩, hF⟩
