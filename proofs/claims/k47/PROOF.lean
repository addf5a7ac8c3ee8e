import PyProof.Rows.All
import Wide.All
import OpenK.AllK
import Wide.FinOn
import HandS.ForMost
import HandS.ForExc
import HandS.IsInst
import HandS.ExcIs
import HandS.Wide
import HandS.Defaults
import HandS.CallSlots
import HandS.MakeKwOnly
import HandS.Head0
import HandS.Head1
import HandS.Head2
import HandS.HeadEnd
import HandS.HeadHook1
import HandS.HeadHook2
import HandS.HeadHook3
import HandS.HeadHook4
import HandS.Evl
import HandS.MakeKw
import HandS.Sort
import HandS.SortOrd
import HandS.SortRule
import HandS.SortInts
import HandS.NamedTupSort
import HandS.Deep
import HandS.Set
import HandS.Strs
import HandS.SetFor
import HandS.Conv
import HandS.TupMul
import HandS.Dict
import HandS.TupSets
import PyProof.WalksMore
import PyProof.FactsAll.subtypes_4
import HandS.TupAny
import KE.GoesEnum
import HandS.Walk
import HandS.Zip
import HandS.DictComp
import HandS.Style
import KE.KTryMore
import HandS.Exc
import HandS.Text
import HandS.StrMore
import HandS.RaiseMore
import HandS.Star
import HandS.WrittenGet
import KE.KUnpackStar
import HandS.ExcInit
import HandS.ExcField
import PySem.Challenge.RW_leadlight_k47_lines_read_or_refused
set_option Elab.async false
set_option linter.all false
set_option maxRecDepth 100000
set_option maxHeartbeats 4400000
namespace Lw
open PySem.Spec PySem L2 PyProof.Rows
abbrev Fg := PySem.W.Frag
section
variable {α β : Type} {a x : α} {l m : List α}
theorem mem_or (h : x ∈ l ++ m) : x ∈ l ∨ x ∈ m := List.mem_append.mp h
theorem mem_1 (h : x ∈ [a]) : x = a := List.mem_singleton.mp h
theorem mem_c (h : x ∈ a :: l) : x = a ∨ x ∈ l := List.mem_cons.mp h
theorem len_snoc : (l ++ [a]).length = l.length + 1 := List.length_append
theorem len_mr {n : Nat} {f : Nat → β} : ((List.range n).map f).length = n := by simp
theorem getD_q {i : Nat} : l.getD i a = (l[i]?).getD a := List.getD_eq_getElem?_getD
end
theorem ifF {p q : Prop} : (if false = true then p else q) = q := if_neg Bool.false_ne_true
/-! ### heaps: G the part that stays, H the whole -/
-- one heap within another: the library's
open Evl (Ex Ex.refl Ex.trans Ex.new ex_rd ex_l ex_t)
theorem _root_.Evl.Ex.off {H H' : Hp} {p : Addr} (e : Ex H H') (h : H' p = none) : H p = none := by
  cases h1 : H p with
  | none => rfl
  | some o =>
    rw [e p o h1] at h
    cases h

def join (G G2 : Hp) : Hp := fun a => match G a with
  | some o => some o
  | none => G2 a
theorem join_l {G G2 : Hp} : Ex G (join G G2) := fun a o h => by
  show (match G a with
    | some o => some o
    | none => G2 a) = some o
  rw [h]
theorem join_r {G G2 H : Hp} (e : Ex G H) (e2 : Ex G2 H) : Ex G2 (join G G2) := fun a o h => by
  show (match G a with
    | some o => some o
    | none => G2 a) = some o
  cases q : G a with
  | none => exact h
  | some u =>
    have z := e a u q
    rw [e2 a o h] at z
    exact z.symm
theorem join_of {G G2 H : Hp} (e : Ex G H) (e2 : Ex G2 H) : Ex (join G G2) H := fun a o h => by
  have h' : (match G a with
    | some o => some o
    | none => G2 a) = some o := h
  cases q : G a with
  | none =>
    rw [q] at h'
    exact e2 a o h'
  | some u =>
    rw [q] at h'
    exact e a o (q.trans h')
theorem join_none {G G2 : Hp} {a : Addr} (h : G a = none) (h2 : G2 a = none) : join G G2 a = none := by
  show (match G a with
    | some o => some o
    | none => G2 a) = none
  rw [h]
  exact h2
/-! ### the heap: G the part that stays, b the law's bag, H the whole -/
/-- B: where the law's bag of numbers stands, and the list of its cells, which stays -/
abbrev Bg := Option (Addr × Addr)
def Cel (K : Fg) (B : Bg) (G : Hp) : Prop := ∀ b c, B = some (b, c) → ∃ ns : List Int, SqL K G c (ns.map V.int)
def Bag (B : Bg) (G H : Hp) : Prop := ∀ b c, B = some (b, c) → (G b = none ∧ c ≠ b) ∧ ∃ i r m : Int, H b = some (.lst [.ref c, .int i, .int r, .int m]) ∧ 0 ≤ i
def isB (B : Bg) (a : Addr) : Prop := ∃ c, B = some (a, c)
structure Ok (K : Fg) (B : Bg) (G H : Hp) : Prop where
  e : Ex G H
  c : Cel K B G
  b : Bag B G H
structure Ext (K : Fg) (B : Bg) (G H G2 H2 : Hp) : Prop where
  gg : Ex G G2
  hh : ∀ a o, ¬ isB B a → H a = some o → H2 a = some o
  fr : ∀ a o, H a = some o → G a = none → G2 a = none
  ok : Ok K B G2 H2
section
variable {K : Fg} {B : Bg} {G G' H G1 H1 G2 H2 : Hp} {p : Addr} {o : HO}
theorem Cel.mono (e : Ex G G2) (h : Cel K B G) : Cel K B G2 := fun b c q => by
  obtain ⟨ns, z⟩ := h b c q
  exact ⟨ns, ex_l e z⟩
theorem Bag.ne (h : Bag B G H) (hp : H p = none) : ¬ isB B p := fun ⟨c, q⟩ => by
  obtain ⟨_, i, r, m, z, _⟩ := h p c q
  rw [hp] at z
  cases z
theorem Bag.keep (h : Bag B G H) (hg : ∀ a, isB B a → G a = none → G2 a = none) (q : ∀ a o, isB B a → H a = some o → H2 a = some o) : Bag B G2 H2 := fun b c z => by
  obtain ⟨g, i, r, m, e, k⟩ := h b c z
  exact ⟨⟨hg b ⟨c, z⟩ g.1, g.2⟩, i, r, m, q b _ ⟨c, z⟩ e, k⟩
theorem Ext.refl (h : Ok K B G H) : Ext K B G H G H := ⟨Ex.refl G, fun _ _ _ h => h, fun _ _ _ h => h, h⟩
theorem Ext.trans (a : Ext K B G H G1 H1) (b : Ext K B G1 H1 G2 H2) : Ext K B G H G2 H2 :=
  ⟨a.gg.trans b.gg, fun x o n h => b.hh x o n (a.hh x o n h), fun x o h g => by
    have g1 := a.fr x o h g
    by_cases c : isB B x
    · obtain ⟨y, q⟩ := c
      exact (b.ok.b x y q).1.1
    · exact b.fr x o (a.hh x o c h) g1, b.ok⟩
theorem ex_upd (e : Ex G H) : Ex (upd G p o) (upd H p o) := fun a u h => by
  by_cases c : a = p
  · subst c
    rw [upd_same] at h ⊢
    exact h
  · rw [upd_ne c] at h ⊢
    exact e a u h
theorem Bag.upd (h : Bag B G H) (hp : ¬ isB B p) : Bag B G (upd H p o) := h.keep (fun _ _ g => g) fun a u z q => by
  rw [upd_ne (show a ≠ p from fun c => hp (by rw [← c]; exact z))]
  exact q
theorem Ok.new (h : Ok K B G H) (hp : H p = none) : Ok K B (upd G p o) (upd H p o) := ⟨ex_upd h.e, h.c.mono (Ex.new (h.e.off hp)), (h.b.upd (h.b.ne hp)).keep (fun a z g => by
  rw [upd_ne (show a ≠ p from fun c => h.b.ne hp (by rw [← c]; exact z))]
  exact g) fun _ _ _ q => q⟩
theorem Ok.loose (h : Ok K B G H) (hp : H p = none) : Ok K B G (upd H p o) := ⟨h.e.trans (Ex.new hp), h.c, h.b.upd (h.b.ne hp)⟩
theorem Ext.new (e : Ok K B G H) (hp : H p = none) : Ext K B G H (upd G p o) (upd H p o) :=
  ⟨Ex.new (e.e.off hp), fun a u _ h => Ex.new hp a u h, fun a u h g => by
    rw [upd_ne (ne_of_none h hp)]
    exact g, e.new hp⟩
/-- a new object that may change later on -/
theorem Ext.loose (e : Ok K B G H) (hp : H p = none) : Ext K B G H G (upd H p o) :=
  ⟨Ex.refl G, fun a u _ h => Ex.new hp a u h, fun _ _ _ g => g, e.loose hp⟩
theorem Ok.less (e : Ex G G') (c : Cel K B G) (h : Ok K B G' H) : Ok K B G H := ⟨e.trans h.e, c, h.b.keep (fun a _ g => e.off g) fun _ _ _ q => q⟩
theorem Ext.wide (e : Ex G G') (h : Ok K B G' H) (x : Ext K B G H G2 H2) : Ext K B G' H (join G' G2) H2 ∧ Ex G2 (join G' G2) := by
  have z : Ex G' H2 := fun a o q => x.hh a o (fun ⟨c, k⟩ => by
    rw [(h.b a c k).1.1] at q
    cases q) (h.e a o q)
  refine ⟨⟨join_l, x.hh, fun a o q g => join_none g (x.fr a o q (e.off g)), ⟨join_of z x.ok.e, h.c.mono join_l, x.ok.b.keep (fun a ⟨c, k⟩ g => ?_) fun _ _ _ q => q⟩⟩, join_r z x.ok.e⟩
  exact join_none (h.b a c k).1.1 g
/-- an object outside of G may change -/
theorem Ok.mut (e : Ok K B G H) (hg : G p = none) (hb : ¬ isB B p) : Ok K B G (upd H p o) := ⟨fun a w h => by
  rw [upd_ne (ne_of_none h hg)]
  exact e.e a w h, e.c, e.b.upd hb⟩
end
/-! ### data -/
mutual
theorem dp_mono {K : Fg} {H H' : Hp} (e : Ex H H') : ∀ {v : V} {d : PyData}, Dp K H v d → Dp K H' v d
  | _, _, .non => .non
  | _, _, .bl b => .bl b
  | _, _, .int i => .int i
  | _, _, .str x => .str x
  | _, _, .lst h a => .lst (ex_l e h) (dpAll_mono e a)
  | _, _, .tup h a => .tup (ex_t e h) (dpAll_mono e a)
theorem dpAll_mono {K : Fg} {H H' : Hp} (e : Ex H H') : ∀ {vs : List V} {ds : List PyData}, DpAll K H vs ds → DpAll K H' vs ds
  | _, _, .nil => .nil
  | _, _, .cons h a => .cons (dp_mono e h) (dpAll_mono e a)
end
section
variable {K : Fg} {H : Hp} {v : V} {vs : List V} {ds : List PyData} {d : PyData}
theorem dp_int {i : Int} (h : Dp K H v (.int i)) : v = .int i := by cases h; rfl
theorem dp_bl {b : Bool} (h : Dp K H v (.bool b)) : v = .bl b := by cases h; rfl
theorem dp_non (h : Dp K H v .none) : v = .non := by cases h; rfl
theorem dp_str {x : Str} (h : Dp K H v (.str x)) : v = .str x := by cases h; rfl
theorem dp_tup (h : Dp K H v (.tuple ds)) : ∃ a xs, v = .ref a ∧ SqT K H a xs ∧ DpAll K H xs ds := by
  cases h with
  | tup h a => exact ⟨_, _, rfl, h, a⟩
theorem dp_lst (h : Dp K H v (.list ds)) : ∃ a xs, v = .ref a ∧ SqL K H a xs ∧ DpAll K H xs ds := by
  cases h with
  | lst h a => exact ⟨_, _, rfl, h, a⟩
theorem dpAll_len : ∀ {vs : List V} {ds : List PyData}, DpAll K H vs ds → vs.length = ds.length
  | _, _, .nil => rfl
  | _, _, .cons _ a => congrArg Nat.succ (dpAll_len a)
theorem dpAll_get : ∀ {vs : List V} {ds : List PyData} {i : Nat} {d : PyData}, DpAll K H vs ds → ds[i]? = some d → ∃ v, vs[i]? = some v ∧ Dp K H v d
  | _, _, 0, _, .cons h _, e => ⟨_, rfl, by cases (Option.some.inj e); exact h⟩
  | _, _, i + 1, d, .cons _ a, e => dpAll_get (i := i) a e
theorem dpAll_at : ∀ {vs : List V} {ds : List PyData} {i : Nat} {v : V}, DpAll K H vs ds → vs[i]? = some v → ∃ d, ds[i]? = some d ∧ Dp K H v d
  | _, _, 0, _, .cons h _, e => ⟨_, rfl, by cases (Option.some.inj e); exact h⟩
  | _, _, i + 1, d, .cons _ a, e => dpAll_at (i := i) a e
theorem dpAll_app : ∀ {vs us : List V} {ds es : List PyData}, DpAll K H vs ds → DpAll K H us es → DpAll K H (vs ++ us) (ds ++ es)
  | _, _, _, _, .nil, h => h
  | _, _, _, _, .cons a b, h => .cons a (dpAll_app b h)
theorem dpAll_ints : ∀ (ns : List Int), DpAll K H (ns.map V.int) (ns.map PyData.int)
  | [] => .nil
  | n :: r => .cons (.int n) (dpAll_ints r)
theorem atI_dp {i : Int} (h : DpAll K H vs ds) (e : atI ds i = some d) : ∃ v, atI vs i = some v ∧ Dp K H v d := by
  unfold atI at e ⊢
  rw [dpAll_len h]
  cases q : ixN ds.length i with
  | none =>
    rw [q] at e
    cases e
  | some j =>
    rw [q] at e
    exact dpAll_get h e
end
/-! ### what evaluates to which data -/
def Ret (K : Fg) (B : Bg) (G H : Hp) (Q : VK) (d : PyData) : Prop := ∀ v G2 H2, Ext K B G H G2 H2 → Dp K G2 v d → Q v H2
def Rai (K : Fg) (B : Bg) (G H : Hp) (E : XK) (C : Addr) : Prop := ∀ G2 H2, Ext K B G H G2 H2 → E (.ref C) none H2
def EvD (K : Fg) (B : Bg) (te : TE) (σ : L2.St) (G : Hp) (d : PyData) : Prop := ∀ H, Ok K B G H → ∀ Q : VK, Ret K B G H Q d → te σ H Q
def EvB (K : Fg) (B : Bg) (tt : TT) (σ : L2.St) (G : Hp) (b : Bool) : Prop := ∀ H, Ok K B G H → ∀ Q : Bool → Hp → Prop, (∀ G2 H2, Ext K B G H G2 H2 → Q b H2) → tt σ H Q
def EvA (K : Fg) (B : Bg) (ta : TA) (σ : L2.St) (G : Hp) (ds : List PyData) : Prop := ∀ H, Ok K B G H → ∀ Q : List V → Hp → Prop, (∀ vs G2 H2, Ext K B G H G2 H2 → DpAll K G2 vs ds → Q vs H2) → ta σ H Q
def EvO (K : Fg) (B : Bg) (to : TO) (σ : L2.St) (G : Hp) (o : Option Int) : Prop := ∀ H, Ok K B G H → ∀ Q : Option Int → Hp → Prop, (∀ G2 H2, Ext K B G H G2 H2 → Q o H2) → to σ H Q
section
variable {K : Fg} {B : Bg} {σ : L2.St} {G G' H : Hp} {te ta tb tc : TE} {tt tu : TT} {tr : TA} {d x y z : PyData} {ds : List PyData} {r r' : R2} {b c : Bool}
theorem EvD.mono (e : Ex G G') (c : Cel K B G) (h : EvD K B te σ G d) : EvD K B te σ G' d := fun H eH Q q =>
  h H (eH.less e c) Q fun v G2 H2 X dv => by
    obtain ⟨X2, e2⟩ := X.wide e eH
    exact q v _ H2 X2 (dp_mono e2 dv)
theorem EvB.mono (e : Ex G G') (c : Cel K B G) (h : EvB K B tt σ G b) : EvB K B tt σ G' b := fun H eH Q q =>
  h H (eH.less e c) Q fun G2 H2 X => q _ H2 (X.wide e eH).1
theorem EvA.mono (e : Ex G G') (c : Cel K B G) (h : EvA K B tr σ G ds) : EvA K B tr σ G' ds := fun H eH Q q =>
  h H (eH.less e c) Q fun v G2 H2 X dv => by
    obtain ⟨X2, e2⟩ := X.wide e eH
    exact q v _ H2 X2 (dpAll_mono e2 dv)
theorem Ret.mono {Q : VK} {G1 H1 : Hp} (X : Ext K B G H G1 H1) (h : Ret K B G H Q d) : Ret K B G1 H1 Q d := fun v G2 H2 X2 dv => h v G2 H2 (X.trans X2) dv
theorem Ret.here {Q : VK} {v : V} (h : Ret K B G H Q d) (e : Ok K B G H) (dv : Dp K G v d) : Q v H := h v G H (Ext.refl e) dv
theorem ed_var {i : Nat} {v : V} (h : σ[i]? = some (some v)) (dv : Dp K G v d) : EvD K B (tVar i) σ G d := fun H e Q q => ⟨v, h, q.here e dv⟩
theorem ed_c {v : V} (dv : Dp K G v d) : EvD K B (tC v) σ G d := fun H e Q q => q.here e dv
theorem ed_int {i : Int} : EvD K B (tC (.int i)) σ G (.int i) := ed_c (.int i)
theorem ed_bl {i : Bool} : EvD K B (tC (.bl i)) σ G (.bool i) := ed_c (.bl i)
theorem ed_non : EvD K B (tC .non) σ G .none := ed_c .non
theorem ed_str {i : Str} : EvD K B (tC (.str i)) σ G (.str i) := ed_c (.str i)
/-- what an operation on values gives -/
def RvD (K : Fg) (B : Bg) (r : R2) (G : Hp) (x y z : PyData) : Prop := ∀ u v G2 H2, Ex G G2 → Ok K B G2 H2 → Dp K G2 u x → Dp K G2 v y → ∀ Q, Ret K B G2 H2 Q z → r u v H2 Q
theorem ed_op (ha : EvD K B ta σ G x) (hb : EvD K B tb σ G y) (hr : RvD K B r G x y z) : EvD K B (tOp r ta tb) σ G z := fun H e Q q =>
  ha H e _ fun u G2 H2 X2 d2 => hb.mono X2.gg e.c H2 X2.ok _ fun v G3 H3 X3 d3 =>
    hr u v G3 H3 (X2.gg.trans X3.gg) X3.ok (dp_mono X3.gg d2) d3 Q (q.mono (X2.trans X3))
theorem ed_un {r : V → Hp → VK → Prop} (ha : EvD K B ta σ G x) (hr : ∀ u G2 H2, Ex G G2 → Ok K B G2 H2 → Dp K G2 u x → ∀ Q, Ret K B G2 H2 Q z → r u H2 Q) : EvD K B (tUn r ta) σ G z := fun H e Q q =>
  ha H e _ fun u G2 H2 X2 d2 => hr u G2 H2 X2.gg X2.ok d2 Q (q.mono X2)
theorem rd_I0 {g : Int → Int → Int} {i j : Int} : RvD K B (rI0 fun i j => .int (g i j)) G (.int i) (.int j) (.int (g i j)) := fun u v G2 H2 _ e du dv Q q => ⟨i, j, dp_int du, dp_int dv, q.here e (.int _)⟩
theorem rd_B0 {g : Int → Int → Bool} {i j : Int} : RvD K B (rI0 fun i j => .bl (g i j)) G (.int i) (.int j) (.bool (g i j)) := fun u v G2 H2 _ e du dv Q q => ⟨i, j, dp_int du, dp_int dv, q.here e (.bl _)⟩
theorem rd_I {C : Int → Int → Prop} {g : Int → Int → Int} {i j : Int} (hc : C i j) : RvD K B (rI C fun i j => .int (g i j)) G (.int i) (.int j) (.int (g i j)) := fun u v G2 H2 _ e du dv Q q => ⟨i, j, dp_int du, dp_int dv, hc, q.here e (.int _)⟩
theorem rd_ixT {i : Int} (h : atI ds i = some d) : RvD K B (rIxT K) G (.tuple ds) (.int i) d := fun u v G2 H2 _ e du dv Q q => by
  obtain ⟨a, xs, rfl, hs, hx⟩ := dp_tup du
  obtain ⟨w, hw, dw⟩ := atI_dp hx h
  exact ⟨a, xs, i, w, rfl, dp_int dv, ex_t e.e hs, hw, q.here e dw⟩
theorem rd_ixL {i : Int} (h : atI ds i = some d) : RvD K B (rIxL K) G (.list ds) (.int i) d := fun u v G2 H2 _ e du dv Q q => by
  obtain ⟨a, xs, rfl, hs, hx⟩ := dp_lst du
  obtain ⟨w, hw, dw⟩ := atI_dp hx h
  exact ⟨a, xs, i, w, rfl, dp_int dv, ex_l e.e hs, hw, q.here e dw⟩
def scalD : PyData → PyData → Bool
  | .none, .none => true
  | .none, .int _ => true
  | .int _, .none => true
  | .none, .bool _ => true
  | .bool _, .none => true
  | .none, .str _ => true
  | .str _, .none => true
  | .int _, .int _ => true
  | .bool _, .bool _ => true
  | .str _, .str _ => true
  | .int _, .str _ => true
  | .str _, .int _ => true
  | .bool _, .str _ => true
  | .str _, .bool _ => true
  | _, _ => false
def vOf : PyData → V
  | .none => .non
  | .bool b => .bl b
  | .int i => .int i
  | .str x => .str x
  | _ => .non
theorem rd_eq (h : scalD x y = true) : RvD K B rEq G x y (.bool (decide (vOf x = vOf y))) := fun u v G2 H2 _ e du dv Q q => by
  cases du <;> cases dv <;> first
    | exact ⟨rfl, q.here e (.bl _)⟩
    | exact Bool.noConfusion h
theorem rd_ne (h : scalD x y = true) : RvD K B rNe G x y (.bool (!decide (vOf x = vOf y))) := fun u v G2 H2 _ e du dv Q q => by
  cases du <;> cases dv <;> first
    | exact ⟨rfl, q.here e (.bl _)⟩
    | exact Bool.noConfusion h
theorem ed_chain {k1 k2 : Bool} (ha : EvD K B ta σ G x) (hb : EvD K B tb σ G y) (hc : k1 = true → EvD K B tc σ G z) (hr : RvD K B r G x y (.bool k1)) (hr' : k1 = true → RvD K B r' G y z (.bool k2)) : EvD K B (tChain r r' ta tb tc) σ G (.bool (k1 && k2)) := fun H e Q q =>
  ha H e _ fun u G2 H2 X2 d2 => hb.mono X2.gg e.c H2 X2.ok _ fun v G3 H3 X3 d3 =>
    hr u v G3 H3 (X2.gg.trans X3.gg) X3.ok (dp_mono X3.gg d2) d3 _ fun w G4 H4 X4 d4 => by
      refine ⟨k1, dp_bl d4, ?_⟩
      have X := X2.trans (X3.trans X4)
      cases k1 with
      | true =>
        rw [if_pos rfl]
        exact (hc rfl).mono X.gg e.c H4 X.ok _ fun w5 G5 H5 X5 d5 => hr' rfl v w5 G5 H5 (X.gg.trans X5.gg) X5.ok (dp_mono (X4.gg.trans X5.gg) d3) d5 Q (q.mono (X.trans X5))
      | false =>
        rw [ifF]
        exact q _ G4 H4 X (.bl false)
theorem eb_test (h : EvD K B te σ G (.bool b)) : EvB K B (tTest te) σ G b := fun H e Q q => h H e _ fun v G2 H2 X dv => ⟨b, dp_bl dv, q G2 H2 X⟩
theorem eb_B (h : EvD K B te σ G (.bool b)) : EvB K B (tB te) σ G b := fun H e Q q => h H e _ fun v G2 H2 X dv => ⟨b, dp_bl dv, q G2 H2 X⟩
theorem eb_not (h : EvB K B tt σ G b) : EvB K B (tNot tt) σ G (!b) := fun H e Q q => h H e _ fun G2 H2 X => q G2 H2 X
theorem eb_and (h : EvB K B tt σ G b) (h2 : b = true → EvB K B tu σ G c) : EvB K B (tAnd tt tu) σ G (b && c) := fun H e Q q => h H e _ fun G2 H2 X => by
  cases b with
  | true =>
    rw [if_pos rfl]
    exact (h2 rfl).mono X.gg e.c H2 X.ok Q fun G3 H3 X3 => q G3 H3 (X.trans X3)
  | false =>
    rw [ifF]
    exact q G2 H2 X
theorem eb_or (h : EvB K B tt σ G b) (h2 : b = false → EvB K B tu σ G c) : EvB K B (tOr tt tu) σ G (b || c) := fun H e Q q => h H e _ fun G2 H2 X => by
  cases b with
  | true =>
    rw [if_pos rfl]
    exact q G2 H2 X
  | false =>
    rw [ifF]
    exact (h2 rfl).mono X.gg e.c H2 X.ok Q fun G3 H3 X3 => q G3 H3 (X.trans X3)
theorem ed_andV (h : EvD K B ta σ G (.bool b)) (h2 : b = true → EvD K B tb σ G (.bool c)) : EvD K B (tAndV ta tb) σ G (.bool (b && c)) := fun H e Q q => h H e _ fun v G2 H2 X dv => by
  refine ⟨b, dp_bl dv, ?_⟩
  cases b with
  | true =>
    rw [if_pos rfl]
    exact (h2 rfl).mono X.gg e.c H2 X.ok Q (q.mono X)
  | false =>
    rw [ifF]
    exact q _ G2 H2 X (.bl _)
theorem ed_orV (h : EvD K B ta σ G (.bool b)) (h2 : b = false → EvD K B tb σ G (.bool c)) : EvD K B (tOrV ta tb) σ G (.bool (b || c)) := fun H e Q q => h H e _ fun v G2 H2 X dv => by
  refine ⟨b, dp_bl dv, ?_⟩
  cases b with
  | true =>
    rw [if_pos rfl]
    exact q _ G2 H2 X (.bl _)
  | false =>
    rw [ifF]
    exact (h2 rfl).mono X.gg e.c H2 X.ok Q (q.mono X)
theorem ed_notV (h : EvD K B ta σ G (.bool b)) : EvD K B (tNotV ta) σ G (.bool (!b)) := fun H e Q q => h H e _ fun v G2 H2 X dv => ⟨b, dp_bl dv, q _ G2 H2 X (.bl _)⟩
theorem ed_if (h : EvB K B tt σ G b) (h1 : b = true → EvD K B ta σ G d) (h2 : b = false → EvD K B tb σ G d) : EvD K B (tIf tt ta tb) σ G d := fun H e Q q => h H e _ fun G2 H2 X => by
  cases b with
  | true =>
    rw [if_pos rfl]
    exact (h1 rfl).mono X.gg e.c H2 X.ok Q (q.mono X)
  | false =>
    rw [ifF]
    exact (h2 rfl).mono X.gg e.c H2 X.ok Q (q.mono X)
theorem ed_is (h : EvD K B te σ G d) (e : d = x) : EvD K B te σ G x := e ▸ h
theorem eb_is (h : EvB K B tt σ G b) (e : b = c) : EvB K B tt σ G c := e ▸ h
theorem ea_nil : EvA K B tNil σ G [] := fun H e Q q => q [] G H (Ext.refl e) .nil
theorem ea_cons (h : EvD K B ta σ G d) (hr : EvA K B tr σ G ds) : EvA K B (tCons ta tr) σ G (d :: ds) := fun H e Q q =>
  h H e _ fun v G2 H2 X dv => hr.mono X.gg e.c H2 X.ok _ fun vs G3 H3 X3 dvs => q _ G3 H3 (X.trans X3) (.cons (dp_mono X3.gg dv) dvs)
theorem sz {n : Nat} (h : n ≤ 100000) : n ≤ sizeLine := Nat.le_trans h (by decide)
theorem szl {n : Nat} (h : n < 100000) : n < sizeLine := Nat.lt_of_lt_of_le h (by decide)
theorem ed_tup (h : EvA K B tr σ G ds) (hl : ds.length ≤ 100000) : EvD K B (tTup tr) σ G (.tuple ds) := fun H e Q q =>
  h H e _ fun vs G2 H2 X dv => ⟨by rw [dpAll_len dv]; exact sz hl, fun p hp =>
    q _ _ _ (X.trans (Ext.new X.ok hp)) (.tup (SqT.of upd_same) (dpAll_mono (Ex.new (X.ok.e.off hp)) dv))⟩
theorem ed_lst (h : EvA K B tr σ G ds) (hl : ds.length ≤ 100000) : EvD K B (tLst tr) σ G (.list ds) := fun H e Q q =>
  h H e _ fun vs G2 H2 X dv => ⟨by rw [dpAll_len dv]; exact sz hl, fun p hp =>
    q _ _ _ (X.trans (Ext.new X.ok hp)) (.lst (SqL.of upd_same) (dpAll_mono (Ex.new (X.ok.e.off hp)) dv))⟩
/-- a call of an own def -/
theorem ed_call {sp : Sp} {dvs : List V} {E : XK} (ha : EvA K B tr σ G ds) (hs : ∀ vs G2 H2, Ex G G2 → Ok K B G2 H2 → DpAll K G2 vs ds → ∀ Q, Ret K B G2 H2 Q d → sp (vs ++ dvs) H2 Q E) : EvD K B (tCall sp dvs E tr) σ G d := fun H e Q q =>
  ha H e _ fun vs G2 H2 X dv => hs vs G2 H2 X.gg X.ok dv Q (q.mono X)
/-- a call of a builtin -/
theorem ed_cb {r : List V → Hp → VK → Prop} (ha : EvA K B tr σ G ds) (hs : ∀ vs G2 H2, Ex G G2 → Ok K B G2 H2 → DpAll K G2 vs ds → ∀ Q, Ret K B G2 H2 Q d → r vs H2 Q) : EvD K B (tCB r tr) σ G d := fun H e Q q =>
  ha H e _ fun vs G2 H2 X dv => hs vs G2 H2 X.gg X.ok dv Q (q.mono X)
/-! ### statements -/
variable {D : Ends} {t u : TS}
theorem st_set {i : Nat} (h : EvD K B te σ G d) (e : Ok K B G H) (k : ∀ v G2 H2, Ext K B G H G2 H2 → Dp K G2 v d → D.nx (σ.set i (some v)) H2) : tAsg te (gName i) D σ H := h H e _ fun v G2 H2 X dv => k v G2 H2 X dv
theorem sq_set {i : Nat} (h : EvD K B te σ G d) (e : Ok K B G H) (k : ∀ v G2 H2, Ext K B G H G2 H2 → Dp K G2 v d → u D (σ.set i (some v)) H2) : tSeq (tAsg te (gName i)) u D σ H := h H e _ fun v G2 H2 X dv => k v G2 H2 X dv
theorem st_ret (h : EvD K B te σ G d) (e : Ok K B G H) (k : Ret K B G H D.rt d) : tRet te D σ H := h H e _ k
theorem st_if (h : EvB K B tt σ G b) (e : Ok K B G H) (k1 : b = true → ∀ G2 H2, Ext K B G H G2 H2 → t D σ H2) (k2 : b = false → ∀ G2 H2, Ext K B G H G2 H2 → u D σ H2) : tIfS tt t u D σ H := h H e _ fun G2 H2 X => by
  cases b with
  | true =>
    rw [if_pos rfl]
    exact k1 rfl G2 H2 X
  | false =>
    rw [ifF]
    exact k2 rfl G2 H2 X
theorem sq_if {w : TS} (h : EvB K B tt σ G b) (e : Ok K B G H) (k1 : b = true → ∀ G2 H2, Ext K B G H G2 H2 → t { D with nx := w D } σ H2) (k2 : b = false → ∀ G2 H2, Ext K B G H G2 H2 → u { D with nx := w D } σ H2) : tSeq (tIfS tt t u) w D σ H := st_if h e k1 k2
theorem sq_drop (h : EvD K B te σ G d) (e : Ok K B G H) (k : ∀ G2 H2, Ext K B G H G2 H2 → u D σ H2) : tSeq (tDrop te) u D σ H := h H e _ fun v G2 H2 X _ => k G2 H2 X
end
end Lw

namespace Lw
open PySem.Spec PySem L2 PyProof.Rows
open Evl (Ex Ex.refl Ex.trans Ex.new Ex.off ex_rd ex_l ex_t)
/-! ### own defs by their promises -/
structure Good (P : Program) (w : World) (K : Fg) (mg : Str → Option Value) (base : Heap) (CX : CXT) (k : Nat) (x : Str) (ps : List Str) (dvs : List V) (sp : Sp) : Prop where
  ex : ∃ fd ds, FnOk P w K mg base CX k (He.ga K x) fd ps sp ∧ Vals dvs ds ∧ Binds K fd ps ds
  g : mg x = some (.ref (He.ga K x))
  kp : PySem.W.keepIn K (.ref (He.ga K x)) = true
structure GoodK (P : Program) (w : World) (K : Fg) (mg : Str → Option Value) (base : Heap) (CX : CXT) (k : Nat) (x : Str) (ps : List Str) (n : Nat) (ks : List Str) (gV : List V → List V → List V) (sp : Sp) : Prop where
  ex : ∃ fd g, FnOk P w K mg base CX k (He.ga K x) fd ps sp ∧ KBn K fd ps n ks g gV
  g : mg x = some (.ref (He.ga K x))
  kp : PySem.W.keepIn K (.ref (He.ga K x)) = true
section
variable {X : Cx} {CX : CXT} {k n : Nat} {ps ks : List Str} {sp : Sp} {E : XK} {x : Str} {p pos : Pos} {e : Expr} {es : List Expr} {kws : List Keyword} {t tk : TA} {dvs : List V} {gV : List V → List V → List V}
/-- what is seen of the text of a call by places -/
structure Tx1 (X : Cx) (pos : Pos) (x : Str) (e : Expr) (es : List Expr) : Prop where
  nm : (x == ("__debug__" : Str)) = false
  fst : starEach (e :: es) X.env = (false, eval e X.env) :: starEach es X.env
  no : (backTo pos (starEach es X.env)).any (·.1) = false
/-- and of one by names -/
structure Tx2 (X : Cx) (pos : Pos) (kws : List Keyword) (ks : List Str) : Prop where
  all : (backToKw pos (keywordEach kws X.env)).all (·.1.isSome) = true
  nms : (backToKw pos (keywordEach kws X.env)).filterMap (·.1) = ks
theorem pe_own (F : Good X.prog X.w X.K X.mg X.base CX k x ps dvs sp) (hr : Room k X.A) (hg : Gl X x) (hx : Passes CX X E) (ha : PA X (e :: es) t)
    (tx : Tx1 X pos x e es := by exact ⟨by decide, by rfl, by rfl⟩) : PE X (.Call (.Name x p) (e :: es) [] pos) (tCall sp dvs E t) := by
  obtain ⟨fd, ds, G, r, b⟩ := F.ex
  exact pe_call G hr hg F.g F.kp b r hx ha tx.nm tx.fst tx.no
theorem pe_ownS {E : L2.St → XK} (F : Good X.prog X.w X.K X.mg X.base CX k x ps dvs sp) (hr : Room k X.A) (hg : Gl X x) (hx : ∀ σ, PassesAt CX X σ (E σ)) (ha : PA X (e :: es) t)
    (tx : Tx1 X pos x e es := by exact ⟨by decide, by rfl, by rfl⟩) : PE X (.Call (.Name x p) (e :: es) [] pos) (tCallSD sp dvs E t) := by
  obtain ⟨fd, ds, G, r, b⟩ := F.ex
  exact pe_callSD G hr hg F.g F.kp b r hx ha tx.nm tx.fst tx.no
theorem pe_ownK (F : GoodK X.prog X.w X.K X.mg X.base CX k x ps n ks gV sp) (hr : Room k X.A) (hg : Gl X x) (hx : Passes CX X E) (ha : PA X (e :: es) t) (hkw : PK X kws tk)
    (tx : Tx1 X pos x e es := by exact ⟨by decide, by rfl, by rfl⟩) (ty : Tx2 X pos kws ks := by exact ⟨by rfl, by rfl⟩)
    (tz : ((backTo pos (starEach (e :: es) X.env)).any (·.1) || (backToKw pos (keywordEach kws X.env)).any (·.1.isNone)) = false := by rfl) : PE X (.Call (.Name x p) (e :: es) kws pos) (tCallN n ks.length sp gV E t tk) := by
  obtain ⟨fd, g, G, b⟩ := F.ex
  exact pe_callN G hr hg F.g F.kp b hx ha hkw ty.all ty.nms tx.nm tx.fst tz
theorem pe_ownK0 (F : GoodK X.prog X.w X.K X.mg X.base CX k x ps 0 ks gV sp) (hr : Room k X.A) (hg : Gl X x) (hx : Passes CX X E) (hkw : PK X kws tk) (nm : (x == ("__debug__" : Str)) = false := by decide) (ty : Tx2 X pos kws ks := by exact ⟨by rfl, by rfl⟩)
    (tz : ((backTo pos (starEach [] X.env)).any (·.1) || (backToKw pos (keywordEach kws X.env)).any (·.1.isNone)) = false := by rfl) : PE X (.Call (.Name x p) [] kws pos) (tCallN 0 ks.length sp gV E tNil tk) := by
  obtain ⟨fd, g, G, b⟩ := F.ex
  constructor
  intro pins s σ H Q I h
  refine wpAny_Call_Name_kw (ld_glob I hg F.g (PySem.W.callWith_KW0 (h₀ := X.base) I.ok.mod.kin F.kp ty.all ?_ tz) nm)
  refine thn (hkw.run pos pins s σ H _ I h) ?_
  rintro ws s2 ⟨zs, H2, I2, rz, l1, l2, q2⟩
  rw [ty.nms]
  exact ⟨I2.kIn, run_fnN (us := []) (vs := []) G hr b hx I2 .nil rz rfl l2 q2⟩
end
end Lw
namespace L2
open PySem.Spec PySem PyProof.Rows
/-- what isinstance of a caught error of the class at D wants -/
def excCB (K : PySem.W.Frag) (D : Addr) : Bool :=
  He.eqO (PySem.W.findIn K (.ref D) "__getattribute__") (some (some (.builtin "BaseException.__getattribute__"))) && (He.eqO (PySem.W.findIn K (.ref D) "__getattr__") (some none) && (decide (PySem.W.subIn K (.ref D) (.type "BaseException") = some true) && (PySem.W.hasDictIn K D && (He.eqO (PySem.W.findIn K (.ref D) "__class__") (some (some (.builtin "object.__class__"))) && (He.eqO (PySem.W.specialIn K (.builtin "object.__class__") "__get__") (some (some (.builtin "getset_descriptor.__get__"))) && (decide (PySem.W.takesIn K (.builtin "object.__class__") = some true) && decide (PySem.W.mroIn K D (.type "object") = some true)))))))
theorem excC_of {K : PySem.W.Frag} {D : Addr} (h : excCB K D = true) : ExcC K D := by
  obtain ⟨h1, h⟩ := He.ba h
  obtain ⟨h2, h⟩ := He.ba h
  obtain ⟨h3, h⟩ := He.ba h
  obtain ⟨h4, h⟩ := He.ba h
  obtain ⟨h5, h⟩ := He.ba h
  obtain ⟨h6, h⟩ := He.ba h
  obtain ⟨h7, h8⟩ := He.ba h
  exact ⟨He.eqO_ok h1, He.eqO_ok h2, of_decide_eq_true h3, h4, He.eqO_ok h5, He.eqO_ok h6, of_decide_eq_true h7, of_decide_eq_true h8⟩
end L2

namespace Lw
open PySem.Spec PySem L2 PyProof.Rows
open Evl (Ex Ex.refl Ex.trans Ex.new Ex.off ex_rd ex_l ex_t)
section
variable {K : Fg} {B : Bg} {σ : L2.St} {G G' H : Hp} {te ta tb tc : TE} {tt tu : TT} {tr : TA} {d x y z : PyData} {ds es : List PyData} {r r' : R2} {b c : Bool}
/-! ### kinds -/
def tyD : PyData → String
  | .none => "NoneType"
  | .bool _ => "bool"
  | .int _ => "int"
  | .str _ => "str"
  | .list _ => "list"
  | .tuple _ => "tuple"
  | .dict _ => "dict"
theorem tyX_of {v : V} (e : Ex G H) (h : Dp K G v d) : TyX K H v (.type (tyD d)) := by
  cases h with
  | non => exact .base .non
  | bl b => exact .base (.bl b)
  | int i => exact .base (.int i)
  | str x => exact .base (.str x)
  | lst h a =>
    rcases h with (h | ⟨o, h⟩) | ⟨o, its, n, hk, hc, _⟩
    · exact .base (.lst (e _ _ h))
    · exact .base (.frz (e _ _ h))
    · exact .kList hk hc
  | tup h a =>
    rcases h with (h | ⟨o, h⟩) | ⟨o, its, n, hk, hc, _⟩
    · exact .base (.tup (e _ _ h))
    · exact .fTuple (e _ _ h)
    · exact .kTuple hk hc
theorem ed_isi {n : String} (h : EvD K B ta σ G d) (hk : kitB (tyD d) n = some b) : EvD K B (tCB (rIsi K) (tCons ta (tCons (tC (.ty n)) tNil))) σ G (.bool b) := fun H e Q q =>
  h H e _ fun v G2 H2 X dv => ⟨v, .ty n, .type (tyD d), .type n, b, rfl, .ty n, tyX_of X.ok.e dv, kit_ty hk, q _ G2 H2 X (.bl b)⟩
abbrev rLenS (K : Fg) : List V → Hp → VK → Prop := fun xs H Q => ∃ p ys, xs = [.ref p] ∧ (SqL K H p ys ∨ SqT K H p ys) ∧ Q (.int ys.length) H
abbrev rListS (K : Fg) : List V → Hp → VK → Prop := fun xs H Q => ∃ p ys, xs = [.ref p] ∧ (SqL K H p ys ∨ SqT K H p ys) ∧ ∀ l, H l = none → Q (.ref l) (upd H l (.lst ys))
abbrev rTupS (K : Fg) : List V → Hp → VK → Prop := fun xs H Q => ∃ p ys, xs = [.ref p] ∧ ((SqL K H p ys ∧ ∀ l, H l = none → Q (.ref l) (upd H l (.tup ys))) ∨ (SqT K H p ys ∧ Q (.ref p) H))
def lenD : PyData → Option Nat
  | .list ds => some ds.length
  | .tuple ds => some ds.length
  | _ => none
theorem ed_len {n : Nat} (h : EvD K B ta σ G d) (hl : lenD d = some n) : EvD K B (tCB (rLenS K) (tCons ta tNil)) σ G (.int (n : Int)) := fun H e Q q =>
  h H e _ fun v G2 H2 X dv => by
    cases dv with
    | lst hs a =>
      have e1 := dpAll_len a
      have e2 : n = _ := (Option.some.inj hl).symm
      refine ⟨_, _, rfl, .inl (ex_l X.ok.e hs), q _ G2 H2 X ?_⟩
      rw [e1, e2]
      exact .int _
    | tup hs a =>
      have e1 := dpAll_len a
      have e2 : n = _ := (Option.some.inj hl).symm
      refine ⟨_, _, rfl, .inr (ex_t X.ok.e hs), q _ G2 H2 X ?_⟩
      rw [e1, e2]
      exact .int _
    | _ => cases hl
def isNon : PyData → Bool
  | .none => true
  | _ => false
theorem rd_isN : RvD K B (fun x y H Q => y = .non ∧ Q (.bl (decide (x = .non))) H) G d .none (.bool (isNon d)) := fun u v G2 H2 _ e du dv Q q => ⟨dp_non dv, by
  have z : decide (u = .non) = isNon d := by cases du <;> rfl
  rw [z]
  exact q.here e (.bl _)⟩
theorem rd_notN : RvD K B (fun x y H Q => y = .non ∧ Q (.bl (!decide (x = .non))) H) G d .none (.bool (!isNon d)) := fun u v G2 H2 _ e du dv Q q => ⟨dp_non dv, by
  have z : decide (u = .non) = isNon d := by cases du <;> rfl
  rw [z]
  exact q.here e (.bl _)⟩
theorem rd_eqD (h1 : SeqAt.shaped x = true) (h2 : SeqAt.shaped y = true) : RvD K B (rEqD K) G x y (.bool (PyData.eqv x y)) := fun u v G2 H2 _ e du dv Q q => ⟨x, y, dp_mono e.e du, dp_mono e.e dv, h1, h2, q.here e (.bl _)⟩
theorem rd_neD (h1 : SeqAt.shaped x = true) (h2 : SeqAt.shaped y = true) : RvD K B (rNeD K) G x y (.bool (!PyData.eqv x y)) := fun u v G2 H2 _ e du dv Q q => ⟨x, y, dp_mono e.e du, dp_mono e.e dv, h1, h2, q.here e (.bl _)⟩
theorem rd_ixSL {i : Int} (h : atI ds i = some d) : RvD K B (rIx K) G (.list ds) (.int i) d := fun u v G2 H2 g e du dv Q q => .inl (rd_ixL (B := B) h u v G2 H2 g e du dv Q q)
theorem rd_ixST {i : Int} (h : atI ds i = some d) : RvD K B (rIx K) G (.tuple ds) (.int i) d := fun u v G2 H2 g e du dv Q q => .inr (.inl (rd_ixT (B := B) h u v G2 H2 g e du dv Q q))
/-! ### parts of tuples and lists -/
def cutD (ds : List PyData) (lo hi : Option Int) : List PyData := (ds.drop (HT.sIx ds.length 0 lo)).take (HT.sIx ds.length ds.length hi - HT.sIx ds.length 0 lo)
theorem dpAll_drop : ∀ {vs : List V} {ds : List PyData} (n : Nat), DpAll K H vs ds → DpAll K H (vs.drop n) (ds.drop n)
  | _, _, 0, h => h
  | _, _, _ + 1, .nil => .nil
  | _, _, n + 1, .cons _ a => dpAll_drop n a
theorem dpAll_take : ∀ {vs : List V} {ds : List PyData} (n : Nat), DpAll K H vs ds → DpAll K H (vs.take n) (ds.take n)
  | _, _, 0, _ => .nil
  | _, _, _ + 1, .nil => .nil
  | _, _, n + 1, .cons h a => .cons h (dpAll_take n a)
theorem dpAll_cut {vs : List V} {lo hi : Option Int} (h : DpAll K H vs ds) : DpAll K H (cutV vs lo hi) (cutD ds lo hi) := by
  unfold cutV cutD
  rw [dpAll_len h]
  exact dpAll_take _ (dpAll_drop _ h)
theorem eo_none : EvO K B tNoPart σ G none := fun H e Q q => q G H (Ext.refl e)
theorem EvO.mono {to : TO} {o : Option Int} (e : Ex G G') (c : Cel K B G) (h : EvO K B to σ G o) : EvO K B to σ G' o := fun H eH Q q => h H (eH.less e c) Q fun G2 H2 X => q _ H2 (X.wide e eH).1
theorem eo_some {i : Int} (h : EvD K B te σ G (.int i)) : EvO K B (tPart te) σ G (some i) := fun H e Q q => h H e _ fun v G2 H2 X dv => ⟨i, dp_int dv, q G2 H2 X⟩
theorem ed_slT {tl th : TO} {lo hi : Option Int} (h : EvD K B te σ G (.tuple ds)) (h1 : EvO K B tl σ G lo) (h2 : EvO K B th σ G hi) (hn : ¬ (HT.sIx ds.length 0 lo = 0 ∧ HT.sIx ds.length ds.length hi = ds.length)) :
    EvD K B (tSl (rSlT K) te tl th) σ G (.tuple (cutD ds lo hi)) := fun H e Q q =>
  h H e _ fun v G2 H2 X dv => h1.mono X.gg e.c H2 X.ok _ fun G3 H3 X3 => h2.mono (X.gg.trans X3.gg) e.c H3 X3.ok _ fun G4 H4 X4 => by
    obtain ⟨a, xs, rfl, hs, hx⟩ := dp_tup (dp_mono (X3.gg.trans X4.gg) dv)
    have Y := X.trans (X3.trans X4)
    refine ⟨a, xs, rfl, ex_t X4.ok.e hs, ?_, fun p hp => q _ _ _ (Y.trans (Ext.new Y.ok hp)) (.tup (SqT.of upd_same) (dpAll_mono (Ex.new (Y.ok.e.off hp)) (dpAll_cut hx)))⟩
    rw [dpAll_len hx]
    exact hn
theorem ed_slL {tl th : TO} {lo hi : Option Int} (h : EvD K B te σ G (.list ds)) (h1 : EvO K B tl σ G lo) (h2 : EvO K B th σ G hi) :
    EvD K B (tSl (rSlL K) te tl th) σ G (.list (cutD ds lo hi)) := fun H e Q q =>
  h H e _ fun v G2 H2 X dv => h1.mono X.gg e.c H2 X.ok _ fun G3 H3 X3 => h2.mono (X.gg.trans X3.gg) e.c H3 X3.ok _ fun G4 H4 X4 => by
    obtain ⟨a, xs, rfl, hs, hx⟩ := dp_lst (dp_mono (X3.gg.trans X4.gg) dv)
    have Y := X.trans (X3.trans X4)
    exact ⟨a, xs, rfl, ex_l X4.ok.e hs, fun p hp => q _ _ _ (Y.trans (Ext.new Y.ok hp)) (.lst (SqL.of upd_same) (dpAll_mono (Ex.new (Y.ok.e.off hp)) (dpAll_cut hx)))⟩
theorem rd_catT (h0 : ds ≠ []) (h1 : es ≠ []) (hl : ds.length + es.length ≤ 100000) : RvD K B (rCatT K) G (.tuple ds) (.tuple es) (.tuple (ds ++ es)) := fun u v G2 H2 _ e du dv Q q => by
  obtain ⟨a, xs, rfl, hs, hx⟩ := dp_tup du
  obtain ⟨a', ys, rfl, hs', hy⟩ := dp_tup dv
  refine ⟨a, a', xs, ys, rfl, rfl, ex_t e.e hs, ex_t e.e hs', fun z => ?_, ?_, fun z => ?_, fun _ p hp => ?_⟩
  · subst z
    cases hx
    exact h0 rfl
  · rw [dpAll_len hx, dpAll_len hy]
    exact sz hl
  · subst z
    cases hy
    exact absurd rfl h1
  · exact q _ _ _ (Ext.new e hp) (.tup (SqT.of upd_same) (dpAll_mono (Ex.new (e.e.off hp)) (dpAll_app hx hy)))
/-- a list made anew, outside of what stays -/
def RetF (K : Fg) (B : Bg) (G H : Hp) (Q : VK) (ds : List PyData) : Prop := ∀ p xs G2 H2, Ext K B G H G2 H2 → H p = none → G2 p = none → ¬ isB B p → H2 p = some (.lst xs) → DpAll K G2 xs ds → Q (.ref p) H2
def EvF (K : Fg) (B : Bg) (te : TE) (σ : L2.St) (G : Hp) (ds : List PyData) : Prop := ∀ H, Ok K B G H → ∀ Q : VK, RetF K B G H Q ds → te σ H Q
theorem Ext.freeze {G2 H2 : Hp} {p : Addr} {o : HO} (X : Ext K B G H G2 H2) (hp : H p = none) (hg : G2 p = none) (hb : ¬ isB B p) (h2 : H2 p = some o) : Ext K B G H (upd G2 p o) H2 :=
  ⟨X.gg.trans (Ex.new hg), X.hh, fun a u h g => by
    rw [upd_ne (ne_of_none h hp)]
    exact X.fr a u h g, ⟨fun a u h => by
      by_cases c : a = p
      · subst c
        rw [upd_same] at h
        rw [h2, ← h]
      · rw [upd_ne c] at h
        exact X.ok.e a u h, X.ok.c.mono (Ex.new hg), X.ok.b.keep (fun a z g => by
        rw [upd_ne (show a ≠ p from fun c => hb (by rw [← c]; exact z))]
        exact g) fun _ _ _ q => q⟩⟩
theorem RetF.of {Q : VK} (h : Ret K B G H Q (.list ds)) : RetF K B G H Q ds := fun p xs G2 H2 X hp hg hb h2 a =>
  h _ _ H2 (X.freeze hp hg hb h2) (.lst (SqL.of upd_same) (dpAll_mono (Ex.new hg) a))
theorem EvF.ed (h : EvF K B te σ G ds) : EvD K B te σ G (.list ds) := fun H e Q q => h H e Q (.of q)
theorem RetF.mono {Q : VK} {G1 H1 : Hp} (X : Ext K B G H G1 H1) (h : RetF K B G H Q ds) : RetF K B G1 H1 Q ds := fun p xs G2 H2 X2 hp hg hb h2 a => h p xs G2 H2 (X.trans X2) (by
  cases q : H p with
  | none => rfl
  | some o =>
    have z := X.hh p o hb q
    rw [hp] at z
    cases z) hg hb h2 a
theorem EvF.mono (e : Ex G G') (c : Cel K B G) (h : EvF K B te σ G ds) : EvF K B te σ G' ds := fun H eH Q q =>
  h H (eH.less e c) Q fun p xs G2 H2 X hp hg hb h2 a => by
    obtain ⟨X2, e2⟩ := X.wide e eH
    exact q p xs _ H2 X2 hp (join_none (eH.e.off hp) hg) hb h2 (dpAll_mono e2 a)
theorem ef_lst (h : EvA K B tr σ G ds) (hl : ds.length ≤ 100000) : EvF K B (tLst tr) σ G ds := fun H e Q q =>
  h H e _ fun vs G2 H2 X dv => ⟨by rw [dpAll_len dv]; exact sz hl, fun p hp => by
    have nb := X.ok.b.ne hp
    refine q p vs G2 _ (X.trans (Ext.loose X.ok hp)) ?_ (X.ok.e.off hp) nb upd_same dv
    cases z : H p with
    | none => rfl
    | some o =>
      have z2 := X.hh p o nb z
      rw [hp] at z2
      cases z2⟩
theorem Ext.old {G2 H2 : Hp} {p : Addr} (X : Ext K B G H G2 H2) (nb : ¬ isB B p) (hp : H2 p = none) : H p = none := by
  cases z : H p with
  | none => rfl
  | some o =>
    have z2 := X.hh p o nb z
    rw [hp] at z2
    cases z2
/-! ### comprehensions -/
theorem range_one (j : Nat) (f : Int → Option PyData) : (List.range (j + 1)).filterMap (fun i : Nat => f (i : Int)) = (List.range j).filterMap (fun i : Nat => f (i : Int)) ++ (f (j : Int)).toList := by
  rw [List.range_succ, List.filterMap_append]
  cases h : f (j : Int) <;> simp [List.filterMap_cons, h]
theorem lc_turn {G1 H1 : Hp} {D : Addr} {xs : List V} {es : List PyData} {o : Option PyData} {σ2 : L2.St} {H3 G3 : Hp} {Nx : Hp → Prop} (hD : H1 D = none) (nb : ¬ isB B D)
    (X : Ext K B G1 H1 G3 H3) (hg : G3 D = none) (h3 : H3 D = some (.lst xs)) (hx : DpAll K G3 xs es) (hl : es.length < 100000)
    (ht : EvB K B tt σ2 G3 o.isSome) (he : ∀ d, o = some d → EvD K B te σ2 G3 d)
    (k : ∀ G4 H4 ys, Ext K B G1 H1 G4 H4 → G4 D = none → H4 D = some (.lst ys) → DpAll K G4 ys (es ++ o.toList) → Nx H4) :
    tt σ2 H3 fun b H3 => if b = true then te σ2 H3 fun y H4 => ∃ acc, H4 D = some (.lst acc) ∧ acc.length < sizeLine ∧ Nx (upd H4 D (.lst (acc ++ [y]))) else Nx H3 :=
  ht H3 X.ok _ fun G4 H4 X4 => by
    have g4 := X4.fr D _ h3 hg
    have h4 := X4.hh D _ nb h3
    have a4 := dpAll_mono X4.gg hx
    cases o with
    | none =>
      show (if false = true then _ else _)
      rw [ifF]
      refine k G4 H4 xs (X.trans X4) g4 h4 ?_
      rw [Option.toList_none, List.append_nil]
      exact a4
    | some d =>
      refine (show (if true = true then _ else _) from ?_)
      rw [if_pos rfl]
      refine (he d rfl).mono X4.gg X.ok.c H4 X4.ok _ fun y G5 H5 X5 dy => ?_
      have h5 := X5.hh D _ nb h4
      have g5 := X5.fr D _ h4 g4
      refine ⟨xs, h5, by rw [dpAll_len hx]; exact szl hl, ?_⟩
      have Y := X.trans (X4.trans X5)
      refine k G5 _ (xs ++ [y]) ⟨Y.gg, fun a u n q => ?_, Y.fr, Y.ok.mut g5 nb⟩ g5 upd_same (dpAll_app (dpAll_mono X5.gg a4) (.cons dy .nil))
      rw [upd_ne (ne_of_none q hD)]
      exact Y.hh a u n q
/-- [e for x in range(n) if t] -/
theorem ef_lcR {i : Nat} {n : Nat} {f : Int → Option PyData} (ha : EvA K B tr σ G [.int (n : Int)]) (hn : n ≤ 100000)
    (ht : ∀ j : Nat, j < n → EvB K B tt ((σ.set i none).set i (some (.int (j : Int)))) G (f j).isSome)
    (he : ∀ (j : Nat) d, j < n → f j = some d → EvD K B te ((σ.set i none).set i (some (.int (j : Int)))) G d) :
    EvF K B (tLc (iRng1 tr) (gName i) tt te [i]) σ G ((List.range n).filterMap fun j : Nat => f (j : Int)) := fun H e Q q =>
  ha H e _ fun vs G1 H1 X dv => by
    have ev : vs = [.int (n : Int)] := by
      cases dv with
      | cons h a =>
        cases a
        rw [dp_int h]
    refine ⟨(n : Int), ev, by omega, by omega, fun D hD => ?_⟩
    have nb := X.ok.b.ne hD
    show ∃ W, _
    refine lc_range (lo := 0) (n := (n : Int).toNat) (Qd := fun H => Q (.ref D) H) (fun j H' => ∃ G' xs, Ext K B G1 H1 G' H' ∧ G' D = none ∧ H' D = some (.lst xs) ∧ DpAll K G' xs ((List.range j).filterMap fun j : Nat => f (j : Int)))
      ⟨G1, [], Ext.loose X.ok hD, X.ok.e.off hD, upd_same, .nil⟩ ?_ ?_
    · rintro j H' hj ⟨G', xs, X', g', h', a'⟩
      have hj' : j < n := by omega
      have ez : (0 : Int) + (j : Int) = (j : Int) := by omega
      refine ⟨?_, ?_⟩
      · show (((σ.set i none).set i (some (.int (0 + (j : Int))))).set i none) = σ.set i none
        rw [List.set_set, List.set_set]
      · rw [ez]
        have hlen : ((List.range j).filterMap fun j : Nat => f (j : Int)).length < 100000 := by
          have z := List.length_filterMap_le (fun j : Nat => f (j : Int)) (List.range j)
          rw [List.length_range] at z
          omega
        refine lc_turn (o := f j) hD nb X' g' h' a' hlen ((ht j hj').mono (X.gg.trans X'.gg) e.c) (fun d ed => (he j d hj' ed).mono (X.gg.trans X'.gg) e.c) fun G4 H4 ys X4 g4 h4 a4 => ⟨G4, ys, X4, g4, h4, ?_⟩
        rw [range_one]
        exact a4
    · rintro H' ⟨G', xs, X', g', h', a'⟩
      have z : (n : Int).toNat = n := Int.toNat_natCast n
      rw [z] at a'
      exact q D xs G' H' (X.trans X') (X.old nb hD) g' nb h' a'
theorem take_filterMap {ds : List PyData} {f : PyData → Option PyData} {j : Nat} {d : PyData} (h : ds[j]? = some d) : (ds.take (j + 1)).filterMap f = (ds.take j).filterMap f ++ (f d).toList := by
  rw [List.take_add_one, h, List.filterMap_append]
  cases q : f d <;> simp [q]
/-- [e for x in xs if t], xs a list -/
theorem ef_lcL {i : Nat} {f : PyData → Option PyData} (ha : EvD K B ta σ G (.list ds)) (hn : ds.length ≤ 100000)
    (ht : ∀ d v G', d ∈ ds → Ex G G' → Cel K B G' → Dp K G' v d → EvB K B tt ((σ.set i none).set i (some v)) G' (f d).isSome)
    (he : ∀ d v y G', d ∈ ds → Ex G G' → Cel K B G' → Dp K G' v d → f d = some y → EvD K B te ((σ.set i none).set i (some v)) G' y) :
    EvF K B (tLc (iList K ta) (gName i) tt te [i]) σ G (ds.filterMap f) := fun H e Q q =>
  ha H e _ fun v G1 H1 X dv => by
    obtain ⟨a, xs, rfl, hs, hx⟩ := dp_lst dv
    refine ⟨a, rfl, ⟨xs, ex_l X.ok.e hs⟩, fun D hD => ?_⟩
    have nb := X.ok.b.ne hD
    show ∃ W, _
    refine lc_list (K := K) (a := a) (xs := xs) (Qd := fun H => Q (.ref D) H) (fun j H' => ∃ G' ys, Ext K B G1 H1 G' H' ∧ G' D = none ∧ H' D = some (.lst ys) ∧ DpAll K G' ys ((ds.take j).filterMap f))
      ⟨G1, [], Ext.loose X.ok hD, X.ok.e.off hD, upd_same, .nil⟩ ?_ ?_ ?_
    · rintro j H' _ ⟨G', ys, X', _⟩
      exact ex_l (X'.gg.trans X'.ok.e) hs
    · rintro j x H' hj ⟨G', ys, X', g', h', a'⟩
      obtain ⟨d, hd, dx⟩ := dpAll_at hx hj
      have md : d ∈ ds := List.mem_of_getElem? hd
      have jl : j < ds.length := (List.getElem?_eq_some_iff.mp hd).1
      refine ⟨?_, ?_⟩
      · show (((σ.set i none).set i (some x)).set i none) = σ.set i none
        rw [List.set_set, List.set_set]
      · have hlen : ((ds.take j).filterMap f).length < 100000 := by
          have z := List.length_filterMap_le f (ds.take j)
          rw [List.length_take] at z
          omega
        have c' := (e.c.mono X.gg).mono X'.gg
        refine lc_turn (o := f d) hD nb X' g' h' a' hlen (ht d x G' md (X.gg.trans X'.gg) c' (dp_mono X'.gg dx)) (fun y ey => he d x y G' md (X.gg.trans X'.gg) c' (dp_mono X'.gg dx) ey) fun G4 H4 ys X4 g4 h4 a4 => ⟨G4, ys, X4, g4, h4, ?_⟩
        rw [take_filterMap hd]
        exact a4
    · rintro H' ⟨G', ys, X', g', h', a'⟩
      rw [dpAll_len hx, List.take_length] at a'
      exact q D ys G' H' (X.trans X') (X.old nb hD) g' nb h' a'
theorem eb_yes : EvB K B tYes σ G true := fun H e Q q => q G H (Ext.refl e)
/-- all(xs), a list of truths -/
theorem dpAll_bls : ∀ {vs : List V} {bs : List Bool}, DpAll K H vs (bs.map PyData.bool) → vs = bs.map V.bl
  | _, [], .nil => rfl
  | _, b :: bs, .cons h a => by rw [dp_bl h, dpAll_bls a]; rfl
theorem dpAll_intsV : ∀ {vs : List V} {bs : List Int}, DpAll K H vs (bs.map PyData.int) → vs = bs.map V.int
  | _, [], .nil => rfl
  | _, b :: bs, .cons h a => by rw [dp_int h, dpAll_intsV a]; rfl
theorem ed_all {bs : List Bool} (h : EvD K B ta σ G (.list (bs.map PyData.bool))) : EvD K B (tCB (rAll K) (tCons ta tNil)) σ G (.bool (bs.all id)) := fun H e Q q =>
  h H e _ fun v G2 H2 X dv => by
    obtain ⟨a, xs, rfl, hs, hx⟩ := dp_lst dv
    rw [dpAll_bls hx] at hs
    exact ⟨a, bs, rfl, ex_l X.ok.e hs, q _ G2 H2 X (.bl _)⟩
theorem ed_listOf {ds : List PyData} (h : EvD K B ta σ G (.list ds)) : EvF K B (tCB (rListS K) (tCons ta tNil)) σ G ds := fun H e Q q =>
  h H e _ fun v G2 H2 X dv => by
    obtain ⟨a, xs, rfl, hs, hx⟩ := dp_lst dv
    refine ⟨a, xs, rfl, .inl (ex_l X.ok.e hs), fun l hl => ?_⟩
    have nb := X.ok.b.ne hl
    exact q l xs G2 _ (X.trans (Ext.loose X.ok hl)) (X.old nb hl) (X.ok.e.off hl) nb upd_same hx
theorem ed_listOfT {ds : List PyData} (h : EvD K B ta σ G (.tuple ds)) : EvF K B (tCB (rListS K) (tCons ta tNil)) σ G ds := fun H e Q q =>
  h H e _ fun v G2 H2 X dv => by
    obtain ⟨a, xs, rfl, hs, hx⟩ := dp_tup dv
    refine ⟨a, xs, rfl, .inr (ex_t X.ok.e hs), fun l hl => ?_⟩
    have nb := X.ok.b.ne hl
    exact q l xs G2 _ (X.trans (Ext.loose X.ok hl)) (X.old nb hl) (X.ok.e.off hl) nb upd_same hx
/-! ### a value that is not told but by what holds of it -/
def RetS (K : Fg) (B : Bg) (G H : Hp) (Q : VK) (S : PyData → Prop) : Prop := ∀ d v G2 H2, S d → Ext K B G H G2 H2 → Dp K G2 v d → Q v H2
def EvS (K : Fg) (B : Bg) (te : TE) (σ : L2.St) (G : Hp) (S : PyData → Prop) : Prop := ∀ H, Ok K B G H → ∀ Q : VK, RetS K B G H Q S → te σ H Q
theorem EvD.toS {S : PyData → Prop} (h : EvD K B te σ G d) (hs : S d) : EvS K B te σ G S := fun H e Q q => h H e Q fun v G2 H2 X dv => q d v G2 H2 hs X dv
theorem EvS.mono {S : PyData → Prop} (e : Ex G G') (c : Cel K B G) (h : EvS K B te σ G S) : EvS K B te σ G' S := fun H eH Q q =>
  h H (eH.less e c) Q fun d v G2 H2 hs X dv => by
    obtain ⟨X2, e2⟩ := X.wide e eH
    exact q d v _ H2 hs X2 (dp_mono e2 dv)
theorem es_op {S1 S2 S : PyData → Prop} (ha : EvS K B ta σ G S1) (hb : EvS K B tb σ G S2) (hr : ∀ x y, S1 x → S2 y → ∃ z, S z ∧ RvD K B r G x y z) : EvS K B (tOp r ta tb) σ G S := fun H e Q q =>
  ha H e _ fun x u G2 H2 s1 X2 d2 => hb.mono X2.gg e.c H2 X2.ok _ fun y v G3 H3 s2 X3 d3 => by
    obtain ⟨z, sz, hr'⟩ := hr x y s1 s2
    exact hr' u v G3 H3 (X2.gg.trans X3.gg) X3.ok (dp_mono X3.gg d2) d3 Q fun w G4 H4 X4 d4 => q z w G4 H4 sz (X2.trans (X3.trans X4)) d4
def EvAS (K : Fg) (B : Bg) (ta : TA) (σ : L2.St) (G : Hp) (S : List PyData → Prop) : Prop := ∀ H, Ok K B G H → ∀ Q : List V → Hp → Prop, (∀ ds vs G2 H2, S ds → Ext K B G H G2 H2 → DpAll K G2 vs ds → Q vs H2) → ta σ H Q
theorem EvAS.mono {S : List PyData → Prop} (e : Ex G G') (c : Cel K B G) (h : EvAS K B tr σ G S) : EvAS K B tr σ G' S := fun H eH Q q =>
  h H (eH.less e c) Q fun d v G2 H2 hs X dv => by
    obtain ⟨X2, e2⟩ := X.wide e eH
    exact q d v _ H2 hs X2 (dpAll_mono e2 dv)
theorem eas_nil {S : List PyData → Prop} (h : S []) : EvAS K B tNil σ G S := fun H e Q q => q [] [] G H h (Ext.refl e) .nil
theorem eas_cons {S1 : PyData → Prop} {S : List PyData → Prop} (ha : EvS K B ta σ G S1) (hr : ∀ d, S1 d → EvAS K B tr σ G (fun ds => S (d :: ds))) : EvAS K B (tCons ta tr) σ G S := fun H e Q q =>
  ha H e _ fun d v G2 H2 s1 X dv => (hr d s1).mono X.gg e.c H2 X.ok _ fun ds vs G3 H3 s2 X3 dvs => q (d :: ds) (v :: vs) G3 H3 s2 (X.trans X3) (.cons (dp_mono X3.gg dv) dvs)
theorem es_lst {S : List PyData → Prop} (h : EvAS K B tr σ G S) (hl : ∀ ds, S ds → ds.length ≤ 100000) : EvS K B (tLst tr) σ G (fun d => ∃ ds, d = .list ds ∧ S ds) := fun H e Q q =>
  h H e _ fun ds vs G2 H2 s X dv => ⟨by rw [dpAll_len dv]; exact sz (hl ds s), fun p hp =>
    q _ _ _ _ ⟨ds, rfl, s⟩ (X.trans (Ext.new X.ok hp)) (.lst (SqL.of upd_same) (dpAll_mono (Ex.new (X.ok.e.off hp)) dv))⟩
variable {D : Ends} {t u : TS}
theorem sq_setS {i : Nat} {S : PyData → Prop} (h : EvS K B te σ G S) (e : Ok K B G H) (k : ∀ d v G2 H2, S d → Ext K B G H G2 H2 → Dp K G2 v d → u D (σ.set i (some v)) H2) : tSeq (tAsg te (gName i)) u D σ H := h H e _ fun d v G2 H2 s X dv => k d v G2 H2 s X dv
/-- a, b = e -/
theorem sq_unpack {n : Nat} {g : TGs} (h : EvD K B te σ G (.tuple ds)) (e : Ok K B G H) (hl : ds.length = n) (k : ∀ vs G2 H2, Ext K B G H G2 H2 → DpAll K G2 vs ds → g vs σ H2 (u D)) : tSeq (tAsg te (gTup K n g)) u D σ H :=
  h H e _ fun v G2 H2 X dv => by
    obtain ⟨a, xs, rfl, hs, hx⟩ := dp_tup dv
    exact ⟨a, xs, rfl, ex_t X.ok.e hs, (dpAll_len hx).trans hl, k xs G2 H2 X hx⟩
end
end Lw

namespace Lw
open PySem.Spec PySem L2 PyProof.Rows
open Evl (Ex Ex.refl Ex.trans Ex.new Ex.off ex_rd ex_l ex_t)
theorem pss_when {X : Cx} {st : List Stmt} {t : TS} {p : Prop} (h : p → PSs X st t) : PSs X st (fun D σ H => p ∧ t D σ H) := ⟨fun pins s σ H D I hw => (h hw.1).run pins s σ H D I hw.2⟩
theorem pss_ex {X : Cx} {st : List Stmt} {α : Type} {t : α → TS} {p : α → Prop} (h : ∀ a, p a → PSs X st (t a)) : PSs X st (fun D σ H => ∃ a, p a ∧ t a D σ H) := ⟨fun pins s σ H D I ⟨a, hp, hw⟩ => (h a hp).run pins s σ H D I hw⟩
section
variable {K : Fg} {B : Bg} {σ : L2.St} {G G' H : Hp} {te ta tb tc : TE} {tt tu : TT} {tr : TA} {d x y z : PyData} {ds es : List PyData} {r r' : R2} {b c : Bool} {D : Ends} {t u : TS}
/-- the ends of a loop's turn -/
def lpE (D : Ends) (u : TS) (N : L2.St → Hp → Prop) : Ends := { D with nx := N, ct := N, bk := u D }
/-- for x in xs, a list -/
theorem sq_forL {i : Nat} {Pv : Nat → L2.St → Hp → Hp → Prop} (h : EvD K B te σ G (.list ds)) (e : Ok K B G H) (h0 : ∀ G2 H2, Ext K B G H G2 H2 → Pv 0 σ G2 H2)
    (hs : ∀ G1 H1, Ext K B G H G1 H1 → ∀ (j : Nat) d v σ' G' H', ds[j]? = some d → Ext K B G1 H1 G' H' → Pv j σ' G' H' → Dp K G' v d →
      t (lpE D u fun σ2 H2 => ∃ G2, Ext K B G1 H1 G2 H2 ∧ Pv (j + 1) σ2 G2 H2) (σ'.set i (some v)) H')
    (hd : ∀ σ' G' H', Ext K B G H G' H' → Pv ds.length σ' G' H' → u D σ' H') : tSeq (tFor (iList K te) (gName i) t) u D σ H :=
  h H e _ fun v G1 H1 X dv => by
    obtain ⟨a, xs, rfl, hl, hx⟩ := dp_lst dv
    refine ⟨a, rfl, ⟨xs, ex_l X.ok.e hl⟩, for_list (K := K) (a := a) (xs := xs) (fun j σ' H' => ∃ G', Ext K B G1 H1 G' H' ∧ Pv j σ' G' H') ⟨G1, Ext.refl X.ok, h0 G1 H1 X⟩ ?_ ?_ ?_⟩
    · rintro j σ' H' _ ⟨G', X', _⟩
      exact ex_l (X'.gg.trans X'.ok.e) hl
    · rintro j y σ' H' hj ⟨G', X', p⟩
      obtain ⟨d, hd', dy⟩ := dpAll_at hx hj
      exact hs G1 H1 X j d y σ' G' H' hd' X' p (dp_mono X'.gg dy)
    · rintro σ' H' ⟨G', X', p⟩
      rw [dpAll_len hx] at p
      exact hd σ' G' H' (X.trans X') p
/-- for x in range(n) -/
theorem sq_forR {i n : Nat} {Pv : Nat → L2.St → Hp → Hp → Prop} (h : EvA K B tr σ G [.int (n : Int)]) (hn : n ≤ 100000) (e : Ok K B G H) (h0 : ∀ G2 H2, Ext K B G H G2 H2 → Pv 0 σ G2 H2)
    (hs : ∀ G1 H1, Ext K B G H G1 H1 → ∀ (j : Nat) σ' G' H', j < n → Ext K B G1 H1 G' H' → Pv j σ' G' H' →
      t (lpE D u fun σ2 H2 => ∃ G2, Ext K B G1 H1 G2 H2 ∧ Pv (j + 1) σ2 G2 H2) (σ'.set i (some (.int (j : Int)))) H')
    (hd : ∀ σ' G' H', Ext K B G H G' H' → Pv n σ' G' H' → u D σ' H') : tSeq (tFor (iRng1 tr) (gName i) t) u D σ H :=
  h H e _ fun vs G1 H1 X dv => by
    have ev : vs = [.int (n : Int)] := dpAll_intsV (bs := [(n : Int)]) dv
    refine ⟨(n : Int), ev, by omega, by omega, for_range (lo := 0) (n := (n : Int).toNat) (fun j σ' H' => ∃ G', Ext K B G1 H1 G' H' ∧ Pv j σ' G' H') ⟨G1, Ext.refl X.ok, h0 G1 H1 X⟩ ?_ ?_⟩
    · rintro j σ' H' hj ⟨G', X', p⟩
      have ez : (0 : Int) + (j : Int) = (j : Int) := by omega
      have z := hs G1 H1 X j σ' G' H' (by omega) X' p
      rw [← ez] at z
      exact z
    · rintro σ' H' ⟨G', X', p⟩
      rw [Int.toNat_natCast] at p
      exact hd σ' G' H' (X.trans X') p
theorem eas_of {S : List PyData → Prop} (h : EvA K B tr σ G ds) (hs : S ds) : EvAS K B tr σ G S := fun H e Q q => h H e Q fun vs G2 H2 X dv => q ds vs G2 H2 hs X dv
theorem es_is {S S' : PyData → Prop} (h : EvS K B te σ G S) (hs : ∀ d, S d → S' d) : EvS K B te σ G S' := fun H e Q q => h H e Q fun d v G2 H2 s X dv => q d v G2 H2 (hs d s) X dv
theorem lg {u : Int} (h0 : 0 < u) (h : u < 2 ^ 250) : u.natAbs.log2 < 9000 := Nat.lt_of_lt_of_le (PySem.Flt.log2_lt_of (k := 250) (by decide) (by omega)) (by decide)
theorem ed_isF (h : EvF K B te σ G ds) (e : ds = es) : EvF K B te σ G es := e ▸ h
theorem sq_ifN {w : TS} (h : EvB K B tt σ G b) (e : Ok K B G H) (k1 : b = true → ∀ G2 H2, Ext K B G H G2 H2 → t { D with nx := w D } σ H2) (k2 : b = false → ∀ G2 H2, Ext K B G H G2 H2 → w D σ H2) : tSeq (tIfS tt t tNext) w D σ H := st_if h e k1 k2
theorem st_ifD {b : Bool} (h : EvB K B tt σ G b) (e : Ok K B G H) (k : b = true → ∀ G2 H2, Ext K B G H G2 H2 → t D σ H2) (k2 : b = false → ∀ G2 H2, Ext K B G H G2 H2 → D.nx σ H2) : tIfS tt t tNext D σ H := st_if h e k k2
/-- a list of the same item, [x] * n -/
theorem rd_rep {n : Nat} (hl : ds.length * n ≤ 100000) (hn : n ≤ 100000) : ∀ {te : TE} {tb : TE}, EvF K B te σ G ds → EvD K B tb σ G (.int (n : Int)) → EvF K B (tOp rRep te tb) σ G (List.replicate n ds).flatten := fun {te tb} ha hb H e Q q =>
  ha H e _ fun p xs G2 H2 X hp hg nb h2 a => hb.mono X.gg e.c H2 X.ok _ fun v G3 H3 X3 d3 => by
    have h3 := X3.hh p _ nb h2
    refine ⟨p, (n : Int), xs, rfl, dp_int d3, h3, by omega, by omega, ?_, fun l hl2 => ?_⟩
    · rw [dpAll_len a, Int.toNat_natCast]
      exact sz hl
    · have Y := X.trans X3
      have nb2 := Y.ok.b.ne hl2
      refine q l _ G3 _ (Y.trans (Ext.loose Y.ok hl2)) (Y.old nb2 hl2) (Y.ok.e.off hl2) nb2 upd_same ?_
      rw [Int.toNat_natCast]
      have key : ∀ n : Nat, DpAll K G3 (List.replicate n xs).flatten (List.replicate n ds).flatten := fun n => by
        induction n with
        | zero => exact .nil
        | succ n ih =>
          simp only [List.replicate_succ, List.flatten_cons]
          exact dpAll_app (dpAll_mono X3.gg a) ih
      exact key n
theorem ed_callN {n m : Nat} {sp : Sp} {gV : List V → List V → List V} {E : XK} {tk : TA} (ha : EvA K B tr σ G ds) (hk : EvA K B tk σ G es) (hn : ds.length = n) (hm : es.length = m)
    (hs : ∀ vs zs G2 H2, Ex G G2 → Ok K B G2 H2 → DpAll K G2 vs ds → DpAll K G2 zs es → ∀ Q, Ret K B G2 H2 Q d → sp (gV vs zs) H2 Q E) : EvD K B (tCallN n m sp gV E tr tk) σ G d := fun H e Q q =>
  ha H e _ fun vs G2 H2 X dv => hk.mono X.gg e.c H2 X.ok _ fun zs G3 H3 X3 dz =>
    ⟨(dpAll_len dv).trans hn, (dpAll_len dz).trans hm, hs vs zs G3 H3 (X.gg.trans X3.gg) X3.ok (dpAll_mono X3.gg dv) dz Q ((q.mono X).mono X3)⟩
end
end Lw

namespace Lw
open PySem.Spec PySem L2 PyProof.Rows
open Evl (Ex Ex.refl Ex.trans Ex.new Ex.off ex_rd ex_l ex_t)
section
variable {s : Shared} {prog : Program} {w : World} {A : Around} {E : Value → Shared → Prop}
/-! ### sorted of tuples of ints, of any length, any number of them -/
theorem kat_lexL {b : Bool} {Q : Bool → Shared → Prop} : ∀ {xs ys : List Value} {ns ms : List Int} (i : Nat), IntsAre xs ns → IntsAre ys ms → Q (HT.lexLt ns ms) s →
    PySem.W.KatLex prog w A b (decide (ns.length < ms.length)) Q (xs.zip ys) i s
  | _, _, _, _, _, .nil, .nil, h => PySem.W.kat_nil h
  | _, _, _, _, _, .nil, .cons (ns := ms) _ _ _, h => PySem.W.kat_nil (by
    rw [show decide (([] : List Int).length < (_ :: ms).length) = true from decide_eq_true (Nat.succ_pos _)]
    exact h)
  | _, _, _, _, _, .cons (ns := ns) _ _ _, .nil, h => PySem.W.kat_nil (by
    rw [show decide ((_ :: ns).length < ([] : List Int).length) = false from decide_eq_false (Nat.not_lt_zero _)]
    exact h)
  | _, _, _, _, i, .cons (ns := ns) p t hx, .cons (ns := ms) q u hy, h => by
    have e0 : decide ((p :: ns).length < (q :: ms).length) = decide (ns.length < ms.length) := decide_eq_decide.mpr ⟨Nat.lt_of_succ_lt_succ, Nat.succ_lt_succ⟩
    rw [e0]
    rw [HT.lexLt_cons] at h
    refine PySem.W.kat_cons ?_
    refine wpAny_eqBool_int ?_
    by_cases c : p = q
    · rw [if_pos c] at h
      rw [show (p == q) = true from beq_iff_eq.mpr c]
      exact PySem.W.kat_yes (kat_lexL (i + 1) hx hy h)
    · rw [if_neg c] at h
      rw [show (p == q) = false from beq_eq_false_iff_ne.mpr c]
      exact PySem.W.kat_no (TS.oneLt_ints _ h)
theorem kat_first {h : Heap} {k : Value → List Int} : ∀ {vs : List Value}, (∀ v ∈ vs, TS.TupInts h v (k v) ∧ k v ≠ []) → ∃ fs, PySem.W.KatTups h vs fs ∧ fs.length = vs.length ∧ ∀ f ∈ fs, ∃ n t, f = Value.int n t
  | [], _ => ⟨[], .nil, rfl, fun _ hm => by cases hm⟩
  | v :: vs, hp => by
    obtain ⟨fs, h1, h2, h3⟩ := kat_first (vs := vs) fun u hu => hp u (List.mem_cons_of_mem _ hu)
    obtain ⟨⟨a, xs, e, ⟨o, ho, hc, n, hd⟩, hi⟩, hn⟩ := hp v List.mem_cons_self
    generalize k v = ns at hi hn
    subst e
    cases q : xs.toList with
    | nil =>
      rw [q] at hi
      cases hi
      exact absurd rfl hn
    | cons y ys =>
      rw [q] at hi
      cases hi with
      | cons m t hr =>
        refine ⟨.int m t :: fs, .cons ho hc hd ?_ h1, congrArg Nat.succ h2, fun f hf => ?_⟩
        · rw [← Array.getElem?_toList, q]
          rfl
        · cases hf with
          | head => exact ⟨m, t, rfl⟩
          | tail _ hf => exact h3 f hf
theorem sortable_lexL {a : Addr} {vs : List Value} {k : Value → List Int} (h0 : 0 < vs.length) (hp : ∀ v ∈ vs, TS.TupInts s.heap v (k v) ∧ k v ≠ []) (ha : ∀ o, s.heap.get? a = some o → o.cls ≠ .type "tuple") :
    SrtO.SortableO prog w A s a vs fun v u => HT.lexLt (k v) (k u) := fun h' keep => by
  have hp' : ∀ v ∈ vs, TS.TupInts h' v (k v) ∧ k v ≠ [] := fun v hv => ⟨(hp v hv).1.keeps fun b o e c => keep b o (fun z => ha o (by rw [← z]; exact e) c) e, (hp v hv).2⟩
  obtain ⟨fs, h1, h2, h3⟩ := kat_first hp'
  refine ⟨tuples' true, fun Q E hq => PySem.W.kat_kind (T := .type "int") h1 (by omega) (fun f hf => ?_) rfl hq, fun p q hm hm' => ?_⟩
  · exact (h3 f hf).elim fun n z => z.elim fun t e => e ▸ PySem.W.Looks.of_pure rfl
  · obtain ⟨b, xs, e1, ⟨o, ho, hc, n, hd⟩, i1⟩ := (hp' _ hm).1
    obtain ⟨b', ys, e2, ⟨o', ho', hc', n', hd'⟩, i2⟩ := (hp' _ hm').1
    show wpAny _ _ (keyLt' (tuples' true) p.1 q.1) (fun r s' => s' = _ ∧ r = HT.lexLt (k p.1) (k q.1)) _ _
    rw [e1, e2] at *
    have l1 := (Array.length_toList (xs := xs)).symm.trans i1.length
    have l2 := (Array.length_toList (xs := ys)).symm.trans i2.length
    exact PySem.W.kat_lt ho hd ho' hd' (by rw [l1, l2]; exact kat_lexL 0 i1 i2 ⟨rfl, rfl⟩)
end
/-- sorted(xs), xs a list of tuples of ints (ks: where each stands, and its ints): a new list of them, rising -/
def rSortedL (K : Fg) : List V → Hp → VK → Prop := fun vs H Q => ∃ (a : Addr) (ks : List (Addr × List Int)), vs = [V.ref a] ∧ SqL K H a (ks.map fun p => V.ref p.1) ∧ (∀ p ∈ ks, SqT K H p.1 (p.2.map V.int) ∧ p.2 ≠ []) ∧
  ∀ (L : List (Addr × List Int)) (p : Addr), L.Perm ks → L.Pairwise (fun x y => HT.lexLt y.2 x.2 = false) → H p = none → Q (.ref p) (upd H p (.lst (L.map fun q => V.ref q.1)))
def adrV : Value → Addr
  | .ref a => a
  | _ => 0
theorem refs_vals : ∀ {ks : List (Addr × List Int)} {us : List Value}, Vals (ks.map fun p => V.ref p.1) us → us = ks.map fun p => Value.ref p.1
  | [], _, .nil => rfl
  | p :: ks, _, .cons r t => by
    obtain rfl := (show _ = Value.ref p.1 from r)
    rw [refs_vals t]
    rfl
theorem vals_refs : ∀ ks : List (Addr × List Int), Vals (ks.map fun p => V.ref p.1) (ks.map fun p => Value.ref p.1)
  | [] => .nil
  | p :: ks => .cons (show RelV (.ref p.1) (.ref p.1) from rfl) (vals_refs ks)
theorem cr_sortedL {X : Cx} : CallR X (.builtin "sorted") (rSortedL X.K) := by
  rintro pins s σ H _ us Q I r ⟨a, ks, rfl, hs, hx, q⟩
  rcases I.list hs with ⟨its, rv, hl, hz⟩
  rw [Vals.ref1 r]
  have ei := refs_vals rv
  have hT : ∀ p ∈ ks, TS.TupInts s.heap (.ref p.1) p.2 := fun p hp => by
    obtain ⟨ys, ry, ht, _⟩ := I.tuple (hx p hp).1
    exact ⟨p.1, ys.toArray, rfl, ht, ry.ints⟩
  have hk : ∀ p ∈ ks, TS.intsOf s.heap (.ref p.1) = p.2 := fun p hp => (hT p hp).ints
  refine SrtO.sorted_ord (NtL.swo_lexL (TS.intsOf s.heap)) hl.isList (by rw [← rv.length]; exact hz) (fun h2 h₁ a' ha kk => ?_) fun out h1 h2 => ?_
  · refine sortable_lexL (s := { s with heap := h₁ }) (by omega) (fun v hv => ?_) fun o e c => ?_
    · rw [ei] at hv
      obtain ⟨p, hp, rfl⟩ := List.mem_map.mp hv
      rw [hk p hp]
      exact ⟨(hT p hp).keeps fun b o e _ => (kk b o e).2, (hx p hp).2⟩
    · have e' : some o = some (seqObj "list" its.toArray 0) := e.symm.trans ha
      cases e'
      exact (by decide : ("list" : String) ≠ "tuple") (Value.type.inj c)
  · obtain ⟨ep, he⟩ := PyProof.Rows.sortedAll_at s.heap its out.toArray
    have pm : (out.map fun v => (adrV v, TS.intsOf s.heap v)).Perm ks := by
      have z := h2.perm.map fun v => (adrV v, TS.intsOf s.heap v)
      rw [ei, List.map_map] at z
      have e0 : ks.map ((fun v => (adrV v, TS.intsOf s.heap v)) ∘ fun p => Value.ref p.1) = ks := by
        refine (List.map_congr_left fun p hp => ?_).trans (List.map_id ks)
        show (p.1, TS.intsOf s.heap (.ref p.1)) = p
        rw [hk p hp]
      rw [e0] at z
      exact z
    have eo : (out.map fun v => (adrV v, TS.intsOf s.heap v)).map (fun p => Value.ref p.1) = out := by
      rw [List.map_map]
      refine (List.map_congr_left fun v hv => ?_).trans (List.map_id out)
      have hv' := h2.perm.mem_iff.mp hv
      rw [ei] at hv'
      obtain ⟨p, _, rfl⟩ := List.mem_map.mp hv'
      rfl
    have pw : (out.map fun v => (adrV v, TS.intsOf s.heap v)).Pairwise fun x y => HT.lexLt y.2 x.2 = false := List.pairwise_map.mpr h1
    generalize (out.map fun v => (adrV v, TS.intsOf s.heap v)) = L at pm eo pw
    have rl := vals_refs L
    rw [eo] at rl
    have hlen : (L.map fun p => V.ref p.1).length ≤ sizeLine := by
      rw [List.length_map, pm.length_eq]
      rw [List.length_map] at hz
      exact hz
    exact ⟨.ref _, upd H (s.heap.objs.size + 1) (.lst (L.map fun p => V.ref p.1)), I.laid (t' := s.toks) (fun _ _ => PyProof.Rows.sortedAll_old) (Nat.le_succ _) ⟨hlen, out, ep, rl, he⟩, rfl, q L _ pm pw (I.hok.fresh (Nat.le_succ _))⟩
end Lw

namespace Lw
open PySem.Spec PySem L2 PyProof.Rows
open Evl (Ex Ex.refl Ex.trans Ex.new Ex.off ex_rd ex_l ex_t)
/-- an empty set, as it is made -/
abbrev fsO (w : World) : Obj := { cls := .type "set", dict := none, data := .set #[] 0 (.fresh 0 0 (!w.params.followText "set-order")) }
section
variable {s : Shared} {P : Program} {w : World} {A : Around} {E : Value → Shared → Prop}
/-- set(xs), a list of ints -/
theorem set_of_list {l : Addr} {its : Array Value} (ns : List Int) {Q : Value → Shared → Prop} (hh : A.handled = none) (hl : s.heap.IsList l its) (hi : IntsAre its.toList ns) (hb : ns.length + 1 < scanBound)
    (k : ∀ (h' : Heap) (tk c : Nat), SetR w h' s.heap.objs.size (fun j => decide (j ∈ ns)) c → c ≤ ns.length → (∀ b o, s.heap.get? b = some o → h'.get? b = some o) → Q (.ref s.heap.objs.size) { s with heap := h', toks := tk }) : wpAny (model P w) A (call (.type "set") [.ref l]) Q E s := by
  have sz : its.size = ns.length := (Array.length_toList (xs := its)).symm.trans hi.length
  obtain ⟨mc, ml, mro⟩ := F.called_set.mro
  have made := F.called_set.made
  have sub := F.called_set.sub
  have nT := F.called_set.notType
  have cC := F.called_set.canCreate
  have tc := F.typeCall_set_1 (.ref l)
  refine wpAny_call (codeAny_of_tree (show wpAny _ _ (callAny (.type "set") _) _ _ _ from wpAny_pure ⟨Code.quiet_builtin _ (by decide +kernel), codeAny_builtin F.entry_type_call ?_⟩))
  have light := weight_type_call_type "set" [.ref l] []
  rw [Around.under_plain light rfl]
  repeat any_goals first | assumption | wp_step
  refine codeAny_mono (code_set_led1 (.ref l) (E := E) (Q₁ := fun v s₁ => v = .ref s.heap.objs.size ∧ s₁ = { s with heap := s.heap.push (fsO w) }) ⟨rfl, rfl⟩) fun r s₁ hr => ?_
  cases r with
  | error e => exact hr
  | ok fl =>
    cases fl with
    | ret v =>
      obtain ⟨rfl, rfl⟩ := hr
      have at0 : (s.heap.push (fsO w)).get? s.heap.objs.size = some (fsO w) := Heap.get?_push_size _ rfl
      have ty0 : Shared.TypeIs { s with heap := s.heap.push (fsO w) } (.ref s.heap.objs.size) "set" := ⟨_, at0, rfl⟩
      have li := F.called_set.init.lookup
      have bi := F.called_set.init.bind (.ref s.heap.objs.size)
      repeat any_goals first | assumption | wp_step
      refine codeAny_mono (codeAny_call_builtin (R := wants (fun r s₂ => r = .none ∧ ∃ h' tk c, s₂ = { s with heap := h', toks := tk } ∧ SetR w h' s.heap.objs.size (fun j => decide (j ∈ ns)) c ∧ c ≤ ns.length ∧ ∀ b o, s.heap.get? b = some o → h'.get? b = some o) E)
        F.called_set.init.plain F.entry_set_init (check_set_init_1 ty0 ?_)) fun r₂ s₂ hr₂ => ?_
      · obtain ⟨⟨oc, od, ot, os⟩, ho, rfl, n, rfl⟩ := hl
        have ho1 : (s.heap.push (fsO w)).get? l = some ⟨.type "list", od, .seq its n, os⟩ := Heap.get?_push_of_some _ ho
        have l1 : (s.heap.push (fsO w)).IsList l its := ⟨_, ho1, rfl, n, rfl⟩
        have ls := F.sub_list_set
        have lf := F.sub_list_frozenset
        have nd : (Value.type "list" == Value.type "dict") = false := by decide
        have lt : l < s.heap.objs.size := Heap.lt_size ho
        have z1 : (s.heap.push (fsO w)).objs.size = s.heap.objs.size + 1 := Heap.size_push ..
        have h3 : A.in1.in1.in1.handled = none := by simp [hh]
        unfold Builtin.«set.__init__»
        unfold noKeywords Builtin.Frozenset.updateFrom
        generalize eI : pyIter = PI
        wp_walk
        subst eI
        refine wpAny_pyIter_list l1 (wpAny_bind (wpAny_runValue ?_))
        have nI : l ≠ (s.heap.push (fsO w)).objs.size := by rw [z1]; exact Nat.ne_of_lt (Nat.lt_succ_of_lt lt)
        have nf : s.heap.objs.size ∉ [(s.heap.push (fsO w)).objs.size, l] := by
          rw [z1]
          intro m
          rcases List.mem_cons.mp m with e | m
          · exact absurd e (Nat.ne_of_lt (Nat.lt_succ_self _))
          · exact absurd (List.mem_singleton.mp m) (Nat.ne_of_gt lt)
        refine set_update_ints ((Walks.list h3 _ l nI its).toS) s.heap.objs.size nf ns sz hb (fun i v hv => ?_) (its.size - 0) 0 _ (by omega) (Nat.zero_le _)
          ⟨⟨_, Heap.get?_push_size _ rfl, rfl, rfl⟩, l1.push _⟩ ⟨0, Nat.le_refl 0, setR_new_at (Heap.get?_push_of_some _ at0)⟩ fun s' c' hm hc' hS' => ?_
        · have lt2 : i < ns.length := by rw [← sz]; exact (Array.getElem?_eq_some_iff.mp hv).1
          obtain ⟨t, e⟩ := PyProof.Rows.IntsAre.int_at hi i v ((Array.getElem?_toList ..).trans hv)
          refine ⟨ns[i], t, List.getElem?_eq_getElem lt2, e.trans ?_⟩
          rw [List.getD_eq_getElem?_getD, List.getElem?_eq_getElem lt2] <;> rfl
        · obtain ⟨h', g2, d2, t2, o2⟩ := s'
          obtain rfl : g2 = s.gens := hm.gens
          obtain rfl : d2 = s.drawn := hm.drawn
          obtain rfl : o2 = s.os := hm.os
          show wpAny _ _ _ _ _ _
          refine wpAny_pure (show wpAny _ _ (ret Value.none) _ _ _ from wpAny_pure ⟨rfl, h', t2, c', rfl, hS', by rw [← sz]; exact hc', fun b o e => ?_⟩)
          have lb : b < s.heap.objs.size := Heap.lt_size e
          refine hm.heap b o (fun m => ?_) (Heap.get?_push_of_some _ (Heap.get?_push_of_some _ e))
          rcases List.mem_cons.mp m with e | m
          · exact absurd e (Nat.ne_of_lt lb)
          · have e := List.mem_singleton.mp m
            rw [z1] at e
            exact absurd e (Nat.ne_of_lt (Nat.lt_succ_of_lt lb))
      · cases r₂ with
        | error e => exact hr₂
        | ok fl₂ =>
          cases fl₂ with
          | ret r =>
            rcases hr₂ with ⟨rfl, h', tk, c', rfl, hS', hc', hk'⟩
            repeat any_goals first | assumption | wp_step
            exact k _ _ _ hS' hc' hk'
          | _ => exact hr₂.elim
    | _ => exact hr.elim
/-- sorted(set of ints), any number -/
theorem sorted_of_set {a : Addr} {S : Int → Bool} {n : Nat} {Q : Value → Shared → Prop} (R : SetR w s.heap a S n) (hh : A.handled = none)
    (k : ∀ s' p (out : List Value) (c : Nat) (ns : List Int), (∀ b o, s.heap.get? b = some o → s'.heap.get? b = some o) → s'.gens = s.gens → s'.os = s.os → s.heap.objs.size ≤ p →
      s'.heap.get? p = some (seqObj "list" out.toArray c) → IntsAre out ns → ns.Pairwise (· < ·) → (∀ j, j ∈ ns ↔ S j = true) → ns.length = n → Q (.ref p) s') : wpAny (model P w) A (call (.builtin "sorted") [.ref a]) Q E s := by
  obtain ⟨o, es, ep, t, ho, hx, hd, ge, nd, hm, hb, hf, hn, ri, ld⟩ := R
  refine Calls.call_function_entry kind_sorted plain_sorted entry_sorted (args_sorted1 (.ref a)) ?_
  unfold Builtin.«sorted»
  refine wpAny_bind (m := checkCount "sorted" 1 1 _) (wpAny_pure (wpAny_bind (collect_set (A := A.in1) hh ⟨o, ho, hx.1, hd⟩ hf hb ri ld fun s1 vs k1 z1 g1 o1 pm => ?_)))
  have lv : vs.length = n := by
    rw [pm.length_eq, List.length_map, Array.length_toList]
    exact hn
  have iv : IntsAre vs (vs.map SrtO.iv) := SrtO.ints_iv fun v hv => by
    rcases List.mem_map.mp (pm.mem_iff.mp hv) with ⟨e, he, q⟩
    obtain ⟨j, tk, h1, _⟩ := ge e he
    exact ⟨j, tk, q.symm.trans h1⟩
  have pk : (vs.map SrtO.iv).Perm (es.toList.map keyOf) := by
    have q := pm.map SrtO.iv
    rw [List.map_map] at q
    have e0 : es.toList.map (SrtO.iv ∘ fun e => e.2) = es.toList.map keyOf := List.map_congr_left fun e he => by
      obtain ⟨j, tk, h1, _⟩ := ge e he
      show SrtO.iv e.2 = keyOf e
      unfold keyOf
      rw [h1]
      rfl
    rw [← e0]
    exact q
  have zl : vs.length ≤ sizeLine := by
    rw [lv, ← hn]
    exact fits_of_scanBound hb
  refine wpAny_bind (wpAny_newList ?_ zl)
  have oL : (s1.heap.push (seqObj "list" vs.toArray 0)).get? s1.heap.objs.size = some (seqObj "list" vs.toArray 0) := Heap.get?_push_size _ rfl
  refine wpAny_bind (wpAny_holding (wpAny_call_entry slot_list_sort ⟨_, oL, rfl⟩ entry_list_sort (SrtO.list_sort_ord SrtO.swo_int oL zl (fun h2 => SrtO.ints_sortable iv h2) fun out q1 q2 => ⟨_, rfl, ?_⟩) (args_list_sort _)))
  obtain ⟨c, hc⟩ := sortedHeap_at (vs := vs) (out := out.toArray) oL
  obtain ⟨i1, i2, i3⟩ := SrtO.ints_out iv q1 q2
  have pn := i2.trans pk
  refine wpAny_pure ⟨_, rfl, k _ s1.heap.objs.size out c _ (fun b u e => ?_) g1 o1 z1 hc i1 (lt_of_le_nodup _ i3 (pn.nodup_iff.mpr nd)) (fun j => by rw [pn.mem_iff, ← hm j]) ?_⟩
  · have q := k1 b u e
    have lt := Heap.lt_size q
    show (sortedHeap (s1.heap.push (seqObj "list" vs.toArray 0)) s1.heap.objs.size vs out.toArray).get? b = some u
    rw [sortedHeap_old (Nat.ne_of_lt lt) (by rw [size_push']; exact Nat.lt_succ_of_lt lt)]
    exact Heap.get?_push_of_some (seqObj "list" vs.toArray 0) q
  · rw [pn.length_eq, List.length_map, Array.length_toList]
    exact hn
end
def rSetI (K : Fg) (w : World) : List V → Hp → VK → Prop := fun xs H Q => ∃ (a : Addr) (ns : List Int), xs = [V.ref a] ∧ SqL K H a (ns.map V.int) ∧ ns.length < 4000 ∧ ∀ p n, H p = none → n ≤ ns.length → Q (.ref p) (upd H p (SetO w p (fun j => decide (j ∈ ns)) n))
def rSortI1 (w : World) : List V → Hp → VK → Prop := fun xs H Q => ∃ (a : Addr) (S : Int → Bool) (n : Nat), xs = [V.ref a] ∧ H a = some (SetO w a S n) ∧ n < 4000 ∧
  ∀ (ns : List Int) (p : Addr), ns.Pairwise (· < ·) → (∀ j : Int, j ∈ ns ↔ S j = true) → ns.length = n → H p = none → Q (.ref p) (upd H p (.lst (ns.map V.int)))
section
variable {X : Cx}
theorem cr_setI (hc : X.calm = true) : CallR X (.type "set") (rSetI X.K X.w) := by
  rintro pins s σ H _ us Q I r ⟨a, ns, rfl, hs, hl, q⟩
  rw [Vals.ref1 r]
  obtain ⟨its, rv, pl, _⟩ := I.list hs
  refine set_of_list (P := X.prog) (w := X.w) ns (I.ok.hd hc) pl.isList rv.ints (by show ns.length + 1 < 4096; omega) fun h' tk c R hc' kp => ?_
  exact ⟨.ref _, upd H s.heap.objs.size (SetO X.w s.heap.objs.size (fun j => decide (j ∈ ns)) c), I.laid (t' := tk) kp (Nat.le_refl _) (setO_new R), rfl, q _ c (I.hok.fresh (Nat.le_refl _)) hc'⟩
theorem cr_sortI1 (hc : X.calm = true) : CallR X (.builtin "sorted") (rSortI1 X.w) := by
  rintro pins s σ H _ us Q I r ⟨a, S, n, rfl, ha, hl, q⟩
  rw [Vals.ref1 r]
  refine sorted_of_set (setO_get I ha) (I.ok.hd hc) fun s' p out c ns k g o hp hg hi hs hm hn => ?_
  have zl : (ns.map V.int).length ≤ sizeLine := by
    rw [List.length_map, hn]
    exact Nat.le_trans (Nat.le_of_lt hl) (by decide)
  have hf : H p = none := I.hok.fresh hp
  have J : Inv X pins σ (upd H p (.lst (ns.map V.int))) { s with toks := s'.toks, drawn := s'.drawn, gens := s'.gens, heap := s'.heap } := I.call (ch := []) (Un.laid k hp hf) (I.hok.laid k hp ⟨zl, out, c, vals_of_ints hi, hg⟩) (by rw [g]; exact I.bare) (fun _ z => nomatch z)
  rcases s' with ⟨h', g', d', t', o'⟩
  obtain rfl := o
  exact ⟨.ref p, _, J, rfl, q ns p hs hm hn hf⟩
end
end Lw

namespace Lw
open PySem.Spec PySem L2 PyProof.Rows
open Evl (Ex Ex.refl Ex.trans Ex.new Ex.off ex_rd ex_l ex_t)
/-! ### tuples of ints as data -/
def encT (ns : List Int) : PyData := .tuple (ns.map .int)
def ltL (x y : List Int) : Bool := HT.lexLt x y
def leL (x y : List Int) : Bool := !HT.lexLt y x
def srtL (ls : List (List Int)) : List (List Int) := ls.mergeSort leL
theorem lex_anti : ∀ x y : List Int, HT.lexLt x y = false → HT.lexLt y x = false → x = y
  | [], [], _, _ => rfl
  | [], _ :: _, h, _ => by
    rw [HT.lexLt_nil_cons] at h
    cases h
  | _ :: _, [], _, h => by
    rw [HT.lexLt_nil_cons] at h
    cases h
  | a :: x, b :: y, h1, h2 => by
    rw [HT.lexLt_cons] at h1 h2
    by_cases c : a = b
    · rw [if_pos c] at h1
      rw [if_pos c.symm] at h2
      rw [c, lex_anti x y h1 h2]
    · rw [if_neg c] at h1
      rw [if_neg fun e => c e.symm] at h2
      have := of_decide_eq_false h1
      have := of_decide_eq_false h2
      omega
theorem leL_iff {x y : List Int} : leL x y = true ↔ HT.lexLt y x = false := by
  unfold leL
  cases HT.lexLt y x <;> simp
theorem leL_trans (a b c : List Int) (h1 : leL a b = true) (h2 : leL b c = true) : leL a c = true := leL_iff.mpr (NtL.lex_tr a b c (leL_iff.mp h1) (leL_iff.mp h2))
theorem leL_total (a b : List Int) : (leL a b || leL b a) = true := by
  unfold leL
  cases h : HT.lexLt b a with
  | false => rfl
  | true =>
    rw [NtL.lex_asym b a h]
    rfl
theorem srtL_perm (ls : List (List Int)) : (srtL ls).Perm ls := List.mergeSort_perm ls leL
theorem srtL_srt (ls : List (List Int)) : (srtL ls).Pairwise fun x y => HT.lexLt y x = false := (List.pairwise_mergeSort leL_trans leL_total ls).imp fun h => leL_iff.mp h
theorem srtL_uniq {ls ms : List (List Int)} (p : ms.Perm ls) (h : ms.Pairwise fun x y => HT.lexLt y x = false) : ms = srtL ls :=
  List.Perm.eq_of_pairwise (fun a b _ _ h1 h2 => lex_anti a b h2 h1) h (srtL_srt ls) (p.trans (srtL_perm ls).symm)
section
variable {K : Fg} {B : Bg} {σ : L2.St} {G G' H : Hp} {te ta tb tc : TE} {tt tu : TT} {tr : TA} {d x y z : PyData} {ds es : List PyData} {r r' : R2} {b c : Bool} {D : Ends} {t u : TS}
theorem dp_enc {v : V} {ns : List Int} (h : Dp K G v (encT ns)) : ∃ a, v = .ref a ∧ SqT K G a (ns.map V.int) := by
  obtain ⟨a, xs, e, hs, hx⟩ := dp_tup h
  rw [dpAll_intsV hx] at hs
  exact ⟨a, e, hs⟩
theorem dp_encs : ∀ {vs : List V} {ls : List (List Int)}, DpAll K G vs (ls.map encT) → ∃ ks : List (Addr × List Int), vs = ks.map (fun p => V.ref p.1) ∧ ks.map (·.2) = ls ∧ ∀ p ∈ ks, SqT K G p.1 (p.2.map V.int)
  | _, [], .nil => ⟨[], rfl, rfl, fun _ h => by cases h⟩
  | _, l :: ls, .cons h a => by
    obtain ⟨p, e, hs⟩ := dp_enc h
    obtain ⟨ks, e1, e2, hk⟩ := dp_encs a
    refine ⟨(p, l) :: ks, by rw [e, e1]; rfl, by rw [← e2]; rfl, fun q hq => ?_⟩
    cases hq with
    | head => exact hs
    | tail _ hq => exact hk q hq
theorem encs_dp : ∀ {ks : List (Addr × List Int)}, (∀ p ∈ ks, SqT K G p.1 (p.2.map V.int)) → DpAll K G (ks.map fun p => V.ref p.1) ((ks.map (·.2)).map encT)
  | [], _ => .nil
  | p :: ks, h => .cons (.tup (h p List.mem_cons_self) (dpAll_ints p.2)) (encs_dp fun q hq => h q (List.mem_cons_of_mem _ hq))
/-- sorted(xs), tuples of ints -/
theorem ef_sorted {ls : List (List Int)} (h : EvD K B ta σ G (.list (ls.map encT))) (hn : ∀ l ∈ ls, l ≠ []) : EvF K B (tCB (rSortedL K) (tCons ta tNil)) σ G ((srtL ls).map encT) := fun H e Q q =>
  h H e _ fun v G2 H2 X dv => by
    obtain ⟨a, xs, rfl, hs, hx⟩ := dp_lst dv
    obtain ⟨ks, rfl, rfl, hk⟩ := dp_encs hx
    refine ⟨a, ks, rfl, ex_l X.ok.e hs, fun p hp => ⟨ex_t X.ok.e (hk p hp), hn _ (List.mem_map.mpr ⟨p, hp, rfl⟩)⟩, fun L p pm pw hp => ?_⟩
    have nb := X.ok.b.ne hp
    refine q p _ G2 _ (X.trans (Ext.loose X.ok hp)) (X.old nb hp) (X.ok.e.off hp) nb upd_same ?_
    have e0 : L.map (·.2) = srtL (ks.map (·.2)) := srtL_uniq (pm.map _) (List.pairwise_map.mpr pw)
    rw [← e0]
    exact encs_dp fun r hr => hk r (pm.mem_iff.mp hr)
/-! ### what is in what -/
def rInTD (K : Fg) : R2 := fun x y H Q => ∃ d ds, Dp K H x d ∧ Dp K H y (.tuple ds) ∧ SeqAt.shaped d = true ∧ SeqAt.shaped (.tuple ds) = true ∧ Q (.bl (ds.any fun z => PyData.eqv z d)) H
def rNotInTD (K : Fg) : R2 := fun x y H Q => ∃ d ds, Dp K H x d ∧ Dp K H y (.tuple ds) ∧ SeqAt.shaped d = true ∧ SeqAt.shaped (.tuple ds) = true ∧ Q (.bl (!ds.any fun z => PyData.eqv z d)) H
theorem op_inTD {X : Cx} (hu : X.A.units + 65 < cLine) : OpR X (compareOp .In) (rInTD X.K) := fun pins s σ H x y v u Q I rx ry ⟨d, ds, hd, he, sd, se, q⟩ => by
  obtain ⟨_, r1⟩ := Dp.reads I d x v hd rx
  obtain ⟨_, r2⟩ := Dp.reads I (.tuple ds) y u he ry
  exact SeqAt.in_tuple_reads r2 r1 (SeqAt.canLay_of_shaped se) (SeqAt.canLay_of_shaped sd) (room_in_shaped sd hu) ⟨.bl _, H, I, rfl, q⟩
theorem op_notInTD {X : Cx} (hu : X.A.units + 65 < cLine) : OpR X (compareOp .NotIn) (rNotInTD X.K) := fun pins s σ H x y v u Q I rx ry ⟨d, ds, hd, he, sd, se, q⟩ => by
  obtain ⟨_, r1⟩ := Dp.reads I d x v hd rx
  obtain ⟨_, r2⟩ := Dp.reads I (.tuple ds) y u he ry
  exact SeqAt.notIn_tuple_reads r2 r1 (SeqAt.canLay_of_shaped se) (SeqAt.canLay_of_shaped sd) (room_in_shaped sd hu) ⟨.bl _, H, I, rfl, q⟩
theorem lay_ints : ∀ ns : List Int, PyData.canLayAll0 (ns.map .int) = true ∧ PyData.depthAll (ns.map .int) = 0
  | [] => ⟨by simp [PyData.canLayAll0], by simp [PyData.depthAll]⟩
  | n :: ns => by
    obtain ⟨h1, h2⟩ := lay_ints ns
    exact ⟨by simp [PyData.canLayAll0, PyData.canLay0, h1], by simp [PyData.depthAll, PyData.depth, h2]⟩
theorem lay_encs : ∀ ls : List (List Int), PyData.canLayAll0 (ls.map encT) = true ∧ PyData.depthAll (ls.map encT) ≤ 1
  | [] => ⟨by simp [PyData.canLayAll0], by simp [PyData.depthAll]⟩
  | l :: ls => by
    obtain ⟨h1, h2⟩ := lay_encs ls
    obtain ⟨k1, k2⟩ := lay_ints l
    refine ⟨by simp [PyData.canLayAll0, PyData.canLay0, encT, k1, h1], ?_⟩
    simp only [List.map_cons, PyData.depthAll, encT, PyData.depth, k2]
    omega
theorem shp {d : PyData} (h1 : d.canLay0 = true) (h2 : d.depth ≤ 64) : SeqAt.shaped d = true := by
  show (d.canLay0 && decide (d.depth ≤ 64)) = true
  rw [h1, decide_eq_true h2]
  rfl
theorem shp_enc (l : List Int) : SeqAt.shaped (encT l) = true := by
  obtain ⟨k1, k2⟩ := lay_ints l
  exact shp (by simp [encT, PyData.canLay0, k1]) (by simp [encT, PyData.depth, k2])
theorem shp_none : SeqAt.shaped .none = true := by rfl
theorem shp_encsT (ls : List (List Int)) : SeqAt.shaped (.tuple (ls.map encT)) = true := by
  obtain ⟨k1, k2⟩ := lay_encs ls
  exact shp (by simp [PyData.canLay0, k1]) (by simp only [PyData.depth]; omega)
theorem shp_encsL (ls : List (List Int)) : SeqAt.shaped (.list (ls.map encT)) = true := by
  obtain ⟨k1, k2⟩ := lay_encs ls
  exact shp (by simp [PyData.canLay0, k1]) (by simp only [PyData.depth]; omega)
theorem eqv_ints : ∀ a b : List Int, PyData.eqvAll (a.map .int) (b.map .int) = decide (a = b)
  | [], [] => by
    simp [PyData.eqvAll]
  | [], _ :: _ => by
    simp [PyData.eqvAll]
  | _ :: _, [] => by
    simp [PyData.eqvAll]
  | x :: a, y :: b => by
    simp only [List.map_cons, PyData.eqvAll, PyData.eqv, eqv_ints a b]
    by_cases c : x = y
    · subst c
      simp
    · simp [c]
theorem eqv_enc (a b : List Int) : PyData.eqv (encT a) (encT b) = decide (a = b) := by
  simp only [encT, PyData.eqv, eqv_ints]
theorem eqv_non (a : List Int) : PyData.eqv (encT a) .none = false := by simp [encT, PyData.eqv]
theorem any_enc (ls : List (List Int)) (a : List Int) : ((ls.map encT).any fun z => PyData.eqv z (encT a)) = decide (a ∈ ls) := by
  induction ls with
  | nil => simp
  | cons l ls ih =>
    rw [List.map_cons, List.any_cons, ih, eqv_enc]
    by_cases c : a = l
    · subst c
      simp
    · have : ¬ l = a := fun e => c e.symm
      simp [c, this]
theorem any_non (ls : List (List Int)) : ((ls.map encT).any fun z => PyData.eqv z .none) = false := by
  induction ls with
  | nil => rfl
  | cons l ls ih => rw [List.map_cons, List.any_cons, ih, eqv_non]; rfl
theorem rd_inT {ls : List (List Int)} {a : List Int} : RvD K B (rInTD K) G (encT a) (.tuple (ls.map encT)) (.bool (decide (a ∈ ls))) := fun u v G2 H2 _ e du dv Q q =>
  ⟨encT a, ls.map encT, dp_mono e.e du, dp_mono e.e dv, shp_enc a, shp_encsT ls, by rw [any_enc]; exact q.here e (.bl _)⟩
theorem rd_notInT {ls : List (List Int)} {a : List Int} : RvD K B (rNotInTD K) G (encT a) (.tuple (ls.map encT)) (.bool (!decide (a ∈ ls))) := fun u v G2 H2 _ e du dv Q q =>
  ⟨encT a, ls.map encT, dp_mono e.e du, dp_mono e.e dv, shp_enc a, shp_encsT ls, by rw [any_enc]; exact q.here e (.bl _)⟩
theorem rd_inL {ls : List (List Int)} {a : List Int} : RvD K B (rInD K) G (encT a) (.list (ls.map encT)) (.bool (decide (a ∈ ls))) := fun u v G2 H2 _ e du dv Q q =>
  ⟨encT a, ls.map encT, dp_mono e.e du, dp_mono e.e dv, shp_enc a, shp_encsL ls, by rw [any_enc]; exact q.here e (.bl _)⟩
/-! ### numbers -/
theorem ed_min {i j : Int} (ha : EvA K B tr σ G [.int i, .int j]) : EvD K B (tCB (fun xs H Q => ∃ i j, xs = [.int i, .int j] ∧ Q (.int (if j < i then j else i)) H) tr) σ G (.int (min i j)) := ed_cb ha fun vs G2 H2 _ e dv Q q => ⟨i, j, dpAll_intsV (bs := [i, j]) dv, by
  have z : (if j < i then j else i) = min i j := by
    rw [Int.min_def]
    split <;> split <;> omega
  rw [z]
  exact q.here e (.int _)⟩
theorem ed_max {i j : Int} (ha : EvA K B tr σ G [.int i, .int j]) : EvD K B (tCB (fun xs H Q => ∃ i j, xs = [.int i, .int j] ∧ Q (.int (if j > i then j else i)) H) tr) σ G (.int (max i j)) := ed_cb ha fun vs G2 H2 _ e dv Q q => ⟨i, j, dpAll_intsV (bs := [i, j]) dv, by
  have z : (if j > i then j else i) = max i j := by
    rw [Int.max_def]
    split <;> split <;> omega
  rw [z]
  exact q.here e (.int _)⟩
abbrev rInt1 : List V → Hp → VK → Prop := fun xs H Q => (∃ i, xs = [.int i] ∧ Q (.int i) H) ∨ ∃ k, xs = [.bl k] ∧ Q (.int (if k then 1 else 0)) H
theorem ed_intB (ha : EvD K B ta σ G (.bool b)) : EvD K B (tCB rInt1 (tCons ta tNil)) σ G (.int (if b then 1 else 0)) := fun H e Q q =>
  ha H e _ fun v G2 H2 X dv => .inr ⟨b, by rw [dp_bl dv], q _ G2 H2 X (.int _)⟩
/-- for target in xs, a list -/
theorem sq_forG {g : TG} {Pv : Nat → L2.St → Hp → Hp → Prop} (h : EvD K B te σ G (.list ds)) (e : Ok K B G H) (h0 : ∀ G2 H2, Ext K B G H G2 H2 → Pv 0 σ G2 H2)
    (hs : ∀ G1 H1, Ext K B G H G1 H1 → ∀ (j : Nat) d v σ' G' H', ds[j]? = some d → Ext K B G1 H1 G' H' → Pv j σ' G' H' → Dp K G' v d →
      g v σ' H' fun σ2 H2 => t (lpE D u fun σ2 H2 => ∃ G2, Ext K B G1 H1 G2 H2 ∧ Pv (j + 1) σ2 G2 H2) σ2 H2)
    (hd : ∀ σ' G' H', Ext K B G H G' H' → Pv ds.length σ' G' H' → u D σ' H') : tSeq (tFor (iList K te) g t) u D σ H :=
  h H e _ fun v G1 H1 X dv => by
    obtain ⟨a, xs, rfl, hl, hx⟩ := dp_lst dv
    refine ⟨a, rfl, ⟨xs, ex_l X.ok.e hl⟩, for_list (K := K) (a := a) (xs := xs) (fun j σ' H' => ∃ G', Ext K B G1 H1 G' H' ∧ Pv j σ' G' H') ⟨G1, Ext.refl X.ok, h0 G1 H1 X⟩ ?_ ?_ ?_⟩
    · rintro j σ' H' _ ⟨G', X', _⟩
      exact ex_l (X'.gg.trans X'.ok.e) hl
    · rintro j y σ' H' hj ⟨G', X', p⟩
      obtain ⟨d, hd', dy⟩ := dpAll_at hx hj
      exact hs G1 H1 X j d y σ' G' H' hd' X' p (dp_mono X'.gg dy)
    · rintro σ' H' ⟨G', X', p⟩
      rw [dpAll_len hx] at p
      exact hd σ' G' H' (X.trans X') p
/-- [e for a, b in xs if t], xs a list of pairs -/
theorem ef_lcP {i j : Nat} {f : PyData → Option PyData} (ha : EvD K B ta σ G (.list ds)) (hn : ds.length ≤ 100000) (hp : ∀ d ∈ ds, ∃ a b, d = .tuple [a, b])
    (ht : ∀ a b v w G', .tuple [a, b] ∈ ds → Ex G G' → Cel K B G' → Dp K G' v a → Dp K G' w b → EvB K B tt (((wipe σ [i, j]).set i (some v)).set j (some w)) G' (f (.tuple [a, b])).isSome)
    (he : ∀ a b v w y G', .tuple [a, b] ∈ ds → Ex G G' → Cel K B G' → Dp K G' v a → Dp K G' w b → f (.tuple [a, b]) = some y → EvD K B te (((wipe σ [i, j]).set i (some v)).set j (some w)) G' y)
    (hw : ∀ v w, wipe (((wipe σ [i, j]).set i (some v)).set j (some w)) [i, j] = wipe σ [i, j]) :
    EvF K B (tLc (iList K ta) (gTup K 2 (gCons (gName i) (gCons (gName j) gNil))) tt te [i, j]) σ G (ds.filterMap f) := fun H e Q q =>
  ha H e _ fun v G1 H1 X dv => by
    obtain ⟨a, xs, rfl, hs, hx⟩ := dp_lst dv
    refine ⟨a, rfl, ⟨xs, ex_l X.ok.e hs⟩, fun D hD => ?_⟩
    have nb := X.ok.b.ne hD
    show ∃ W, _
    refine lc_list (K := K) (a := a) (xs := xs) (Qd := fun H => Q (.ref D) H) (fun j H' => ∃ G' ys, Ext K B G1 H1 G' H' ∧ G' D = none ∧ H' D = some (.lst ys) ∧ DpAll K G' ys ((ds.take j).filterMap f))
      ⟨G1, [], Ext.loose X.ok hD, X.ok.e.off hD, upd_same, .nil⟩ ?_ ?_ ?_
    · rintro j H' _ ⟨G', ys, X', _⟩
      exact ex_l (X'.gg.trans X'.ok.e) hs
    · rintro m x H' hj ⟨G', ys, X', g', h', a'⟩
      obtain ⟨d, hd, dx⟩ := dpAll_at hx hj
      have md : d ∈ ds := List.mem_of_getElem? hd
      have jl : m < ds.length := (List.getElem?_eq_some_iff.mp hd).1
      obtain ⟨d1, d2, rfl⟩ := hp d md
      obtain ⟨p, zs, rfl, hz, hzz⟩ := dp_tup (dp_mono X'.gg dx)
      cases hzz with
      | cons k1 r1 =>
        cases r1 with
        | cons k2 r2 =>
          cases r2
          refine ⟨p, _, rfl, ex_t X'.ok.e hz, rfl, _, _, rfl, _, _, rfl, rfl, hw _ _, ?_⟩
          have hlen : ((ds.take m).filterMap f).length < 100000 := by
            have z := List.length_filterMap_le f (ds.take m)
            rw [List.length_take] at z
            omega
          have c' := (e.c.mono X.gg).mono X'.gg
          refine lc_turn (o := f (.tuple [d1, d2])) hD nb X' g' h' a' hlen (ht d1 d2 _ _ G' md (X.gg.trans X'.gg) c' k1 k2) (fun y ey => he d1 d2 _ _ y G' md (X.gg.trans X'.gg) c' k1 k2 ey) fun G4 H4 ys X4 g4 h4 a4 => ⟨G4, ys, X4, g4, h4, ?_⟩
          rw [take_filterMap hd]
          exact a4
    · rintro H' ⟨G', ys, X', g', h', a'⟩
      rw [dpAll_len hx, List.take_length] at a'
      exact q D ys G' H' (X.trans X') (X.old nb hD) g' nb h' a'
/-- a, b = x, y -/
theorem sq_par {i j : Nat} {d1 d2 : PyData} (h : EvA K B tr σ G [d1, d2]) (e : Ok K B G H) (k : ∀ v w G2 H2, Ext K B G H G2 H2 → Dp K G2 v d1 → Dp K G2 w d2 → u D ((σ.set i (some v)).set j (some w)) H2) : tSeq (tPar i j tr) u D σ H :=
  h H e _ fun vs G2 H2 X dv => by
    cases dv with
    | cons h1 a1 =>
      cases a1 with
      | cons h2 a2 =>
        cases a2
        exact ⟨_, _, rfl, k _ _ G2 H2 X h1 h2⟩
/-! ### lists that are made anew again and again -/
theorem ef_catV {i : Nat} {p : Addr} {xs : List V} (hσ : σ[i]? = some (some (.ref p))) (hp : G p = some (.lst xs)) (hx : DpAll K G xs ds) (hb : EvF K B tb σ G es) (hl : ds.length + es.length ≤ 100000) : EvF K B (tOp rCat (tVar i) tb) σ G (ds ++ es) := fun H e Q q =>
  ⟨.ref p, hσ, hb H e _ fun o ys G2 H2 X ho hg nb h2 a => by
    refine ⟨p, o, xs, ys, rfl, rfl, X.ok.e _ _ (X.gg _ _ hp), h2, ?_, fun r hr => ?_⟩
    · rw [dpAll_len hx, dpAll_len a]
      exact sz hl
    · have n2 := X.ok.b.ne hr
      exact q r _ G2 _ (X.trans (Ext.loose X.ok hr)) (X.old n2 hr) (X.ok.e.off hr) n2 upd_same (dpAll_app (dpAll_mono X.gg hx) a)⟩
theorem RetF.frz {Q : VK} (k : ∀ p xs G2 H2, Ext K B G H G2 H2 → G2 p = some (.lst xs) → DpAll K G2 xs ds → Q (.ref p) H2) : RetF K B G H Q ds := fun p xs G2 H2 X hp hg nb h2 a =>
  k p xs _ H2 (X.freeze hp hg nb h2) upd_same (dpAll_mono (Ex.new hg) a)
theorem sq_setZ {i : Nat} (h : EvF K B te σ G ds) (e : Ok K B G H) (k : ∀ p xs G2 H2, Ext K B G H G2 H2 → G2 p = some (.lst xs) → DpAll K G2 xs ds → u D (σ.set i (some (.ref p))) H2) : tSeq (tAsg te (gName i)) u D σ H := h H e _ (RetF.frz k)
theorem st_setZ {i : Nat} (h : EvF K B te σ G ds) (e : Ok K B G H) (k : ∀ p xs G2 H2, Ext K B G H G2 H2 → G2 p = some (.lst xs) → DpAll K G2 xs ds → D.nx (σ.set i (some (.ref p))) H2) : tAsg te (gName i) D σ H := h H e _ (RetF.frz k)
theorem sq_setF {i : Nat} (h : EvF K B te σ G ds) (e : Ok K B G H) (k : ∀ p xs G2 H2, Ext K B G H G2 H2 → H p = none → G2 p = none → ¬ isB B p → H2 p = some (.lst xs) → DpAll K G2 xs ds → u D (σ.set i (some (.ref p))) H2) : tSeq (tAsg te (gName i)) u D σ H := h H e _ k
theorem st_forR {i n : Nat} {Pv : Nat → L2.St → Hp → Hp → Prop} (h : EvA K B tr σ G [.int (n : Int)]) (hn : n ≤ 100000) (e : Ok K B G H) (h0 : ∀ G2 H2, Ext K B G H G2 H2 → Pv 0 σ G2 H2)
    (hs : ∀ G1 H1, Ext K B G H G1 H1 → ∀ (j : Nat) σ' G' H', j < n → Ext K B G1 H1 G' H' → Pv j σ' G' H' →
      t (lpE D tNext fun σ2 H2 => ∃ G2, Ext K B G1 H1 G2 H2 ∧ Pv (j + 1) σ2 G2 H2) (σ'.set i (some (.int (j : Int)))) H')
    (hd : ∀ σ' G' H', Ext K B G H G' H' → Pv n σ' G' H' → D.nx σ' H') : tFor (iRng1 tr) (gName i) t D σ H := sq_forR (u := tNext) h hn e h0 hs hd
/-- a list that is returned as it was made -/
theorem st_retF (h : EvF K B te σ G ds) (e : Ok K B G H) (k : RetF K B G H D.rt ds) : tRet te D σ H := h H e _ k
/-- return of a name that holds a list made meanwhile -/
theorem st_retV {i : Nat} {p : Addr} {xs : List V} {G0 H0 : Hp} (hσ : σ[i]? = some (some (.ref p))) (X : Ext K B G0 H0 G H) (h0 : H0 p = none) (hg : G p = none) (nb : ¬ isB B p) (hp : H p = some (.lst xs)) (hx : DpAll K G xs ds) (k : RetF K B G0 H0 D.rt ds) : tRet (tVar i) D σ H := ⟨.ref p, hσ, k p xs G H X h0 hg nb hp hx⟩
theorem hu65 {k : Nat} {A : Around} (hr : Room k A) : A.units + 65 < cLine := by
  have := hr.un
  omega
/-- list(range(n)) -/
theorem ef_range {n : Nat} (h : EvD K B ta σ G (.int (n : Int))) (hn : n ≤ 100000) : EvF K B (tLstRg (tRg1 ta)) σ G ((List.range n).map fun i : Nat => .int (i : Int)) := fun H e Q q =>
  h H e _ fun v G2 H2 X dv => ⟨(n : Int), dp_int dv, ⟨by omega, by omega, by omega, by omega, by omega⟩, fun p hp => by
    have nb := X.ok.b.ne hp
    refine q p _ G2 _ (X.trans (Ext.loose X.ok hp)) (X.old nb hp) (X.ok.e.off hp) nb upd_same ?_
    unfold rgV
    have e0 : ((n : Int) - 0).toNat = n := by omega
    rw [e0]
    clear hn dv h q
    induction n with
    | zero => exact .nil
    | succ n ih =>
      rw [List.range_succ, List.map_append, List.map_append]
      refine dpAll_app (ih (by omega)) (.cons ?_ .nil)
      have e1 : (0 : Int) + ((n : Nat) : Int) = (n : Int) := by omega
      show Dp K G2 (.int (0 + (n : Int))) (.int (n : Int))
      rw [e1]
      exact .int _⟩
/-! ### dicts with int keys -/
def EvK (K : Fg) (B : Bg) (trs : List (TE × TE)) (σ : L2.St) (G : Hp) (ks : List Int) (ds : List PyData) : Prop := ∀ H, Ok K B G H → ∀ Q : List (V × V) → Hp → Prop, (∀ vs G2 H2, Ext K B G H G2 H2 → DpAll K G2 vs ds → Q ((ks.map V.int).zip vs) H2) → tPairs trs σ H Q
theorem EvK.mono {trs : List (TE × TE)} {ks : List Int} (e : Ex G G') (c : Cel K B G) (h : EvK K B trs σ G ks ds) : EvK K B trs σ G' ks ds := fun H eH Q q =>
  h H (eH.less e c) Q fun v G2 H2 X dv => by
    obtain ⟨X2, e2⟩ := X.wide e eH
    exact q v _ H2 X2 (dpAll_mono e2 dv)
theorem ek_nil : EvK K B [] σ G [] [] := fun H e Q q => q [] G H (Ext.refl e) .nil
theorem ek_cons {trs : List (TE × TE)} {ks : List Int} {k : Int} (h : EvD K B te σ G d) (hr : EvK K B trs σ G ks ds) : EvK K B ((tC (.int k), te) :: trs) σ G (k :: ks) (d :: ds) := fun H e Q q =>
  h H e _ fun v G2 H2 X dv => hr.mono X.gg e.c H2 X.ok _ fun vs G3 H3 X3 dvs => q (v :: vs) G3 H3 (X.trans X3) (.cons (dp_mono X3.gg dv) dvs)
theorem kV_zip : ∀ (ks : List Int) (vs : List V), (ks.map V.int).zip vs = ((ks.map (Sum.inl (β := Str))).zip vs).map fun kv => (kV kv.1, kv.2)
  | [], _ => rfl
  | _ :: _, [] => rfl
  | k :: ks, v :: vs => by
    rw [List.map_cons, List.map_cons, List.zip_cons_cons, List.zip_cons_cons, List.map_cons, kV_zip ks vs]
    rfl
/-- {k: v, ..}[k] -/
theorem ed_dispGet {trs : List (TE × TE)} {ks : List Int} {ty : TE} {k : Int} (h : EvK K B trs σ G ks ds) (hy : EvD K B ty σ G (.int k)) (hl : ks.length ≤ 15)
    (hv : ∀ (Gx : Hp) vs, DpAll K Gx vs ds → ∃ v, valV (mergeK [] ((ks.map Sum.inl).zip vs)) (Sum.inl k) = some v ∧ Dp K Gx v d) : EvD K B (tDGet (tDisp trs) ty) σ G d := fun H e Q q p hp => by
  have X0 : Ext K B G H G (upd H p (.dK [])) := Ext.loose e hp
  have nb := e.b.ne hp
  refine h _ X0.ok _ fun vs G2 H2 X dv => ?_
  have hp2 : H2 p = some (.dK []) := X.hh p _ nb upd_same
  have g2 : G2 p = none := X.fr p _ upd_same (e.e.off hp)
  obtain ⟨v, hv1, hv2⟩ := hv G2 vs dv
  refine ⟨hp2, (ks.map Sum.inl).zip vs, kV_zip ks vs, ?_, ?_⟩
  · rw [List.length_zip, List.length_map]
    omega
  · have ok2 : Ok K B G2 (upd H2 p (.dK (mergeK [] ((ks.map Sum.inl).zip vs)))) := X.ok.mut g2 nb
    have Y : Ext K B G H G2 (upd H2 p (.dK (mergeK [] ((ks.map Sum.inl).zip vs)))) := ⟨X.gg, fun a o n z => by
      rw [upd_ne (ne_of_none z hp)]
      exact X.hh a o n (by rw [upd_ne (ne_of_none z hp)]; exact z), fun a o z g => X.fr a o (by rw [upd_ne (ne_of_none z hp)]; exact z) g, ok2⟩
    refine hy.mono Y.gg e.c _ ok2 _ fun w G3 H3 X3 dw => ?_
    obtain rfl := dp_int dw
    have hp3 : H3 p = some (.dK (mergeK [] ((ks.map Sum.inl).zip vs))) := X3.hh p _ nb upd_same
    refine ⟨p, v, rfl, ?_, q v G3 H3 (Y.trans X3) (dp_mono X3.gg hv2)⟩
    rw [← hv1]
    exact DGet.k (k := Sum.inl k) hp3
/-! ### a list that grows by append -/
structure Loo (K : Fg) (B : Bg) (G0 H0 G H : Hp) (p : Addr) (ds : List PyData) : Prop where
  x : Ext K B G0 H0 G H
  h0 : H0 p = none
  g : G p = none
  nb : ¬ isB B p
  h : ∃ xs, H p = some (.lst xs) ∧ DpAll K G xs ds
theorem Loo.step {G0 H0 G2 H2 : Hp} {p : Addr} (l : Loo K B G0 H0 G H p ds) (X : Ext K B G H G2 H2) : Loo K B G0 H0 G2 H2 p ds := by
  obtain ⟨xs, h1, h2⟩ := l.h
  exact ⟨l.x.trans X, l.h0, X.fr p _ h1 l.g, l.nb, xs, X.hh p _ l.nb h1, dpAll_mono X.gg h2⟩
theorem st_append {G0 H0 : Hp} {p : Addr} {i : Nat} (hσ : σ[i]? = some (some (.ref p))) (l : Loo K B G0 H0 G H p ds) (h : EvD K B ta σ G d) (hl : ds.length < 100000) (k : ∀ G2 H2, Loo K B G0 H0 G2 H2 p (ds ++ [d]) → Ex G G2 → D.nx σ H2) :
    tDrop (tBM K "list" rAppend (tVar i) (tCons ta tNil)) D σ H := by
  obtain ⟨xs0, h1, _⟩ := l.h
  refine ⟨.ref p, hσ, .inl ⟨rfl, _, SqL.of h1⟩, h H l.x.ok _ fun v G2 H2 X dv => ?_⟩
  have l2 := l.step X
  obtain ⟨xs, h3, h4⟩ := l2.h
  refine ⟨p, xs, v, rfl, rfl, h3, by rw [dpAll_len h4]; exact szl hl, ?_⟩
  refine k G2 _ ⟨⟨l2.x.gg, fun a o n z => ?_, l2.x.fr, l2.x.ok.mut l2.g l.nb⟩, l.h0, l2.g, l.nb, xs ++ [v], upd_same, dpAll_app h4 (.cons dv .nil)⟩ X.gg
  rw [upd_ne (ne_of_none z l.h0)]
  exact l2.x.hh a o n z
theorem Loo.frz {G0 H0 : Hp} {p : Addr} (l : Loo K B G0 H0 G H p ds) : ∃ G2 xs, Ext K B G0 H0 G2 H ∧ Ex G G2 ∧ G2 p = some (.lst xs) ∧ DpAll K G2 xs ds := by
  obtain ⟨xs, h1, h2⟩ := l.h
  exact ⟨_, xs, l.x.freeze l.h0 l.g l.nb h1, Ex.new l.g, upd_same, dpAll_mono (Ex.new l.g) h2⟩
theorem sq_setL {i : Nat} (h : EvF K B te σ G ds) (e : Ok K B G H) (k : ∀ p G2 H2, Loo K B G H G2 H2 p ds → u D (σ.set i (some (.ref p))) H2) : tSeq (tAsg te (gName i)) u D σ H := h H e _ fun p xs G2 H2 X h0 hg nb h2 a => k p G2 H2 ⟨X, h0, hg, nb, xs, h2, a⟩
theorem Loo.dp {G0 H0 : Hp} {p : Addr} (l : Loo K B G0 H0 G H p ds) : Dp K H (.ref p) (.list ds) := by
  obtain ⟨xs, h1, h2⟩ := l.h
  exact .lst (SqL.of h1) (dpAll_mono l.x.ok.e h2)
/-- for x in range(n), the invariant over the whole heap -/
theorem sq_forR0 {i n : Nat} {Pv : Nat → L2.St → Hp → Prop} (h : EvA K B tr σ G [.int (n : Int)]) (hn : n ≤ 100000) (e : Ok K B G H) (h0 : ∀ G2 H2, Ext K B G H G2 H2 → Pv 0 σ H2)
    (hs : ∀ (j : Nat) σ' H', j < n → Pv j σ' H' → t (lpE D u fun σ2 H2 => Pv (j + 1) σ2 H2) (σ'.set i (some (.int (j : Int)))) H')
    (hd : ∀ σ' H', Pv n σ' H' → u D σ' H') : tSeq (tFor (iRng1 tr) (gName i) t) u D σ H :=
  h H e _ fun vs G1 H1 X dv => by
    have ev : vs = [.int (n : Int)] := dpAll_intsV (bs := [(n : Int)]) dv
    refine ⟨(n : Int), ev, by omega, by omega, for_range (lo := 0) (n := (n : Int).toNat) (fun j σ' H' => Pv j σ' H') (h0 G1 H1 X) ?_ ?_⟩
    · intro j σ' H' hj p
      have ez : (0 : Int) + (j : Int) = (j : Int) := by omega
      have z := hs j σ' H' (by omega) p
      rw [← ez] at z
      exact z
    · intro σ' H' p
      rw [Int.toNat_natCast] at p
      exact hd σ' H' p
/-- a list that grows, looked at -/
def hide (p : Addr) (G : Hp) : Hp := fun a => if a = p then none else G a
theorem Loo.see {G0 H0 : Hp} {p : Addr} (l : Loo K B G0 H0 G H p ds) : ∃ G1, Ex G G1 ∧ Ok K B G1 H ∧ Dp K G1 (.ref p) (.list ds) ∧ (∀ G2 H2, Ext K B G1 H G2 H2 → ∃ G3, Loo K B G0 H0 G3 H2 p ds ∧ Ex G G3 ∧ ∀ v d, (∀ a, ¬ isB B a → True) → Dp K (hide p G2) v d → Dp K G3 v d) := by
  obtain ⟨xs, h1, h2⟩ := l.h
  have F := l.x.freeze l.h0 l.g l.nb h1
  refine ⟨upd G p (.lst xs), Ex.new l.g, F.ok, .lst (SqL.of upd_same) (dpAll_mono (Ex.new l.g) h2), fun G2 H2 X => ?_⟩
  have gg : Ex G (hide p G2) := fun a o z => by
    have ne : a ≠ p := ne_of_none z l.g
    show (if a = p then none else G2 a) = some o
    rw [if_neg ne]
    exact X.gg a o (by rw [upd_ne ne]; exact z)
  have hx : Ext K B G H (hide p G2) H2 := ⟨gg, X.hh, fun a o z g => by
    show (if a = p then none else G2 a) = none
    by_cases c : a = p
    · rw [if_pos c]
    · rw [if_neg c]
      exact X.fr a o z (by rw [upd_ne c]; exact g), ⟨fun a o z => by
      have z' : (if a = p then none else G2 a) = some o := z
      by_cases c : a = p
      · rw [if_pos c] at z'
        cases z'
      · rw [if_neg c] at z'
        exact X.ok.e a o z', l.x.ok.c.mono gg, X.ok.b.keep (fun a _ g => by
      show (if a = p then none else G2 a) = none
      by_cases c : a = p
      · rw [if_pos c]
      · rw [if_neg c]
        exact g) fun _ _ _ q => q⟩⟩
  exact ⟨hide p G2, l.step hx, gg, fun _ _ _ z => z⟩
theorem Loo.test {G0 H0 : Hp} {p : Addr} (l : Loo K B G0 H0 G H p ds) (k : ∀ G1, Ex G G1 → Dp K G1 (.ref p) (.list ds) → EvB K B tt σ G1 b) {Q : Bool → Hp → Prop} (q : ∀ G2 H2, Loo K B G0 H0 G2 H2 p ds → Ex G G2 → Q b H2) : tt σ H Q := by
  obtain ⟨G1, e1, o1, d1, z⟩ := l.see
  refine k G1 e1 d1 H o1 Q fun G2 H2 X => ?_
  obtain ⟨G3, l3, e3, _⟩ := z G2 H2 X
  exact q G3 H2 l3 e3
theorem sq_ifL {G0 H0 : Hp} {p : Addr} {w : TS} (l : Loo K B G0 H0 G H p ds) (k : ∀ G1, Ex G G1 → Dp K G1 (.ref p) (.list ds) → EvB K B tt σ G1 b) (k1 : b = true → ∀ G2 H2, Loo K B G0 H0 G2 H2 p ds → Ex G G2 → t D σ H2) (k2 : b = false → ∀ G2 H2, Loo K B G0 H0 G2 H2 p ds → Ex G G2 → D.nx σ H2) : tIfS tt t tNext D σ H := l.test k fun G2 H2 l2 e2 => by
  cases b with
  | true =>
    rw [if_pos rfl]
    exact k1 rfl G2 H2 l2 e2
  | false =>
    rw [ifF]
    exact k2 rfl G2 H2 l2 e2
/-- tuple(xs) -/
theorem ed_tupOf (h : EvD K B ta σ G (.list ds)) : EvD K B (tCB (rTupS K) (tCons ta tNil)) σ G (.tuple ds) := fun H e Q q =>
  h H e _ fun v G2 H2 X dv => by
    obtain ⟨a, xs, rfl, hs, hx⟩ := dp_lst dv
    exact ⟨a, xs, rfl, .inl ⟨ex_l X.ok.e hs, fun p hp => q _ _ _ (X.trans (Ext.new X.ok hp)) (.tup (SqT.of upd_same) (dpAll_mono (Ex.new (X.ok.e.off hp)) hx))⟩⟩
/-! ### a dict that grows -/
structure LoD (K : Fg) (B : Bg) (G0 H0 G H : Hp) (p : Addr) (kvs : List (Key × V)) : Prop where
  x : Ext K B G0 H0 G H
  h0 : H0 p = none
  g : G p = none
  nb : ¬ isB B p
  h : H p = some (.dK kvs)
theorem LoD.step {G0 H0 G2 H2 : Hp} {p : Addr} {kvs : List (Key × V)} (l : LoD K B G0 H0 G H p kvs) (X : Ext K B G H G2 H2) : LoD K B G0 H0 G2 H2 p kvs := ⟨l.x.trans X, l.h0, X.fr p _ l.h l.g, l.nb, X.hh p _ l.nb l.h⟩
theorem LoD.put {G0 H0 : Hp} {p : Addr} {kvs : List (Key × V)} (kvs' : List (Key × V)) (l : LoD K B G0 H0 G H p kvs) : LoD K B G0 H0 G (upd H p (.dK kvs')) p kvs' := ⟨⟨l.x.gg, fun a o n z => by
  rw [upd_ne (ne_of_none z l.h0)]
  exact l.x.hh a o n z, l.x.fr, l.x.ok.mut l.g l.nb⟩, l.h0, l.g, l.nb, upd_same⟩
theorem LoD.frz {G0 H0 : Hp} {p : Addr} {kvs : List (Key × V)} (l : LoD K B G0 H0 G H p kvs) : Ext K B G0 H0 (upd G p (.dK kvs)) H := l.x.freeze l.h0 l.g l.nb l.h
/-- d[k], d known -/
theorem ed_dget {p : Addr} {kvs : List (Key × V)} {ty : TE} {i : Nat} {k : Int} {v : V} (hσ : σ[i]? = some (some (.ref p))) (hp : G p = some (.dK kvs)) (hy : EvD K B ty σ G (.int k)) (hv : valV kvs (Sum.inl k) = some v) (dv : Dp K G v d) : EvD K B (tDGet (tVar i) ty) σ G d := fun H e Q q =>
  ⟨.ref p, hσ, hy H e _ fun w G2 H2 X dw => by
    obtain rfl := dp_int dw
    refine ⟨p, v, rfl, ?_, q v G2 H2 X (dp_mono X.gg dv)⟩
    rw [← hv]
    exact DGet.k (k := Sum.inl k) (X.ok.e _ _ (X.gg _ _ hp))⟩
/-! ### the same item again and again -/
theorem mul9 {x y : Int} (hx : 1 ≤ x ∧ x ≤ 9) (hy : 1 ≤ y ∧ y ≤ 9) : 4 ≤ 4 * x * y ∧ 4 * x * y ≤ 324 := by
  obtain ⟨h1, h2⟩ := hx
  have a := Int.mul_le_mul_of_nonneg_left hy.1 (show 0 ≤ 4 * x by omega)
  have b := Int.mul_le_mul_of_nonneg_left hy.2 (show 0 ≤ 4 * x by omega)
  omega
theorem rep_flat (n : Nat) (d : PyData) : (List.replicate n [d]).flatten = List.replicate n d := by
  induction n with
  | zero => rfl
  | succ n ih => rw [List.replicate_succ, List.flatten_cons, ih]; rfl
theorem rd_repT {n : Int} (h : 2 ≤ n ∧ n ≤ 1000) : RvD K B (rRepT K) G (.tuple [d]) (.int n) (.tuple (List.replicate n.toNat d)) := fun u v G2 H2 _ e du dv Q q => by
  obtain ⟨a, xs, rfl, hs, hx⟩ := dp_tup du
  refine ⟨a, n, xs, rfl, dp_int dv, ex_t e.e hs, fun z => ?_, h.1, h.2, ?_, fun p hp => q _ _ _ (Ext.new e hp) (.tup (SqT.of upd_same) (dpAll_mono (Ex.new (e.e.off hp)) ?_))⟩
  · subst z
    cases hx
  · rw [dpAll_len hx]
    exact Nat.le_of_ble_eq_true rfl
  · rw [← rep_flat]
    generalize n.toNat = m
    induction m with
    | zero => exact .nil
    | succ m ih =>
      simp only [List.replicate_succ, List.flatten_cons]
      exact dpAll_app hx ih
end
end Lw

namespace Lw
open PySem.Spec PySem L2 PyProof.Rows
open Evl (Ex Ex.refl Ex.trans Ex.new Ex.off ex_rd ex_l ex_t)
/-! ### list comprehensions of any number of clauses -/
/-- what stands behind the tests of clause k - 1: clause k, or the item -/
def innW (M : Model) (A : Around) (elt : Expr) (gens : List Comprehension) (scope : Scope) (pos : Pos) (k : Nat) (acc : Value) (env : Env) (E : Value → Shared → Prop) (Nx : Shared → Prop) (s : Shared) : Prop :=
  match gens[k]? with
  | some g => wpAny M A (eval g.iter env) (fun x s1 => wpAny M A (pyIter x) (fun j s2 => codeAny M A (.compStart (.ListComp elt gens scope pos) k j acc env) (fun r s3 => match r with
      | .ok _ => Nx s3
      | .error _ => False) s2) E s1) E s
  | none => wpAny M A (eval elt env) (fun x s1 => wpAny M A (call (.builtin "list.append") [acc, x]) (fun _ s2 => Nx s2) E s1) E s
/-- one turn of a clause -/
def turnW (M : Model) (A : Around) (tg : Expr) (ifs : List Expr) (it : Value) (env : Env) (E : Value → Shared → Prop) (Stop : Shared → Prop) (Inn Nx : Shared → Prop) (s : Shared) : Prop :=
  wpAny M A (pyNext it) (fun r s1 => match r with
    | none => Stop s1
    | some v => wpAny M A (letOwnedTupleGo tg it v) (fun _ s2 => wpAny M A (assign tg env v) (fun _ s3 =>
        wpAny M A (forIn ifs true fun c r => if r = true then (do
          let ok ← isTrue c env (eval c env)
          pure (ForInStep.yield ok)) else pure (ForInStep.yield r)) (fun b s4 => if b = true then Inn s4 else Nx s4) E s3) E s2) E s1) E s
section
variable {prog : Program} {w : World} {A : Around} {R : Result → Shared → Prop} {s : Shared} {elt tg iter : Expr} {ifs : List Expr} {gens : List Comprehension} {scope : Scope} {pos : Pos} {it acc : Value} {env : Env} {k : Nat}
theorem loop_turns (hk : gens[k]? = some ⟨tg, iter, ifs, 0⟩) (hn : ∀ g, gens[k + 1]? = some g → g.is_async = 0 ∧ ∀ x, foldedSetIterable g.iter env x = pure x) (I : Nat → Shared → Prop)
    (turn : ∀ n s, I n s → turnW (model prog w) A tg ifs it env (notedBy (model prog w) A env fun e s' => R (.error e) s') (fun s' => R (.ok .next) s')
      (innW (model prog w) A elt gens scope pos (k + 1) acc env (notedBy (model prog w) A env fun e s' => R (.error e) s') fun s' => ∃ m, m < n ∧ I m s') (fun s' => ∃ m, m < n ∧ I m s') s)
    (n : Nat) (h : I n s) : codeAny (model prog w) A (.compLoop (.ListComp elt gens scope pos) k it acc env) R s := by
  refine codeAny_loop rfl I (fun m t hI => ?_) n h
  show wpAny _ A ((compTurn (.ListComp elt gens scope pos) k it acc env).onRaise fun x => do
    noteFrame x env
    theTreesLotGoes x) _ _ t
  refine wpAny_noted ?_
  have z := turn m t hI
  unfold turnW at z
  unfold compTurn
  simp only [hk]
  refine wpAny_bind (wpAny_standAt (wpAny_bind (wpAny_mono z (fun r t1 h1 => ?_) fun _ _ q => q)))
  cases r with
  | none => exact wpAny_pure h1
  | some v =>
    refine wpAny_bind (wpAny_mono h1 (fun _ t2 h2 => ?_) fun _ _ q => q)
    refine wpAny_bind (wpAny_mono h2 (fun _ t3 h3 => ?_) fun _ _ q => q)
    refine wpAny_bind (wpAny_mono h3 (fun b t4 h4 => ?_) fun _ _ q => q)
    cases b with
    | false => exact wpAny_pure ⟨rfl, h4⟩
    | true =>
      have h4 : innW (model prog w) A elt gens scope pos (k + 1) acc env _ _ t4 := h4
      unfold innW at h4
      cases hg : gens[k + 1]? with
      | none =>
        rw [hg] at h4
        simp only [hg]
        show wpAny _ A ((do
          let _ ← call (.builtin "list.append") [acc, ← eval elt env]) >>= fun _ => again (.compLoop (.ListComp elt gens scope pos) k it acc env)) _ _ _
        refine wpAny_bind (wpAny_bind (wpAny_mono h4 (fun x t5 h5 => ?_) fun _ _ q => q))
        exact wpAny_bind (wpAny_mono h5 (fun _ t6 h6 => wpAny_pure (wpAny_pure ⟨rfl, h6⟩)) fun _ _ q => q)
      | some g =>
        rw [hg] at h4
        simp only [hg]
        obtain ⟨ga, gf⟩ := hn g hg
        have gb : (g.is_async != 0) = false := by rw [ga]; rfl
        refine wpAny_bind (wpAny_mono h4 (fun x t5 h5 => ?_) fun _ _ q => q)
        refine wpAny_bind ?_
        refine wpAny_standAt ?_
        simp only [gb, Bool.false_eq_true, if_false]
        refine wpAny_bind (wpAny_of_eq (gf x) (wpAny_bind (wpAny_holding (wpAny_mono h5 (fun j t6 h6 => ?_) fun _ _ q => q))))
        refine wpAny_bind ?_
        refine wpAny_runOwn ?_
        rw [Around.mark_none]
        refine codeAny_mono h6 fun r t7 hr => ?_
        cases r with
        | ok f =>
          first
            | exact wpAny_pure ⟨rfl, hr⟩
            | exact wpAny_bind <| wpAny_pure <| wpAny_pure ⟨rfl, hr⟩
        | error e => exact hr.elim
/-- a clause's start -/
theorem loop_start (hk : gens[k]? = some ⟨tg, iter, ifs, 0⟩) (h0 : codeAny (model prog w) A (.compLoop (.ListComp elt gens scope pos) k it acc env) R s)
    (h : wpAny (model prog w) A (pyIter it) (fun j s' => codeAny (model prog w) A (.compLoop (.ListComp elt gens scope pos) k j acc env) R s') (notedBy (model prog w) A env fun x s' => R (.error x) s') s) :
    codeAny (model prog w) A (.compStart (.ListComp elt gens scope pos) k it acc env) R s := by
  refine codeAny_of_tree ?_
  show wpAny _ _ ((compStart (.ListComp elt gens scope pos) k it acc env).onRaise fun x => do
    noteFrame x env
    standAt theWindowsPlace) _ _ s
  refine wpAny_notedAt ?_
  have hc : (clausesOf (.ListComp elt gens scope pos))[k]? = some ⟨tg, iter, ifs, 0⟩ := hk
  unfold compStart
  simp only [hc]
  refine (show wpAny _ _ (ask >>= _) _ _ s from wpAny_bind (wpAny_askSetting (wpAny_ite ?_)))
  split
  · first
      | exact wpAny_bind <| wpAny_pure <| wpAny_pure ⟨rfl, h0⟩
      | exact wpAny_pure ⟨rfl, h0⟩
  · first
      | exact wpAny_bind (wpAny_rule (wpAny_bind (wpAny_standAt (wpAny_bind (wpAny_mono h (fun j t hj => wpAny_pure (And.intro rfl hj)) fun _ _ q => q)))))
      | (refine wpAny_bind ?_
         refine wpAny_rule ?_
         show wpAny _ _ (standAt iter.pos >>= _) _ _ s
         exact wpAny_bind (wpAny_standAt (wpAny_bind (wpAny_mono h (fun j t hj => wpAny_pure (And.intro rfl hj)) fun _ _ q => q))))
end
/-- what a body of a clause asks: the new list, the slots, the heap, what is to be reached -/
abbrev TBd := Addr → L2.St → Hp → (Hp → Prop) → Prop
def bE (te : TE) : TBd := fun D σ H Nx => te σ H fun y H4 => ∃ acc, H4 D = some (.lst acc) ∧ acc.length < sizeLine ∧ Nx (upd H4 D (.lst (acc ++ [y])))
/-- the turns of a clause: `Z` at its end -/
def tTurns (J : It) (g : TG) (tt : TT) (tb : TBd) (vs : List Nat) (D : Addr) (σ : L2.St) (H1 : Hp) (Z : Hp → Prop) : Prop :=
  ∃ W : Nat → Nat → Hp → Prop, (∃ m, W 0 m H1) ∧ ∀ i m H, W i m H →
    (J.stop i H ∧ Z H) ∨ (J.go i H ∧ ∃ Nx : Hp → Prop, (∀ H', Nx H' → ∃ m', m' < m ∧ W (i + 1) m' H') ∧ ∀ x H', J.yld i H x H' →
      g x (wipe σ vs) H' fun σ2 H2 => wipe σ2 vs = wipe σ vs ∧ tt σ2 H2 fun b H3 => if b = true then tb D σ2 H3 Nx else Nx H3)
def bF (wi : TI) (g : TG) (tt : TT) (tb : TBd) (vs : List Nat) : TBd := fun D σ H Nx => wi σ H fun J H4 => tTurns J g tt tb vs D σ H4 Nx
def tLcB (wi : TI) (g : TG) (tt : TT) (tb : TBd) (vs : List Nat) : TE := fun σ H Q => wi σ H fun J H1 => ∀ D, H1 D = none → tTurns J g tt tb vs D σ (upd H1 D (.lst [])) fun H2 => Q (.ref D) H2
/-- the body behind clause k - 1 -/
structure PBd (Y : Cx) (elt : Expr) (gens : List Comprehension) (scope : Scope) (pos : Pos) (k : Nat) (vs : List Nat) (tb : TBd) : Prop where
  syn : ∀ g, gens[k]? = some g → g.is_async = 0 ∧ ∀ x, foldedSetIterable g.iter Y.env x = pure x
  run : ∀ (D : Addr) (pins : List (Addr × Obj)) (s : Shared) (σ : L2.St) (H : Hp) (Nx : Hp → Prop) (E : Value → Shared → Prop), Inv Y pins σ H s → tb D σ H Nx →
    innW (model Y.prog Y.w) Y.A elt gens scope pos k (.ref D) Y.env E (fun s' => ∃ σ' H', Inv Y pins σ' H' s' ∧ σ'.length = σ.length ∧ (∀ (j : Nat) v, j ∉ vs → σ[j]? = some (some v) → σ'[j]? = some (some v)) ∧ Nx H') s
section
variable {Y : Cx} {elt tg iter : Expr} {ifs : List Expr} {gens : List Comprehension} {scope : Scope} {pos : Pos} {k : Nat}
theorem pb_elt {te : TE} (hx : Y.xe = fun _ _ => False) (hk : gens[k]? = none) (he : PE Y elt te) : PBd Y elt gens scope pos k [] (bE te) where
  syn := fun g hg => by
    rw [hk] at hg
    cases hg
  run := fun D pins s σ H Nx E I h => by
    unfold innW
    rw [hk]
    have z := he.run pins s σ H _ I h
    rw [hx] at z
    refine thnF z fun u s1 h1 => ?_
    obtain ⟨y, H1, I1, r1, acc, hD, hz, nx⟩ := h1
    exact app_ok I1 hD hz r1 fun s2 I2 => ⟨σ, _, I2, rfl, fun _ _ _ e => e, nx⟩
/-- the turns of a clause, from an iterator on -/
theorem turns_run {J : It} {fp : List Addr} {it : Addr} {tn : Nat → Heap → Prop} {g : TG} {tt : TT} {tb : TBd} {vs vs' : List Nat} {D : Addr} {σ : L2.St} {H1 : Hp} {s1 : Shared} {pins : List (Addr × Obj)} {Z : Hp → Prop} {R : Result → Shared → Prop}
    (hx : Y.xe = fun _ _ => False) (hc : Y.calm = true) (hk : gens[k]? = some ⟨tg, iter, ifs, 0⟩) (hg : PG Y tg g) (ht : PTs Y ifs tt) (hv : ∀ i ∈ vs', i ∈ vs) (hb : PBd Y elt gens scope pos (k + 1) vs' tb)
    (T : Turn Y.prog Y.w Y.K tg J fp it tn) (I1 : Inv Y pins (wipe σ vs) H1 s1) (st : tn 0 s1.heap) (fo : ∀ H', (∀ b ∈ fp, H' b = none) → ∀ b ∈ fp, FpOk Y pins H' b) (fn : ∀ b ∈ fp, H1 b = none)
    (hT : tTurns J g tt tb vs D σ H1 Z) (hR : ∀ H' s', Inv Y pins (wipe σ vs) H' s' → Z H' → R (.ok .next) s') :
    codeAny (model Y.prog Y.w) Y.A (.compLoop (.ListComp elt gens scope pos) k (.ref it) (.ref D) Y.env) R s1 := by
  obtain ⟨W, ⟨m0, w0⟩, turn⟩ := hT
  refine loop_turns hk hb.syn (fun n s' => ∃ i H', Inv Y pins (wipe σ vs) H' s' ∧ tn i s'.heap ∧ (∀ b ∈ fp, H' b = none) ∧ W i n H') ?_ m0 ⟨0, H1, I1, st, fn, w0⟩
  intro n s5 inv
  obtain ⟨i, H5, I5, st5, n5, w5⟩ := inv
  unfold turnW
  rcases turn i n H5 w5 with ⟨stop, zz⟩ | ⟨go, Nx, hNx, step⟩
  · refine thnF (T.done Y rfl rfl rfl hc i pins s5 _ H5 (fun _ _ => False) I5 (fo H5 n5) st5 stop) fun r s6 hr => ?_
    obtain ⟨rfl, I6⟩ := hr
    exact hR H5 s6 I6 zz
  · refine thnF (T.item Y rfl rfl rfl hc i pins s5 _ H5 (fun _ _ => False) I5 (fo H5 n5) st5 go) fun r s6 hr => ?_
    obtain ⟨u, rfl, h6⟩ := hr
    refine thnF h6 fun _ s7 h7 => ?_
    obtain ⟨x, H7, I7, r7, y7, st7, n7⟩ := h7
    have J7 := I7.pinned (fo H7 n7) (T.obj _ _ st7)
    have z8 := hg.run _ s7 _ H7 x u _ J7 r7 (step x H7 y7)
    rw [hx] at z8
    refine thnF z8 fun _ s8 h8 => ?_
    obtain ⟨σ8, H8, I8, hw8, q8⟩ := h8
    have z9 := ht.run _ s8 σ8 H8 _ I8 q8
    rw [hx] at z9
    refine thnF z9 fun b s9 h9 => ?_
    obtain ⟨H9, I9, q9⟩ := h9
    have l8 : (wipe σ vs).length = σ8.length := by
      rw [← hw8]
      exact wipe_length σ8 vs
    have k8 : ∀ (j : Nat) v, (wipe σ vs)[j]? = some (some v) → σ8[j]? = some (some v) ∧ j ∉ vs := fun j v e => by
      rw [← hw8] at e
      exact wipe_some e
    have fin : ∀ {σ9 : L2.St} {t : Shared} {H' : Hp}, Inv Y (pins ++ pinsAt fp s7.heap) σ9 H' t → σ9.length = σ8.length → (∀ (j : Nat) v, j ∉ vs' → σ8[j]? = some (some v) → σ9[j]? = some (some v)) → Nx H' →
        ∃ m, m < n ∧ ∃ i H', Inv Y pins (wipe σ vs) H' t ∧ tn i t.heap ∧ (∀ b ∈ fp, H' b = none) ∧ W i m H' := fun {σ9 t H'} I' hl hk nx => by
      rcases hNx H' nx with ⟨m', hm, w'⟩
      have pn : ∀ b ∈ fp, ∀ o, s7.heap.get? b = some o → t.heap.get? b = some o ∧ H' b = none := fun b hb o e =>
        have z := I'.pin (b, o) (List.mem_append_right _ (List.mem_append_right _ (mem_pinsAt hb e)))
        ⟨z.1, z.2.1⟩
      refine ⟨m', hm, i + 1, H', I'.unpinned.weak (l8.trans hl.symm) (fun j v e => hk j v (fun c => (k8 j v e).2 (hv j c)) (k8 j v e).1), T.keep _ _ _ st7 (fun b hb o e => (pn b hb o e).1), fun b hb => ?_, w'⟩
      exact (T.obj _ _ st7 b hb).elim fun o z => (pn b hb o z.1).2
    cases b with
    | false =>
      have q9 : Nx H9 := q9
      exact fin I9 rfl (fun _ _ _ e => e) q9
    | true =>
      have q9 : tb D σ8 H9 Nx := q9
      have z := hb.run D _ s9 σ8 H9 Nx (notedBy (model Y.prog Y.w) Y.A Y.env fun e s' => R (.error e) s') I9 q9
      show innW _ _ _ _ _ _ _ _ _ _ _ _
      unfold innW at z ⊢
      cases hq : gens[k + 1]? with
      | none =>
        rw [hq] at z
        exact wpAny_mono z (fun x t1 h1 => wpAny_mono h1 (fun _ t2 h2 => by
          obtain ⟨σ', H', I', a, b, c⟩ := h2
          exact fin I' a b c) fun _ _ e => e) fun _ _ e => e
      | some g' =>
        rw [hq] at z
        exact wpAny_mono z (fun x t1 h1 => wpAny_mono h1 (fun _ t2 h2 => codeAny_mono h2 fun r t3 h3 => by
          cases r with
          | ok f =>
            obtain ⟨σ', H', I', a, b, c⟩ := h3
            exact fin I' a b c
          | error e => exact h3) fun _ _ e => e) fun _ _ e => e
theorem pb_for {wi : TI} {g : TG} {tt : TT} {tb : TBd} {vs vs' : List Nat} (hx : Y.xe = fun _ _ => False) (hc : Y.calm = true) (hk : gens[k]? = some ⟨tg, iter, ifs, 0⟩) (hi : PI Y tg iter wi) (hg : PG Y tg g) (ht : PTs Y ifs tt) (hv : ∀ i ∈ vs', i ∈ vs)
    (hb : PBd Y elt gens scope pos (k + 1) vs' tb) (hs : ∀ x, foldedSetIterable iter Y.env x = pure x := by intro _; rfl) : PBd Y elt gens scope pos k vs (bF wi g tt tb vs) where
  syn := fun g hg => by
    rw [hk] at hg
    obtain rfl := Option.some.inj hg
    exact ⟨rfl, hs⟩
  run := fun D pins s σ H Nx E I h => by
    unfold innW
    rw [hk]
    have z := hi.run pins s σ H _ I h
    rw [hx] at z
    refine thnF z fun u s1 h1 => thnF h1 fun itv s2 h2 => ?_
    rcases h2 with ⟨it, fp, tn, J, H2, rfl, I2, T, st2, f2, q⟩
    have lp := turns_run (s1 := s2) (Z := Nx) (R := fun r s3 => match r with
      | .ok _ => ∃ σ' H', Inv Y pins σ' H' s3 ∧ σ'.length = σ.length ∧ (∀ (j : Nat) v, j ∉ vs → σ[j]? = some (some v) → σ'[j]? = some (some v)) ∧ Nx H'
      | .error _ => False) hx hc hk hg ht hv hb T (I2.weak (wipe_length _ _) fun j v e => (wipe_some e).1) st2 (fun H' hn b hb => ⟨hn b hb, (f2 b hb).2⟩) (fun b hb => (f2 b hb).1) q
      fun H' s' I' zz => ⟨wipe σ vs, H', I', wipe_length _ _, fun j v hj e => by rw [wipe_out hj]; exact e, zz⟩
    exact loop_start hk lp (T.self Y.A 0 _ _ _ st2 lp)
end
section
variable {X : Cx} {elt tg iter : Expr} {ifs : List Expr} {gr : List Comprehension} {scope : Scope} {pos : Pos}
theorem lcB_core {pins : List (Addr × Obj)} {s : Shared} {σ : L2.St} {H : Hp} {Q : VK} {own : List (Str × Nat)} {vs' : List Nat} {pos' : Pos} {wi : TI} {g : TG} {tt : TT} {tb : TBd} {use : Option (Value → Sem Unit)} {Qf : Value → Shared → Prop}
    (hc : X.calm = true) (hN : X.N.Nodup) (I : Inv X pins σ H s) (hi : PI X tg iter wi) (ok : BlkOk X.N X.env.scope scope own) (hv : ∀ i ∈ vs', i ∈ own.map (·.2))
    (hg : ∀ (s : Shared) (H : Hp) (C : Addr) (cl : List (Str × Addr)) (fp : List Addr), PG (X.blk s H scope (compEnvC scope cl C X.env) fp) tg g)
    (ht : ∀ (s : Shared) (H : Hp) (C : Addr) (cl : List (Str × Addr)) (fp : List Addr), PTs (X.blk s H scope (compEnvC scope cl C X.env) fp) ifs tt)
    (hb : ∀ (s : Shared) (H : Hp) (C : Addr) (cl : List (Str × Addr)) (fp : List Addr), PBd (X.blk s H scope (compEnvC scope cl C X.env) fp) elt (⟨tg, iter, ifs, 0⟩ :: gr) scope pos 1 vs' tb)
    (hs : ∀ x, foldedSetIterable iter X.env x = pure x) (h : tLcB wi g tt tb (own.map (·.2)) σ H Q)
    (hRR : ∀ (D C : Addr) (s' : Shared) (m : Str → Option Value) (H' : Hp), Inv X pins σ H' s' → Q (.ref D) H' → s'.heap.Ns C m → FpOk X pins H' C → compPost (model X.prog X.w) X.A X.xe use Qf (.ref D) C (.ok .next) s') :
    wpAny (model X.prog X.w) X.A (comprehension (.ListComp elt (⟨tg, iter, ifs, 0⟩ :: gr) scope pos) scope X.env pos' (newList []) false (eval iter X.env) use) Qf X.xe s := by
  have fr : ∀ y ∈ scope.names, y.2 = .free → ∃ c, X.env.cells.lookup y.1 = some c := fun y hy e => (ok.free y hy e).elim (fun z => I.ok.has _ (.inl z)) fun z => I.ok.has _ (.inr z)
  refine wpAny_comprehension_free (use := use) rfl hs (closure_ok fr) ok.kind (fun y hy e => (by rw [ok.uniq y hy, e] : scope.names.lookup y.1 = some .local)) ?_
  refine thn (hi.run pins s σ H _ I h) fun u t1 h1 => thn h1 fun itv t2 h2 => ?_
  rcases h2 with ⟨it, fp, tn, J, H2, rfl, I2, T, st2, f2, q⟩
  refine wpAny_newObj_type (newEnv_comp ?_) (Nat.zero_le _)
  generalize eD : t2.heap.objs.size = D
  have nD : H2 D = none := I2.hok.fresh (Nat.le_of_eq eD)
  have qT := q D nD
  generalize e3 : ({ t2 with heap := t2.heap.push { cls := .type "list", data := .seq ([] : List Value).toArray } } : Shared) = t3
  have hp3 : t3.heap = t2.heap.push { cls := .type "list", data := .seq ([] : List Value).toArray } := by rw [← e3]
  have I3 : Inv X pins σ (upd H2 D (.lst [])) t3 := by
    rw [← e3]
    refine I2.laid (t' := t2.toks) (fun b o e => Heap.get?_push_of_some _ e) (Nat.le_of_eq eD) ⟨Nat.zero_le _, [], 0, .nil, ?_⟩
    exact eD ▸ Heap.get?_push_size _ rfl
  have lt2 : ∀ b ∈ fp, b < t2.heap.objs.size := fun b hb => (T.obj _ _ st2 b hb).elim fun o z => Heap.lt_size z.1
  have f3 : ∀ b ∈ fp, FpOk X pins (upd H2 D (.lst [])) b ∧ b < t3.heap.objs.size := fun b hb =>
    ⟨⟨by rw [upd_ne (by rw [← eD]; exact Nat.ne_of_lt (lt2 b hb))]; exact (f2 b hb).1, (f2 b hb).2⟩, by rw [hp3, Heap.size_push]; exact Nat.lt_succ_of_lt (lt2 b hb)⟩
  have st3 : tn 0 t3.heap := T.keep _ _ _ st2 fun b _ o e => hp3 ▸ Heap.get?_push_of_some _ e
  have I4 := block_start (X := X) (pins := pins) I3 ok hN f3
  generalize ecl : cellsFrom (t3.heap.objs.size + 1) scope.names (cloFrom X.env.cells scope.names []) = cl at I4
  generalize e4 : ({ t3 with heap := pushCells (t3.heap.push { cls := .type "dict", data := .dict #[] }) scope.names } : Shared) = t4 at I4
  have st4 : tn 0 t4.heap := T.keep _ _ _ st3 fun b _ o e => by
    rw [← e4]
    exact pushCells_keeps _ _ _ _ (Heap.get?_push_of_some _ e)
  have pg := hg t3 (upd H2 D (.lst [])) t3.heap.objs.size cl fp
  have pt := ht t3 (upd H2 D (.lst [])) t3.heap.objs.size cl fp
  have pb := hb t3 (upd H2 D (.lst [])) t3.heap.objs.size cl fp
  have lp := turns_run (Y := X.blk t3 (upd H2 D (.lst [])) scope (compEnvC scope cl t3.heap.objs.size X.env) fp) (s1 := t4) (pins := []) (Z := fun H' => Q (.ref D) H') (R := compPost (model X.prog X.w) X.A X.xe use Qf (.ref D) t3.heap.objs.size) rfl hc rfl pg pt hv pb T I4 st4
    (fun H' hn b hb => ⟨hn b hb, (I4.ok.exf b hb).1, I4.ok.exfs b hb, .inl hb, fun x c e => (I4.ok.exf b hb).2 x c e, fun p hp => absurd hp List.not_mem_nil⟩) (fun b hb => (f3 b hb).1.1) qT
    fun H5 s6 I6 zz => by
      have I7 : Inv X pins σ H5 s6 := I3.call' (ch := fp) I6.os I6.base I6.hok I6.bare fun b hb =>
        have z := (f3 b hb).1.2
        ⟨z.2.2.1, z.1, z.2.2.2.1, z.2.2.2.2⟩
      obtain ⟨m, hn, _⟩ := I6.loc
      exact hRR D t3.heap.objs.size s6 m H5 I7 zz hn (I3.fpOk (Nat.le_refl _) I6.free)
  subst eD e4 ecl
  exact codeAny_compStart_list lp (T.self X.A 0 _ _ _ st4 lp)
/-- as a value -/
theorem pe_lcB {own : List (Str × Nat)} {vs' : List Nat} {wi : TI} {g : TG} {tt : TT} {tb : TBd} (hc : X.calm = true) (hN : X.N.Nodup) (hi : PI X tg iter wi) (ok : BlkOk X.N X.env.scope scope own) (hv : ∀ i ∈ vs', i ∈ own.map (·.2))
    (hg : ∀ (s : Shared) (H : Hp) (C : Addr) (cl : List (Str × Addr)) (fp : List Addr), PG (X.blk s H scope (compEnvC scope cl C X.env) fp) tg g)
    (ht : ∀ (s : Shared) (H : Hp) (C : Addr) (cl : List (Str × Addr)) (fp : List Addr), PTs (X.blk s H scope (compEnvC scope cl C X.env) fp) ifs tt)
    (hb : ∀ (s : Shared) (H : Hp) (C : Addr) (cl : List (Str × Addr)) (fp : List Addr), PBd (X.blk s H scope (compEnvC scope cl C X.env) fp) elt (⟨tg, iter, ifs, 0⟩ :: gr) scope pos 1 vs' tb) (hs : ∀ x, foldedSetIterable iter X.env x = pure x := by intro _; rfl) :
    PE X (.ListComp elt (⟨tg, iter, ifs, 0⟩ :: gr) scope pos) (tLcB wi g tt tb (own.map (·.2))) := by
  constructor
  intro pins s σ H Q I h
  rw [eval_ListComp]
  refine lcB_core hc hN I hi ok hv hg ht hb hs h fun D C s' m H' I' q hn f => ⟨m, hn, fun h2 sb => ?_⟩
  exact ⟨.ref D, H', I'.turned (t' := s'.toks) (fun b o hb e => (sb.2 b hb).trans e) f.1 f.2.1 f.2.2.2.1 f.2.2.2.2.1 f.2.2.2.2.2, rfl, q⟩
end
end Lw

namespace Lw
open PySem.Spec PySem L2 PyProof.Rows
open Evl (Ex Ex.refl Ex.trans Ex.new Ex.off ex_rd ex_l ex_t)
section
variable {K : Fg} {B : Bg} {G G' H : Hp} {σ : L2.St} {te ta : TE} {tr : TA} {tt : TT} {tb : TBd} {d : PyData} {ds es new : List PyData}
/-- a body that appends `new` -/
def EvBd (K : Fg) (B : Bg) (tb : TBd) (σ : L2.St) (G : Hp) (new : List PyData) : Prop :=
  ∀ (D : Addr) (G1 H1 G3 H3 : Hp) (xs : List V) (es : List PyData) (Nx : Hp → Prop), Ex G G3 → Cel K B G → H1 D = none → ¬ isB B D → Ext K B G1 H1 G3 H3 → G3 D = none → H3 D = some (.lst xs) → DpAll K G3 xs es → es.length + new.length ≤ 100000 →
    (∀ G4 H4 ys, Ext K B G1 H1 G4 H4 → Ex G3 G4 → G4 D = none → H4 D = some (.lst ys) → DpAll K G4 ys (es ++ new) → Nx H4) → tb D σ H3 Nx
theorem EvBd.is {m : List PyData} (h : EvBd K B tb σ G new) (e : new = m) : EvBd K B tb σ G m := e ▸ h
theorem EvBd.mono (e : Ex G G') (c : Cel K B G) (h : EvBd K B tb σ G new) : EvBd K B tb σ G' new := fun D G1 H1 G3 H3 xs es Nx e3 _ => h D G1 H1 G3 H3 xs es Nx (e.trans e3) c
theorem bd_E (h : EvD K B te σ G d) : EvBd K B (bE te) σ G [d] := fun D G1 H1 G3 H3 xs es Nx e3 c hD nb X g3 h3 hx hl k => by
  refine h.mono e3 c H3 X.ok _ fun y G5 H5 X5 dy => ?_
  have h5 := X5.hh D _ nb h3
  have g5 := X5.fr D _ h3 g3
  have z : es.length + 1 ≤ 100000 := hl
  refine ⟨xs, h5, by rw [dpAll_len hx]; exact szl (by omega), ?_⟩
  have Y := X.trans X5
  refine k G5 _ (xs ++ [y]) ⟨Y.gg, fun a u n q => ?_, Y.fr, Y.ok.mut g5 nb⟩ X5.gg g5 upd_same (dpAll_app (dpAll_mono X5.gg hx) (.cons dy .nil))
  rw [upd_ne (ne_of_none q hD)]
  exact Y.hh a u n q
/-- a test ahead of it -/
theorem bd_T {b : Bool} (ht : EvB K B tt σ G b) (h : b = true → EvBd K B tb σ G new) (hn : b = false → new = []) : EvBd K B (fun D σ H Nx => tt σ H fun c H3 => if c = true then tb D σ H3 Nx else Nx H3) σ G new := fun D G1 H1 G3 H3 xs es Nx e3 c hD nb X g3 h3 hx hl k => by
  refine ht.mono e3 c H3 X.ok _ fun G4 H4 X4 => ?_
  have g4 := X4.fr D _ h3 g3
  have h4 := X4.hh D _ nb h3
  have a4 := dpAll_mono X4.gg hx
  cases b with
  | false =>
    show (if false = true then _ else _)
    rw [ifF]
    refine k G4 H4 xs (X.trans X4) X4.gg g4 h4 ?_
    rw [hn rfl, List.append_nil]
    exact a4
  | true =>
    refine (show (if true = true then _ else _) from ?_)
    rw [if_pos rfl]
    exact h rfl D G1 H1 G4 H4 xs es Nx (e3.trans X4.gg) c hD nb (X.trans X4) g4 h4 a4 hl fun G5 H5 ys X5 e5 => k G5 H5 ys X5 (X4.gg.trans e5)
theorem wipe_set {i : Nat} {v : V} : ∀ {vs : List Nat} {σ : L2.St}, i ∈ vs → wipe ((wipe σ vs).set i (some v)) vs = wipe σ vs := by
  intro vs σ hi
  apply List.ext_getElem?
  intro j
  by_cases c : j ∈ vs
  · have z : ∀ {us : List Nat} {τ : L2.St}, j ∈ us → (wipe τ us)[j]? = if j < τ.length then some none else none := by
      intro us
      induction us with
      | nil => intro τ h; cases h
      | cons u us ih =>
        intro τ h
        unfold wipe
        by_cases e : u = j
        · subst e
          rw [List.getElem?_set]
          rw [if_pos rfl, wipe_length]
        · rw [List.getElem?_set_ne e]
          exact ih ((List.mem_cons.mp h).resolve_left fun q => e q.symm)
    rw [z c, z c, List.length_set, wipe_length]
  · rw [wipe_out c, wipe_out c, List.getElem?_set_ne (fun e : i = j => c (by rw [← e]; exact hi)), wipe_out c]
theorem turns_range {n i : Nat} {vs : List Nat} {D : Addr} {H1 : Hp} {Z : Hp → Prop} (Pv : Nat → Hp → Prop) (hi : i ∈ vs) (h0 : Pv 0 H1)
    (hs : ∀ (j : Nat) H, j < n → Pv j H → (tt ((wipe σ vs).set i (some (.int (j : Int)))) H fun b H3 => if b = true then tb D ((wipe σ vs).set i (some (.int (j : Int)))) H3 (Pv (j + 1)) else Pv (j + 1) H3)) (hd : ∀ H, Pv n H → Z H) :
    tTurns (Itr 0 n) (gName i) tt tb vs D σ H1 Z := by
  refine ⟨fun j m H => m = n - j ∧ j ≤ n ∧ Pv j H, ⟨n, by omega, Nat.zero_le _, h0⟩, ?_⟩
  rintro j m H ⟨rfl, hj, p⟩
  by_cases c : j < n
  · refine .inr ⟨c, Pv (j + 1), fun H' p' => ⟨n - (j + 1), by omega, rfl, c, p'⟩, fun x H' y => ?_⟩
    obtain ⟨rfl, rfl⟩ := y
    rw [Int.zero_add]
    exact ⟨wipe_set hi, hs j _ c p⟩
  · obtain rfl : j = n := by omega
    exact .inl ⟨Nat.le_refl j, hd H p⟩
theorem flat_one {α β : Type} (f : Nat → List β) (j : Nat) : (List.range (j + 1)).flatMap f = (List.range j).flatMap f ++ f j := by
  rw [List.range_succ, List.flatMap_append, List.flatMap_cons, List.flatMap_nil, List.append_nil]
theorem flat_len {β : Type} (f : Nat → List β) {j n : Nat} (h : j ≤ n) : ((List.range j).flatMap f).length ≤ ((List.range n).flatMap f).length := by
  obtain ⟨m, rfl⟩ := Nat.exists_eq_add_of_le h
  rw [List.range_add, List.flatMap_append, List.length_append]
  omega
/-- for x in range(n) if t, within -/
theorem bd_R {i n : Nat} {vs : List Nat} {b : Nat → Bool} {f : Nat → List PyData} (ha : EvA K B tr σ G [.int (n : Int)]) (hi : i ∈ vs)
    (ht : ∀ j, j < n → EvB K B tt ((wipe σ vs).set i (some (.int (j : Int)))) G (b j)) (hb : ∀ j, j < n → b j = true → EvBd K B tb ((wipe σ vs).set i (some (.int (j : Int)))) G (f j)) (hn : ∀ j, j < n → b j = false → f j = []) (hm : n ≤ 100000) :
    EvBd K B (bF (iRng1 tr) (gName i) tt tb vs) σ G ((List.range n).flatMap f) := fun D G1 H1 G3 H3 xs es Nx e3 c hD nb X g3 h3 hx hl k => by
  refine ha.mono e3 c H3 X.ok _ fun us G4 H4 X4 dv => ?_
  have ev : us = [.int (n : Int)] := by
    cases dv with
    | cons h a =>
      cases a
      rw [dp_int h]
  refine ⟨(n : Int), ev, by omega, by omega, ?_⟩
  show tTurns (Itr 0 (n : Int).toNat) (gName i) tt tb vs D σ H4 Nx
  rw [Int.toNat_natCast]
  refine turns_range (fun j H' => ∃ G' ys, Ext K B G1 H1 G' H' ∧ Ex G3 G' ∧ G' D = none ∧ H' D = some (.lst ys) ∧ DpAll K G' ys (es ++ (List.range j).flatMap f)) hi ⟨G4, xs, X.trans X4, X4.gg, X4.fr D _ h3 g3, X4.hh D _ nb h3, ?_⟩ ?_ ?_
  · rw [List.range_zero, List.flatMap_nil, List.append_nil]
    exact dpAll_mono X4.gg hx
  · rintro j H' hj ⟨G', ys, X', e', g', h', a'⟩
    have lj := flat_len f (show j + 1 ≤ n from hj)
    rw [flat_one (α := Nat), List.length_append] at lj
    refine bd_T (ht j hj) (hb j hj) (hn j hj) D G1 H1 G' H' ys _ _ (e3.trans e') c hD nb X' g' h' a' (by rw [List.length_append]; omega) fun G5 H5 zs X5 e5 g5 h5 a5 => ⟨G5, zs, X5, e'.trans e5, g5, h5, ?_⟩
    rw [flat_one (α := Nat), ← List.append_assoc]
    exact a5
  · rintro H' ⟨G', ys, X', e', g', h', a'⟩
    exact k G' H' ys X' e' g' h' a'
/-- [.. for x in range(n) if t ..] -/
theorem ef_lcBR {i n : Nat} {vs : List Nat} {b : Nat → Bool} {f : Nat → List PyData} (ha : EvA K B tr σ G [.int (n : Int)]) (hi : i ∈ vs)
    (ht : ∀ j, j < n → EvB K B tt ((wipe σ vs).set i (some (.int (j : Int)))) G (b j)) (hb : ∀ j, j < n → b j = true → EvBd K B tb ((wipe σ vs).set i (some (.int (j : Int)))) G (f j)) (hn : ∀ j, j < n → b j = false → f j = []) (hm : n ≤ 100000) (hl : ((List.range n).flatMap f).length ≤ 100000) :
    EvF K B (tLcB (iRng1 tr) (gName i) tt tb vs) σ G ((List.range n).flatMap f) := fun H e Q q =>
  ha H e _ fun us G1 H1 X dv => by
    have ev : us = [.int (n : Int)] := by
      cases dv with
      | cons h a =>
        cases a
        rw [dp_int h]
    refine ⟨(n : Int), ev, by omega, by omega, fun D hD => ?_⟩
    have nb := X.ok.b.ne hD
    show tTurns (Itr 0 (n : Int).toNat) (gName i) tt tb vs D σ (upd H1 D (.lst [])) _
    rw [Int.toNat_natCast]
    refine turns_range (fun j H' => ∃ G' ys, Ext K B G1 H1 G' H' ∧ G' D = none ∧ H' D = some (.lst ys) ∧ DpAll K G' ys ((List.range j).flatMap f)) hi ⟨G1, [], Ext.loose X.ok hD, X.ok.e.off hD, upd_same, .nil⟩ ?_ ?_
    · rintro j H' hj ⟨G', ys, X', g', h', a'⟩
      have lj := flat_len f (show j + 1 ≤ n from hj)
      rw [flat_one (α := Nat), List.length_append] at lj
      refine bd_T (ht j hj) (hb j hj) (hn j hj) D G1 H1 G' H' ys _ _ (X.gg.trans X'.gg) e.c hD nb X' g' h' a' (by omega) fun G5 H5 zs X5 e5 g5 h5 a5 => ⟨G5, zs, X5, g5, h5, ?_⟩
      rw [flat_one (α := Nat)]
      exact a5
    · rintro H' ⟨G', ys, X', g', h', a'⟩
      exact q D ys G' H' (X.trans X') (X.old nb hD) g' nb h' a'
variable {D : Ends} {t : TS}
theorem st_forL {i : Nat} {Pv : Nat → L2.St → Hp → Hp → Prop} (h : EvD K B te σ G (.list ds)) (e : Ok K B G H) (h0 : ∀ G2 H2, Ext K B G H G2 H2 → Pv 0 σ G2 H2)
    (hs : ∀ G1 H1, Ext K B G H G1 H1 → ∀ (j : Nat) d v σ' G' H', ds[j]? = some d → Ext K B G1 H1 G' H' → Pv j σ' G' H' → Dp K G' v d →
      t (lpE D tNext fun σ2 H2 => ∃ G2, Ext K B G1 H1 G2 H2 ∧ Pv (j + 1) σ2 G2 H2) (σ'.set i (some v)) H')
    (hd : ∀ σ' G' H', Ext K B G H G' H' → Pv ds.length σ' G' H' → D.nx σ' H') : tFor (iList K te) (gName i) t D σ H := sq_forL (u := tNext) h e h0 hs hd
theorem es_tup {S : List PyData → Prop} (h : EvAS K B tr σ G S) (hl : ∀ ds, S ds → ds.length ≤ 100000) : EvS K B (tTup tr) σ G (fun d => ∃ ds, d = .tuple ds ∧ S ds) := fun H e Q q =>
  h H e _ fun ds vs G2 H2 s X dv => ⟨by rw [dpAll_len dv]; exact sz (hl ds s), fun p hp =>
    q _ _ _ _ ⟨ds, rfl, s⟩ (X.trans (Ext.new X.ok hp)) (.tup (SqT.of upd_same) (dpAll_mono (Ex.new (X.ok.e.off hp)) dv))⟩
end
end Lw

namespace Lw
open PySem.Spec PySem L2 PyProof.Rows
open Evl (Ex Ex.refl Ex.trans Ex.new Ex.off ex_rd ex_l ex_t)
/-! ### the round of x -> 5 x + 1 by any power of two -/
def gS : Nat → Nat
  | 0 => 0
  | b + 1 => gS b * 5 + 1
theorem gS_lcg (m : Nat) : ∀ b, lcgN m b = gS b % (m + 1)
  | 0 => (Nat.zero_mod _).symm
  | b + 1 => by
    show (lcgN m b * 5 + 1) % (m + 1) = (gS b * 5 + 1) % (m + 1)
    rw [gS_lcg m b, Nat.add_mod, Nat.mul_mod, Nat.mod_mod, ← Nat.mul_mod, ← Nat.add_mod]
theorem five_gS : ∀ b, 5 ^ b = 4 * gS b + 1
  | 0 => rfl
  | b + 1 => by
    rw [Nat.pow_succ, five_gS b]
    show (4 * gS b + 1) * 5 = 4 * (gS b * 5 + 1) + 1
    omega
theorem gS_add (a : Nat) : ∀ b, gS (a + b) = gS b * (4 * gS a + 1) + gS a
  | 0 => by
    show gS a = 0 * _ + gS a
    omega
  | b + 1 => by
    show gS (a + b) * 5 + 1 = (gS b * 5 + 1) * (4 * gS a + 1) + gS a
    rw [gS_add a b, Nat.add_mul, Nat.add_mul, Nat.mul_assoc, Nat.mul_comm _ 5, ← Nat.mul_assoc, Nat.mul_assoc (gS b) 5, ← Nat.mul_comm 5]
    have e : gS b * (5 * (4 * gS a + 1)) = 5 * (gS b * (4 * gS a + 1)) := by rw [← Nat.mul_assoc, ← Nat.mul_assoc, Nat.mul_comm (gS b) 5]
    generalize gS b * (4 * gS a + 1) = q at *
    omega
theorem gS_two : ∀ n, ∃ o, gS (2 ^ n) = 2 ^ n * (2 * o + 1)
  | 0 => ⟨0, rfl⟩
  | n + 1 => by
    obtain ⟨o, e⟩ := gS_two n
    have e2 : 2 ^ (n + 1) = 2 ^ n + 2 ^ n := by rw [Nat.pow_succ]; omega
    refine ⟨2 * o * gS (2 ^ n) + o + gS (2 ^ n), ?_⟩
    rw [e2, gS_add]
    generalize hg : gS (2 ^ n) = g at e ⊢
    have e3 : g * (4 * g + 1) + g = g * (2 * (2 * g + 1)) := by
      rw [show 2 * (2 * g + 1) = 4 * g + 1 + 1 by omega, Nat.mul_add g (4 * g + 1) 1, Nat.mul_one]
    rw [e3]
    conv => lhs; rw [e]
    rw [Nat.mul_assoc]
    have e4 : (2 * o + 1) * (2 * (2 * g + 1)) = 2 * (2 * (2 * o * g + o + g) + 1) := by
      rw [Nat.add_mul, Nat.mul_add, Nat.mul_add]
      have : 2 * o * (2 * (2 * g)) = 4 * (2 * o * g) := by
        rw [show 2 * (2 * g) = 4 * g by omega, ← Nat.mul_assoc, Nat.mul_comm (2 * o) 4, Nat.mul_assoc]
      omega
    have e5 : (2 * o + 1) * (2 * (2 * (2 ^ n * (2 * o + 1)) + 1)) = (2 * o + 1) * (2 * (2 * g + 1)) := by rw [← e]
    rw [show 2 ^ n + 2 ^ n = 2 ^ n * 2 by omega, Nat.mul_assoc]
    first
      | rw [e4]
      | (rw [e5, e4])
theorem gS_full : ∀ n j, j < 2 ^ n → ∃ b, b < 2 ^ n ∧ gS b % 2 ^ n = j
  | 0, j, h => ⟨0, by decide, by
    have : j = 0 := by omega
    rw [this]
    rfl⟩
  | n + 1, j, h => by
    have e2 : 2 ^ (n + 1) = 2 ^ n + 2 ^ n := by rw [Nat.pow_succ]; omega
    have pos : 0 < 2 ^ n := Nat.pow_pos (by decide)
    obtain ⟨b, hb, e⟩ := gS_full n (j % 2 ^ n) (Nat.mod_lt _ pos)
    obtain ⟨o, eo⟩ := gS_two n
    have e6 : gS (2 ^ n + b) = gS b + 2 ^ n + (2 ^ n + 2 ^ n) * (2 * gS b * (2 * o + 1) + o) := by
      rw [gS_add, eo, Nat.mul_add, Nat.mul_one]
      have a1 : gS b * (4 * (2 ^ n * (2 * o + 1))) = (2 ^ n + 2 ^ n) * (2 * gS b * (2 * o + 1)) := by
        rw [show 2 ^ n + 2 ^ n = 2 * 2 ^ n by omega]
        generalize 2 ^ n = p
        generalize 2 * o + 1 = r
        generalize gS b = g
        have l1 : g * (4 * (p * r)) = 4 * (p * (g * r)) := by
          rw [Nat.mul_left_comm g 4, Nat.mul_left_comm g p]
        have l2 : 2 * p * (2 * g * r) = 4 * (p * (g * r)) := by
          rw [Nat.mul_assoc 2 g, Nat.mul_assoc 2 p, Nat.mul_left_comm p 2, ← Nat.mul_assoc 2 2]
        rw [l1, l2]
      have a2 : 2 ^ n * (2 * o + 1) = 2 ^ n + (2 ^ n + 2 ^ n) * o := by
        rw [Nat.mul_add, Nat.mul_one, Nat.add_mul, ← Nat.mul_assoc, Nat.mul_comm (2 ^ n) 2, show 2 * 2 ^ n = 2 ^ n + 2 ^ n by omega, Nat.add_mul]
        omega
      rw [a1, a2, Nat.mul_add (2 ^ n + 2 ^ n)]
      omega
    have mo : ∀ x : Nat, x < 2 ^ n + 2 ^ n → x % 2 ^ n = if x < 2 ^ n then x else x - 2 ^ n := fun x hx => by
      split
      · rename_i c
        exact Nat.mod_eq_of_lt c
      · rename_i c
        rw [Nat.mod_eq_sub_mod (by omega), Nat.mod_eq_of_lt (by omega)]
    have hr : gS b % (2 ^ n + 2 ^ n) < 2 ^ n + 2 ^ n := Nat.mod_lt _ (by omega)
    have er : gS b % (2 ^ n + 2 ^ n) % 2 ^ n = j % 2 ^ n := by
      rw [Nat.mod_mod_of_dvd _ ⟨2, by omega⟩, e]
    rw [e2] at h
    rw [mo _ hr, mo j h] at er
    rw [e2]
    by_cases c : gS b % (2 ^ n + 2 ^ n) = j
    · exact ⟨b, by omega, c⟩
    · refine ⟨2 ^ n + b, by omega, ?_⟩
      rw [e6, Nat.add_mul_mod_self_left, Nat.add_mod, Nat.mod_eq_of_lt (show 2 ^ n < 2 ^ n + 2 ^ n by omega)]
      generalize gS b % (2 ^ n + 2 ^ n) = r at *
      by_cases c1 : r < 2 ^ n
      · rw [if_pos c1] at er
        by_cases c2 : j < 2 ^ n
        · rw [if_pos c2] at er
          exact absurd er c
        · rw [if_neg c2] at er
          rw [Nat.mod_eq_of_lt (by omega)]
          omega
      · rw [if_neg c1] at er
        by_cases c2 : j < 2 ^ n
        · rw [if_pos c2] at er
          rw [Nat.mod_eq_sub_mod (by omega), Nat.mod_eq_of_lt (by omega)]
          omega
        · rw [if_neg c2] at er
          omega
/-- the masks that come -/
def Msk (m : Nat) : Prop := ∃ n, 3 ≤ n ∧ n ≤ 13 ∧ m + 1 = 2 ^ n
theorem Msk.odd {m : Nat} (h : Msk m) : m % 2 = 1 := by
  obtain ⟨n, h3, _, e⟩ := h
  obtain ⟨k, rfl⟩ : ∃ k, n = k + 1 := ⟨n - 1, by omega⟩
  rw [Nat.pow_succ] at e
  omega
theorem Msk.le {m : Nat} (h : Msk m) : 7 ≤ m ∧ m ≤ 8191 := by
  obtain ⟨n, h3, h13, e⟩ := h
  have a : 2 ^ 3 ≤ 2 ^ n := Nat.pow_le_pow_right (by decide) h3
  have b : 2 ^ n ≤ 2 ^ 13 := Nat.pow_le_pow_right (by decide) h13
  omega
theorem Msk.all {m : Nat} (h : Msk m) {i j : Nat} (hi : i ≤ m) (hj : j ≤ m) : ∃ k, k ≤ m ∧ lcgI m i k = j := by
  obtain ⟨n, _, _, e⟩ := h
  have one : ∀ j, j ≤ m → ∃ b, b ≤ m ∧ lcgN m b = j := fun j hj => by
    obtain ⟨b, hb, eb⟩ := gS_full n j (by omega)
    exact ⟨b, by omega, by rw [gS_lcg, e]; exact eb⟩
  have round : lcgN m (m + 1) = 0 := by
    obtain ⟨o, eo⟩ := gS_two n
    rw [gS_lcg, e, eo]
    exact Nat.mul_mod_right _ _
  have turn : ∀ k, lcgN m (m + 1 + k) = lcgN m k := fun k => by
    rw [← lcgN_add, round]
    have z := lcgN_add m 0 k
    rw [Nat.zero_add] at z
    exact z
  obtain ⟨a, ha, ea⟩ := one i hi
  obtain ⟨b, hb, eb⟩ := one j hj
  rw [← ea]
  by_cases c : a ≤ b
  · exact ⟨b - a, by omega, by rw [lcgN_add, show a + (b - a) = b by omega]; exact eb⟩
  · exact ⟨m + 1 + b - a, by omega, by rw [lcgN_add, show a + (m + 1 + b - a) = m + 1 + b by omega, turn]; exact eb⟩
theorem Msk.run {m : Nat} (hm : Msk m) (h : Int) {j : Nat} (hj : j ≤ m) : ∃ n, n ≤ m + 12 ∧ runI m (SetTable.bits h) n = j := by
  obtain ⟨k, hk, e⟩ := hm.all (runI_le m (SetTable.bits h) 12) hj
  exact ⟨12 + k, by omega, (runI_tail (bits_lt h) k).trans e⟩
theorem Msk.way {m : Nat} (hm : Msk m) (h : Int) {j : Nat} (hj : j ≤ m) : ∃ k, k < 10 * SetTable.turns m ∧ way m h k = j := by
  obtain ⟨n, hn, e⟩ := hm.run h hj
  rcases run_nth m (SetTable.bits h) n with ⟨k, hk, e2⟩
  refine ⟨k, Nat.lt_of_le_of_lt hk (by unfold SetTable.turns; omega), ?_⟩
  show (nth m (runAt m (SetTable.bits h % (m + 1)) (SetTable.bits h)) k).j = j
  rw [e2]
  exact e
theorem way_bd (m : Nat) (h : Int) (k : Nat) : way m h k ≤ m := by
  have b0 : SetTable.bits h % (m + 1) ≤ m := Nat.le_of_lt_succ (Nat.mod_lt _ (Nat.succ_pos _))
  have z := nth_in (m := m) k (runAt m (SetTable.bits h % (m + 1)) (SetTable.bits h)) (by
    have r := runEnd_bd b0
    refine (show SetTable.bits h % (m + 1) + (SetTable.runEnd m (SetTable.bits h % (m + 1)) - SetTable.bits h % (m + 1)) ≤ m from ?_)
    omega)
  exact Nat.le_trans (Nat.le_add_right _ _) z
theorem above_go (n : Nat) : ∀ f a, n < 2 ^ (a + f) → ∃ b, a ≤ b ∧ SetTable.sizeAbove.go n f (2 ^ a) = 2 ^ b ∧ n < 2 ^ b ∧ (b = a ∨ 2 ^ (b - 1) ≤ n)
  | 0, a, h => ⟨a, Nat.le_refl _, rfl, h, .inl rfl⟩
  | f + 1, a, h => by
    by_cases c : 2 ^ a ≤ n
    · obtain ⟨b, h1, h2, h3, h4⟩ := above_go n f (a + 1) (by rw [show a + 1 + f = a + (f + 1) by omega]; exact h)
      refine ⟨b, by omega, ?_, h3, .inr ?_⟩
      · show (if 2 ^ a ≤ n then SetTable.sizeAbove.go n f (2 ^ a * 2) else 2 ^ a) = 2 ^ b
        rw [if_pos c, ← Nat.pow_succ]
        exact h2
      · rcases h4 with rfl | h4
        · exact c
        · exact h4
    · refine ⟨a, Nat.le_refl _, ?_, by omega, .inl rfl⟩
      show (if 2 ^ a ≤ n then SetTable.sizeAbove.go n f (2 ^ a * 2) else 2 ^ a) = 2 ^ a
      rw [if_neg c]
theorem above_msk {u : Nat} (h : u ≤ 1000) : Msk (SetTable.sizeAbove (SetTable.grown u) - 1) ∧ SetTable.sizeAbove (SetTable.grown u) ≤ 8192 ∧ 4 * u ≤ SetTable.sizeAbove (SetTable.grown u) - 1 := by
  have eg : SetTable.grown u = u * 4 := by
    unfold SetTable.grown
    rw [if_neg (by omega)]
  obtain ⟨b, h1, h2, h3, h4⟩ := above_go (u * 4) 64 3 (by
    have : (2 : Nat) ^ 13 ≤ 2 ^ (3 + 64) := Nat.pow_le_pow_right (by decide) (by decide)
    omega)
  have e : SetTable.sizeAbove (SetTable.grown u) = 2 ^ b := by
    rw [eg]
    exact h2
  have hb : b ≤ 13 := by
    rcases h4 with rfl | h4
    · omega
    · rcases Nat.lt_or_ge 12 (b - 1) with c | c
      · have : (2 : Nat) ^ 13 ≤ 2 ^ (b - 1) := Nat.pow_le_pow_right (by decide) c
        omega
      · omega
  have pos : 0 < 2 ^ b := Nat.pow_pos (by decide)
  have le : 2 ^ b ≤ 2 ^ 13 := Nat.pow_le_pow_right (by decide) hb
  rw [e]
  exact ⟨⟨b, h1, hb, by omega⟩, le, by omega⟩
/-! ### the table: each item is found again from its hash -/
structure Tb (t : SetTable) (hs : List Int) : Prop where
  up : Ris t.place.toList
  no : t.dummies = #[]
  ln : t.place.size = hs.length
  le : ∀ j ∈ t.place.toList, j ≤ t.mask
  to : ∀ (i : Nat) (h : Int) (j : Nat), hs[i]? = some h → t.place.toList[i]? = some j → ∃ k, way t.mask h k = j ∧ ∀ c, c < k → way t.mask h c ∈ t.place.toList
section
variable {t : SetTable} {hs : List Int}
theorem Tb.len (T : Tb t hs) : t.place.toList.length = hs.length := by
  rw [Array.length_toList]
  exact T.ln
/-- the first empty slot of a way -/
theorem Tb.gap (T : Tb t hs) (hm : Msk t.mask) (hl : hs.length ≤ t.mask) (h : Int) : ∃ K, K < 10 * SetTable.turns t.mask ∧ way t.mask h K ∉ t.place.toList ∧ ∀ c, c < K → way t.mask h c ∈ t.place.toList := by
  obtain ⟨j, hj, nj⟩ := st_missing t.place.toList (t.mask + 1) (by rw [T.len]; omega)
  obtain ⟨k, hk, e⟩ := hm.way h (Nat.le_of_lt_succ hj)
  obtain ⟨K, h1, h2, h3⟩ := st_least (p := fun k => way t.mask h k ∉ t.place.toList) k (by rw [e]; exact nj)
  exact ⟨K, Nat.lt_of_le_of_lt h1 hk, h2, fun c hc => Classical.byContradiction fun z => h3 c hc z⟩
/-- what has that hash stands ahead of it -/
theorem Tb.ahead (T : Tb t hs) {h : Int} {K i : Nat} (hK : way t.mask h K ∉ t.place.toList) (hi : hs[i]? = some h) : ∃ c, c < K ∧ t.place.toList[i]? = some (way t.mask h c) := by
  have li : i < t.place.toList.length := by
    rw [T.len]
    exact (List.getElem?_eq_some_iff.mp hi).1
  have ej := List.getElem?_eq_getElem li
  obtain ⟨c, e, b⟩ := T.to i h _ hi ej
  refine ⟨c, Classical.byContradiction fun z => ?_, by rw [ej, e]⟩
  rcases Nat.lt_or_ge K c with q | q
  · exact hK (b K q)
  · obtain rfl : c = K := by omega
    rw [e] at hK
    exact hK (List.mem_of_getElem? ej)
theorem Tb.put (T : Tb t hs) {h : Int} {K : Nat} (hK : way t.mask h K ∉ t.place.toList) (hb : ∀ c, c < K → way t.mask h c ∈ t.place.toList) :
    SetTable.below t.place (way t.mask h K) ≤ hs.length ∧ Tb (t.put (way t.mask h K)).1 (hs.take (SetTable.below t.place (way t.mask h K)) ++ h :: hs.drop (SetTable.below t.place (way t.mask h K))) ∧ (t.put (way t.mask h K)).1.fill = hs.length + 1 := by
  have hj := way_bd t.mask h K
  generalize ej : way t.mask h K = j at hK hj ⊢
  have cut := (below_cut T.up j).1
  have p1 : SetTable.below t.place j ≤ t.place.toList.length := by
    rw [Array.length_toList]
    exact cut
  have p2 : SetTable.below t.place j ≤ hs.length := by
    rw [← T.len]
    exact p1
  have pl := put_place t j
  have sz : (t.put j).1.place.size = hs.length + 1 := by
    have z := congrArg List.length pl
    rw [Array.length_toList, len_ins _ p1, T.len] at z
    exact z
  have grow : ∀ {x : Nat}, x ∈ t.place.toList → x ∈ (t.put j).1.place.toList := fun hx => by
    rw [pl]
    exact mem_ins.2 (.inr hx)
  refine ⟨p2, ⟨ris_insert T.up fun e => hK (List.mem_of_getElem? ((Array.getElem?_toList ..).trans e)), put_dm T.no j, ?_, ?_, ?_⟩, ?_⟩
  · rw [len_ins _ p2]
    exact sz
  · intro x hx
    rw [pl] at hx
    rcases mem_ins.1 hx with rfl | hx
    · exact hj
    · exact T.le x hx
  · intro i h' j' e1 e2
    rw [tins_get hs p2] at e1
    rw [pl, tins_get _ p1] at e2
    have old : ∀ i, hs[i]? = some h' → t.place.toList[i]? = some j' → ∃ k, way t.mask h' k = j' ∧ ∀ c, c < k → way t.mask h' c ∈ (t.put j).1.place.toList := fun i a b =>
      (T.to i h' j' a b).elim fun k z => ⟨k, z.1, fun c hc => grow (z.2 c hc)⟩
    show ∃ k, way t.mask h' k = j' ∧ ∀ c, c < k → way t.mask h' c ∈ (t.put j).1.place.toList
    split at e1
    · rename_i c
      rw [if_pos c] at e2
      exact old i e1 e2
    · rename_i c
      rw [if_neg c] at e2
      split at e1
      · rename_i d
        rw [if_pos d] at e2
        cases e1
        cases e2
        exact ⟨K, ej, fun c hc => grow (hb c hc)⟩
      · rename_i d
        rw [if_neg d] at e2
        exact old (i - 1) e1 e2
  · show (t.put j).1.place.size + (t.put j).1.dummies.size = _
    rw [sz, put_dm T.no j]
    rfl
end
/-! ### laid anew -/
theorem free_at {m : Nat} (hm : Msk m) (owner : Array (Option Nat)) (h : Int) {j : Nat} (hj : j ≤ m) (hf : oAt owner j = none) :
    ∃ K, SetTable.layClean.free m owner (SetTable.turns m) (SetTable.bits h % (m + 1)) (SetTable.bits h) = some (way m h K) ∧ oAt owner (way m h K) = none ∧ ∀ c, c < K → oAt owner (way m h c) ≠ none := by
  obtain ⟨n, hn, e⟩ := hm.run h hj
  generalize eo : off m (SetTable.bits h % (m + 1)) (SetTable.bits h) n = q
  have hw : way m h q = j := by
    have z := congrArg SetTable.Probe.j (nth_off m n (SetTable.bits h % (m + 1)) (SetTable.bits h))
    rw [eo, itL_run] at z
    exact z.trans e
  obtain ⟨K, k1, k2, k3⟩ := st_least (p := fun k => oAt owner (way m h k) = none) q (by rw [hw]; exact hf)
  refine ⟨K, free_spec m owner (SetTable.turns m) n _ _ K (by unfold SetTable.turns; omega) (by rw [eo]; exact k1) (fun c hc => ?_) ?_, k2, k3⟩
  · exact Option.isNone_eq_false_iff.mpr (Option.isSome_iff_ne_none.mpr (k3 c hc))
  · exact Option.isNone_iff_eq_none.mpr k2
theorem own_step {m : Nat} (hm : Msk m) {done : List Int} {owner : Array (Option Nat)} (O : Own m done owner) (hl : done.length ≤ m) (h : Int) : ∃ j, SetTable.layClean.free m owner (SetTable.turns m) (SetTable.bits h % (m + 1)) (SetTable.bits h) = some j ∧ Own m (done ++ [h]) (owner.setIfInBounds j (some done.length)) := by
  obtain ⟨ps, lp, ip⟩ := O.ps
  obtain ⟨j0, l0, n0⟩ := st_missing ps (m + 1) (by omega)
  have z0 : oAt owner j0 = none := Classical.byContradiction fun z => n0 (ip j0 (Nat.le_of_lt_succ l0) z)
  obtain ⟨K, e1, e2, e3⟩ := free_at hm owner h (Nat.le_of_lt_succ l0) z0
  have jm := way_bd m h K
  generalize ej : way m h K = j at e1 e2 jm
  have self := oAt_set_self (owner := owner) (j := j) (some done.length) (by rw [O.sz]; omega)
  have keep : ∀ i, oAt owner i ≠ none → oAt (owner.setIfInBounds j (some done.length)) i ≠ none := fun i hi => by
    by_cases c : i = j
    · subst c
      exact absurd e2 hi
    · rw [oAt_set_ne _ c]
      exact hi
  refine ⟨j, e1, ⟨by rw [Array.size_setIfInBounds]; exact O.sz, fun i k hi e => ?_, fun k hk => ?_, j :: ps, by rw [List.length_cons, List.length_append, lp]; rfl, fun i hi e => ?_⟩⟩
  · by_cases c : i = j
    · subst c
      rw [self] at e
      obtain rfl := Option.some.inj e
      exact ⟨h, K, List.getElem?_concat_length, ej, fun c hc => keep _ (e3 c hc)⟩
    · rw [oAt_set_ne _ c] at e
      obtain ⟨h', K', a1, a2, a3⟩ := O.at_ i k hi e
      exact ⟨h', K', by rw [List.getElem?_append_left (List.getElem?_eq_some_iff.mp a1).1]; exact a1, a2, fun c hc => keep _ (a3 c hc)⟩
  · rw [List.length_append] at hk
    rcases Nat.lt_or_ge k done.length with c | c
    · obtain ⟨i, hi, e⟩ := O.all k c
      refine ⟨i, hi, ?_⟩
      by_cases d : i = j
      · subst d
        rw [e2] at e
        cases e
      · rw [oAt_set_ne _ d]
        exact e
    · obtain rfl : k = done.length := by
        have : ([h] : List Int).length = 1 := rfl
        omega
      exact ⟨j, jm, self⟩
  · by_cases c : i = j
    · rw [c]
      exact List.mem_cons_self
    · rw [oAt_set_ne _ c] at e
      exact List.mem_cons_of_mem _ (ip i hi e)
theorem own_all {m : Nat} (hm : Msk m) : ∀ (rest done : List Int) (owner : Array (Option Nat)), Own m done owner → done.length + rest.length ≤ m →
    ∃ o2, rest.foldl (stepF m) (some (owner, done.length)) = some (o2, (done ++ rest).length) ∧ Own m (done ++ rest) o2
  | [], done, owner, O, _ => by
    rw [List.append_nil]
    exact ⟨owner, rfl, O⟩
  | h :: rest, done, owner, O, hl => by
    have l1 : done.length + (rest.length + 1) ≤ m := hl
    obtain ⟨j, e, O1⟩ := own_step hm O (by omega) h
    have l2 : (done ++ [h]).length = done.length + 1 := List.length_append
    obtain ⟨o2, f, O2⟩ := own_all hm rest (done ++ [h]) _ O1 (by omega)
    rw [List.append_assoc, l2] at f
    rw [List.append_assoc] at O2
    refine ⟨o2, ?_, O2⟩
    rw [List.foldl_cons]
    rw [stepF_some e]
    exact f
theorem laid_tb (t : SetTable) {hs : Array Int} {wanted M : Nat} (ew : SetTable.sizeAbove wanted - 1 = M) (hM : Msk M) (hn : hs.size ≤ M) :
    ∃ t2 ord, t.relaid hs wanted = some (t2, ord) ∧ ord.toList.Perm (List.range hs.size) ∧ Tb t2 (ord.toList.map fun i => hs.getD i 0) ∧ t2.mask = M ∧ t2.led = t.led ∧ t2.plain = t.plain := by
  have hl : hs.toList.length = hs.size := Array.length_toList
  obtain ⟨owner, f, O⟩ := own_all hM hs.toList [] _ (Own.init M) (by rw [hl]; simpa using hn)
  have ec : SetTable.layClean M hs = some owner := by
    rw [layClean_eq, show hs.toList.foldl (stepF M) (some (Array.replicate (M + 1) none, 0)) = _ from f]
    rfl
  rw [List.nil_append] at O
  have er : t.relaid hs wanted = some (tabOf t M owner, ((liveOf M owner).map (·.2)).toArray) := by
    rw [relaid_eq, ew, ec]
    rfl
  obtain ⟨r1, r2⟩ := ris_live (fun j => owner.getD j none) (List.range (M + 1)) List.pairwise_lt_range
  have r1 : Ris ((liveOf M owner).map (·.1)) := r1
  have r2 : ∀ x ∈ (liveOf M owner).map (·.1), x ∈ List.range (M + 1) := r2
  have live := fun j k => mem_live (j := j) (k := k) O.sz
  have allk : ∀ k, k < hs.size → k ∈ (liveOf M owner).map (·.2) := fun k hk => by
    obtain ⟨j, b1, b2⟩ := O.all k (by rw [hl]; exact hk)
    exact List.mem_map.mpr ⟨(j, k), (live j k).2 ⟨b1, b2⟩, rfl⟩
  have len : (liveOf M owner).length = hs.size := by
    refine Nat.le_antisymm ?_ ?_
    · obtain ⟨ps, lp, ip⟩ := O.ps
      have nd : ((liveOf M owner).map (·.1)).Nodup := List.Pairwise.imp (fun {a b} (q : a < b) => Nat.ne_of_lt q) r1
      have z := nat_nodup_len _ ps nd fun x hx => by
        obtain ⟨⟨y, k⟩, hq, rfl⟩ := List.mem_map.mp hx
        obtain ⟨b1, b2⟩ := (live y k).1 hq
        exact ip y b1 (by rw [b2]; exact Option.some_ne_none k)
      rw [List.length_map, lp, hl] at z
      exact z
    · have z := nat_nodup_len (List.range hs.size) ((liveOf M owner).map (·.2)) List.nodup_range fun k hk => allk k (List.mem_range.mp hk)
      rw [List.length_range, List.length_map] at z
      exact z
  refine ⟨_, _, er, perm_range hs.size _ ((List.length_map _).trans len) allk, ⟨r1, rfl, ?_, fun x hx => Nat.le_of_lt_succ (List.mem_range.mp (r2 x hx)), fun i h j h1 h2 => ?_⟩, rfl, rfl, rfl⟩
  · show ((liveOf M owner).map (·.1)).length = (((liveOf M owner).map (·.2)).map _).length
    simp only [List.length_map]
  · have h1 : (((liveOf M owner).map (·.2)).map fun i => hs.getD i 0)[i]? = some h := h1
    have h2 : ((liveOf M owner).map (·.1))[i]? = some j := h2
    rw [List.map_map, List.getElem?_map] at h1
    rw [List.getElem?_map] at h2
    obtain ⟨⟨y, k⟩, eq, ey⟩ := Option.map_eq_some_iff.mp h2
    obtain rfl : y = j := ey
    rw [eq] at h1
    have eh : hs.getD k 0 = h := Option.some.inj h1
    obtain ⟨b1, b2⟩ := (live y k).1 (List.mem_of_getElem? eq)
    obtain ⟨h0, K, a1, a2, a3⟩ := O.at_ y k b1 b2
    obtain rfl : h0 = h := (show hs.getD k 0 = h0 by rw [Array.getD_eq_getD_getElem?, ← Array.getElem?_toList, a1]; rfl).symm.trans eh
    refine ⟨K, a2, fun c hc => ?_⟩
    obtain ⟨k2, z⟩ := Option.ne_none_iff_exists'.mp (a3 c hc)
    exact List.mem_map.mpr ⟨(way M h0 c, k2), (live _ k2).2 ⟨way_bd M h0 c, z⟩, rfl⟩
end Lw

namespace Lw
open PySem.Spec PySem L2 PyProof.Rows
open Evl (Ex Ex.refl Ex.trans Ex.new Ex.off ex_rd ex_l ex_t)
/-! ### sets of tuples of ints, up to a thousand -/
/-- a set stands at a -/
def SetAt (h : Heap) (a : Addr) (es : Array (Int × Value)) (ep : Nat) (t : SetTable) : Prop := ∃ o, h.get? a = some o ∧ o.ExactSet ∧ o.data = .set es ep t
/-- its order is told, or none of it is led -/
def Led (w : World) (t : SetTable) : Prop := w.params.followText "set-order" = true ∨ t.led = true
structure SG (P : Program) (w : World) (h : Heap) (a : Addr) (L : List (Addr × List Int)) (es : Array (Int × Value)) (ep : Nat) (t : SetTable) : Prop where
  ob : SetAt h a es ep t
  row : es.toList = rowsOf P w L
  tab : Tb t (L.map fun p => thash P w p.2)
  msk : Msk t.mask
  one : (L.map (·.2)).Nodup
  plain : t.plain = true
  led : Led w t
  room : 5 * L.length < 3 * t.mask
  few : L.length ≤ 999
/-- what a search asks of a key: how it compares with what lies there -/
structure KeyA (P : Program) (w : World) (A : Around) (s : Shared) (x : Value) (h : Int) (mt : Addr × List Int → Bool) (L : List (Addr × List Int)) : Prop where
  eq : ∀ p ∈ L, ∀ (E : Value → Shared → Prop) (Q : Bool → Shared → Prop), Q (mt p) s → wpAny (model P w) A (eqBool (.ref p.1) x) Q E s
  seen : ∀ ys : List Value, (∀ y ∈ ys, ∃ p ∈ L, y = .ref p.1) → ∀ (E : Value → Shared → Prop) (Q : Bool → Shared → Prop), Q false s → wpAny (model P w) A (searchCouldBeSeen x ys) Q E s
  hash : ∀ p ∈ L, mt p = true → thash P w p.2 = h
section
variable {P : Program} {w : World} {A : Around} {E : Value → Shared → Prop} {s : Shared} {a : Addr} {L : List (Addr × List Int)} {es : Array (Int × Value)} {ep : Nat} {t : SetTable} {x : Value} {h : Int} {mt : Addr × List Int → Bool}
theorem rows_len (e : es.toList = rowsOf P w L) : es.size = L.length := by
  rw [← Array.length_toList, e]
  exact List.length_map _
theorem rows_at (e : es.toList = rowsOf P w L) {i : Nat} {p : Addr × List Int} (hp : L[i]? = some p) : es[i]? = some (thash P w p.2, Value.ref p.1) := by
  rw [← Array.getElem?_toList]
  rw [e]
  unfold rowsOf
  rw [List.getElem?_map, hp]
  rfl
theorem fits_of (T : Tb t (L.map fun p => thash P w p.2)) (e : es.toList = rowsOf P w L) (hl : L.length ≤ t.mask) : t.fits es.size = true := by
  have z := T.ln
  rw [List.length_map] at z
  unfold SetTable.fits
  unfold SetTable.fill
  rw [T.no, rows_len e, z]
  simpa using hl
theorem SG.fit {hp : Heap} (R : SG P w hp a L es ep t) : t.fits es.size = true := fits_of R.tab R.row (by
  have := R.room
  omega)
theorem still_nth (m n : Nat) : ∀ p : SetTable.Probe, p.dummy = none → (nth m p n).dummy = none := by
  induction n with
  | zero => exact fun p e => e
  | succ n ih =>
    intro p e
    refine ih _ ?_
    unfold adv
    split
    · exact e
    · exact e
/-- the search, from step c of its way on -/
theorem find_from (R : SG P w s.heap a L es ep t) (k : KeyA P w A s x h mt L) {K : Nat} (hf : K < 10 * SetTable.turns t.mask) (hK : way t.mask h K ∉ t.place.toList) (hb : ∀ c, c < K → way t.mask h c ∈ t.place.toList) {ad : Bool} {Q : SetFound → Shared → Prop}
    (hin : ∀ i : Option Nat, (ad = true → i = none) → (ad = false → i.isSome = true) → (∃ p ∈ L, mt p = true) → Q (.there i) s) (hout : (∀ p ∈ L, mt p = false) → Q (.free (way t.mask h K) false) s) :
    ∀ (f c : Nat) (st : Option SetTable.Probe), st.getD (t.probeStart h) = nth t.mask (runAt t.mask (SetTable.bits h % (t.mask + 1)) (SetTable.bits h)) c → c ≤ K → K - c < f →
      (∀ (i : Nat) p, L[i]? = some p → mt p = true → ∃ c', c ≤ c' ∧ c' < K ∧ t.place.toList[i]? = some (way t.mask h c')) → wpAny (model P w) A (setSearchFrom a x h ad f st) Q E s := by
  intro f
  induction f with
  | zero => exact fun c st _ _ z => absurd z (Nat.not_lt_zero _)
  | succ f ih =>
    intro c st est hc lf far
    obtain ⟨o, ho, ex, hd⟩ := R.ob
    have gw : ¬ t.gaveWay = true := by
      unfold SetTable.gaveWay
      rw [R.msk.odd]
      decide
    generalize er : runAt t.mask (SetTable.bits h % (t.mask + 1)) (SetTable.bits h) = r at est ih
    have wy : ∀ q, (nth t.mask (nth t.mask r c) q).j = way t.mask h (c + q) := fun q => by
      show _ = (nth t.mask (runAt t.mask (SetTable.bits h % (t.mask + 1)) (SetTable.bits h)) (c + q)).j
      rw [er, nth_add]
    have hashAt : ∀ (i : Nat) (p : Addr × List Int), L[i]? = some p → (fun i => (es[i]?.map (·.1)).getD 0) i = thash P w p.2 := fun i p hp => by
      refine (show (es[i]?.map (·.1)).getD 0 = _ from ?_)
      rw [rows_at R.row hp]
      rfl
    rw [setSearchFrom_succ]
    refine wpAny_bind (wpAny_setState_of ho hd R.fit ?_)
    dsimp only
    refine wp_if_neg gw ?_
    try (refine wpAny_bind ?_; refine wpAny_pure ?_)
    have dn : (nth t.mask r c).dummy = none := still_nth t.mask c r (by rw [← er]; rfl)
    have met := go_spec t R.tab.up R.tab.no (fun i => (es[i]?.map (·.1)).getD 0) h (10 * SetTable.turns t.mask) (K - c) (nth t.mask r c) dn (by omega) (fun q hq => by rw [wy]; exact hb _ (by omega)) (by rw [wy, Nat.add_sub_cancel' hc]; exact hK)
    rcases met with ⟨q, i, hq, hi, hh, no, pr⟩ | ⟨no, pr⟩
    · -- one of the same hash
      have pr2 : t.probe (fun i => (es[i]?.map (·.1)).getD 0) h (st.getD (t.probeStart h)) = some (.candidate (way t.mask h (c + q)) i (nth t.mask r (c + (q + 1)))) := by
        rw [est, ← wy, nth_add t.mask c r (q + 1)]
        exact pr
      rw [pr2]
      dsimp only
      rw [wy] at hi
      have il : i < L.length := by
        have z := (List.getElem?_eq_some_iff.mp hi).1
        rw [R.tab.len, List.length_map] at z
        exact z
      obtain ⟨p, hp⟩ : ∃ p, L[i]? = some p := ⟨_, List.getElem?_eq_getElem il⟩
      have mp := List.mem_of_getElem? hp
      have rest : wpAny (model P w) A (searchRest a x h ad f es t (way t.mask h (c + q)) i (nth t.mask r (c + (q + 1)))) Q E s := by
        unfold searchRest
        rw [rows_at R.row hp]
        dsimp only
        refine wpAny_bind (wpAny_holding (k.eq p mp _ _ ?_))
        refine wpAny_bind (wpAny_setState_of ho hd R.fit ?_)
        dsimp only
        by_cases z : (ad && mt p) = true
        · obtain ⟨z1, z2⟩ := Bool.and_eq_true_iff.mp z
          refine wp_if_pos z (wpAny_pure (hin none (fun _ => rfl) (fun y => ?_) ⟨p, mp, z2⟩))
          rw [z1] at y
          cases y
        · refine wp_if_neg z ?_
          try (refine wpAny_bind ?_; refine wpAny_pure ?_)
          rw [sameMem]
          dsimp only
          have sl : t.slot (way t.mask h (c + q)) = .live i := slot_live R.tab.up hi
          simp only [if_true, sl, rows_at R.row hp]
          refine wpAny_bind ?_
          refine wpAny_isSame_ref_self ?_
          refine wpAny_bind ?_
          refine wpAny_pure ?_
          simp only [if_true]
          by_cases z2 : mt p = true
          · refine wp_if_pos z2 (wpAny_pure (hin (some i) (fun y => ?_) (fun _ => rfl) ⟨p, mp, z2⟩))
            exact absurd (Bool.and_eq_true_iff.mpr ⟨y, z2⟩) z
          · refine wp_if_neg z2 ?_
            refine ih (c + (q + 1)) _ rfl (by omega) (by omega) fun i0 p0 h0 m0 => ?_
            obtain ⟨c', a1, a2, a3⟩ := far i0 p0 h0 m0
            refine ⟨c', Classical.byContradiction fun y => ?_, a2, a3⟩
            by_cases e : c' = c + q
            · rw [e] at a3
              have s0 := slot_live R.tab.up a3
              rw [sl] at s0
              injection s0 with s0
              rw [← s0, hp] at h0
              rw [Option.some.inj h0] at z2
              exact z2 m0
            · refine no (c' - c) i0 (by omega) (by rw [wy, Nat.add_sub_cancel' a1]; exact a3) ?_
              exact (hashAt i0 p0 h0).trans (k.hash p0 (List.mem_of_getElem? h0) m0)
      by_cases l : t.led = true
      · refine wp_if_neg (by rw [l]; decide) ?_
        try (refine wpAny_bind ?_; refine wpAny_pure ?_)
        exact rest
      · refine wp_if_pos (by rw [Bool.eq_false_iff.mpr l]; rfl) ?_
        refine wpAny_bind (k.seen _ (fun y hy => ?_) _ _ ?_)
        · obtain ⟨e, he, rfl⟩ := List.mem_map.mp hy
          have he : e ∈ es.toList := (Array.mem_filter.mp (Array.mem_toList_iff.mp he)).1 |> Array.mem_toList_iff.mpr
          rw [R.row] at he
          obtain ⟨p2, hp2, rfl⟩ := List.mem_map.mp he
          exact ⟨p2, hp2, rfl⟩
        · refine wp_if_neg Bool.false_ne_true ?_
          try (refine wpAny_bind ?_; refine wpAny_pure ?_)
          exact rest
    · -- none
      have pr2 : t.probe (fun i => (es[i]?.map (·.1)).getD 0) h (st.getD (t.probeStart h)) = some (.empty (way t.mask h K) none) := by
        rw [est, show way t.mask h K = (nth t.mask (nth t.mask r c) (K - c)).j by rw [wy, Nat.add_sub_cancel' hc]]
        exact pr
      rw [pr2]
      dsimp only
      refine wpAny_pure (hout fun p hp => Bool.eq_false_iff.mpr fun m => ?_)
      obtain ⟨i0, h0⟩ := List.mem_iff_getElem?.mp hp
      obtain ⟨c', a1, a2, a3⟩ := far i0 p h0 m
      exact no (c' - c) i0 (by omega) (by rw [wy, Nat.add_sub_cancel' a1]; exact a3) ((hashAt i0 p h0).trans (k.hash p hp m))
/-- the search whole -/
theorem find_at (R : SG P w s.heap a L es ep t) (k : KeyA P w A s x h mt L) {ad : Bool} {Q : SetFound → Shared → Prop} (hin : ∀ i : Option Nat, (ad = true → i = none) → (ad = false → i.isSome = true) → (∃ p ∈ L, mt p = true) → Q (.there i) s)
    (hout : ∀ K, (∀ p ∈ L, mt p = false) → way t.mask h K ∉ t.place.toList → (∀ c, c < K → way t.mask h c ∈ t.place.toList) → Q (.free (way t.mask h K) false) s) : wpAny (model P w) A (setSearch a x h ad) Q E s := by
  have rm := R.room
  obtain ⟨K, kf, hK, hb⟩ := R.tab.gap R.msk (by rw [List.length_map]; omega) h
  have ml := R.msk.le
  unfold setSearch
  refine find_from R k kf hK hb hin (fun z => hout K z hK hb) 100000 0 none rfl (Nat.zero_le _) (by unfold SetTable.turns at kf; omega) fun i p hp m => ?_
  obtain ⟨c, hc, e⟩ := R.tab.ahead (i := i) hK (by rw [List.getElem?_map, hp, ← k.hash p (List.mem_of_getElem? hp) m]; rfl)
  exact ⟨c, Nat.zero_le _, hc, e⟩
/-- a tuple as a key -/
theorem key_tup {b : Addr} {ns : List Int} (hx : IsT P w s.heap ns b) (ht : ∀ p ∈ L, IsT P w s.heap p.2 p.1) (hu : A.units < cLine) : KeyA P w A s (.ref b) (thash P w ns) (fun p => decide (p.2 = ns)) L :=
  ⟨fun p hp E Q q => wpAny_eqBool_tuple hu (ht p hp) hx q, fun ys hy E Q q => seen_tup hx (fun y my => (hy y my).elim fun p z => ⟨p.2, p.1, z.2, ht p z.1⟩) q, fun p hp m => by rw [of_decide_eq_true m]⟩
/-- None as a key -/
theorem key_none (ht : ∀ p ∈ L, IsT P w s.heap p.2 p.1) (hu : A.units < cLine) : KeyA P w A s .none h (fun _ => false) L :=
  ⟨fun p hp E Q q => by
    obtain ⟨o, its, n, ho, hc, hd, _⟩ := ht p hp
    exact SeqAt.EqAt.tuple_none ⟨o, ho, hc, n, hd⟩ hu P w E Q q, fun ys hy E Q q => by
    unfold searchCouldBeSeen
    refine wpAny_bind (wpAny_forIn_list _ (fun rest r s' => r.1 = none ∧ s' = s ∧ ∀ y ∈ rest, ∃ p ∈ L, y = .ref p.1) _ ?_ ?_ _ _ ⟨rfl, rfl, hy⟩)
    · rintro v rest r s' ⟨hr, rfl, all⟩
      obtain ⟨p, mp, rfl⟩ := all v List.mem_cons_self
      have all' : ∀ y ∈ rest, ∃ p ∈ L, y = .ref p.1 := fun y my => all y (List.mem_cons_of_mem _ my)
      dsimp only
      refine wp_if_neg (by show ¬ (false || (true && false)) = true; decide) ?_
      rw [eqIsQuiet_byValue 8 (v := .none) rfl]
      refine wpAny_bind ?_
      refine wpAny_pure ?_
      simp only [if_false, Bool.false_eq_true, Bool.not_true]
      refine wpAny_bind (wpAny_eqIsQuiet_tuple (ht p mp) ?_)
      simp only [if_false, Bool.false_eq_true, Bool.not_true]
      refine wpAny_bind ?_
      refine wpAny_pure ?_
      simp only [if_false, Bool.false_eq_true]
      refine wpAny_bind (ofAClass_tup (ht p mp) ?_)
      simp only [if_false, Bool.false_eq_true]
      exact wpAny_pure ⟨rfl, rfl, all'⟩
    · rintro ⟨r1, r2⟩ _ ⟨hr, rfl, _⟩
      simp only at hr
      subst hr
      exact wpAny_pure q, fun p hp m => by cases m⟩
/-- what a set tells of a key -/
theorem find_key (R : SG P w s.heap a L es ep t) (k : KeyA P w A s x h mt L) (hs : x.scannable = true → L = [] ∨ ∀ p ∈ L, mt p = false) (hn : ∀ y tk, x ≠ .str y tk) {Q : Option Nat → Shared → Prop} (hQ : ∀ i : Option Nat, i.isSome = (L.any mt) → Q i s) : wpAny (model P w) A (setFind a x h) Q E s := by
  obtain ⟨o, ho, ex, hd⟩ := R.ob
  unfold setFind
  show wpAny _ _ (setFindIn a x h (99999 + 1)) _ _ s
  unfold setFindIn
  refine wpAny_bind (wpAny_setState_of ho hd R.fit ?_)
  dsimp only
  by_cases b : byScan x es = true
  · refine wp_if_pos b ?_
    have e0 : es.toList = [] := by
      cases e : es.toList with
      | nil => rfl
      | cons y ys =>
        have z : y ∈ es.toList := by rw [e]; exact List.mem_cons_self
        have z2 := z
        rw [R.row] at z2
        obtain ⟨p, _, rfl⟩ := List.mem_map.mp z2
        unfold byScan at b
        have b3 := Array.all_eq_true'.mp (Bool.and_eq_true_iff.mp b).2 _ (Array.mem_toList_iff.mp z)
        exact absurd b3 Bool.false_ne_true
    have eL : L = [] := by
      have z := R.row
      rw [e0] at z
      exact List.map_eq_nil_iff.mp z.symm
    have sc : setScan a x h false es = pure .absent := by
      unfold setScan
      split
      · rename_i y tk
        exact absurd rfl (hn y tk)
      · rw [e0]
        rfl
    refine wpAny_bind ?_
    refine wpAny_rule ?_
    rw [sc]
    refine wpAny_bind ?_
    refine wpAny_pure ?_
    exact wpAny_pure (hQ none (by rw [eL]; rfl))
  · refine wp_if_neg b ?_
    try (refine wpAny_bind ?_; refine wpAny_pure ?_)
    refine wpAny_bind (find_at (ad := false) R k (fun i _ h2 h3 => ?_) fun K h1 _ _ => ?_)
    · refine wpAny_pure (hQ i ?_)
      rw [h2 rfl]
      obtain ⟨p, mp, e⟩ := h3
      exact (List.any_eq_true.mpr ⟨p, mp, e⟩).symm
    · refine wpAny_pure (hQ none ?_)
      exact (Bool.eq_false_iff.mpr fun z => by
        obtain ⟨p, mp, e⟩ := List.any_eq_true.mp z
        rw [h1 p mp] at e
        cases e).symm
/-- in, not in -/
theorem held_in (R : SG P w s.heap a L es ep t) {x : Value} {h : Int} {n : Nat} (hash : ∀ (E : Value → Shared → Prop) (Q : Int → Shared → Prop), Q h { s with toks := s.toks + n } → wpAny (model P w) A.in1 (pyHash x) Q E s) (k : KeyA P w A.in1 { s with toks := s.toks + n } x h mt L)
    (hs : x.scannable = true → L = [] ∨ ∀ p ∈ L, mt p = false) (hn : ∀ y tk, x ≠ .str y tk) {Q : Value → Shared → Prop} {c : Bool → Value} :
    Q (c (L.any mt)) { s with toks := s.toks + n } → wpAny (model P w) A (contains (.ref a) x >>= fun b => pure (c b)) Q E s := by
  intro q
  have ty : s.TypeIs (.ref a) "set" := R.ob.elim fun o z => ⟨o, z.1, z.2.1.1⟩
  refine wpAny_bind ?_
  unfold contains
  try (with_reducible refine wpAny_holding ?_)
  refine wpAny_bind (wpAny_specialOf ty F.slot_set_contains.lookup ?_)
  show wpAny _ _ (if (some (Value.builtin "set.__contains__") == some Value.none) = true then _ else _) _ _ _
  rw [if_neg (by rw [beq_builtin_none]; decide)]
  refine wpAny_bind (wpAny_callSpecialUnlessNone?_slot (name := Str.ofString "__contains__") ty F.slot_set_contains (wpAny_call_entry F.slot_set_contains ty entry_set_contains ?_ (F.args_set_contains_2 _ _)))
  unfold Builtin.«frozenset.__contains__»
  unfold Builtin.Frozenset.oneOther
  simp only [bind_assoc, List.isEmpty_nil]
  unfold setContains Builtin.Frozenset.withSetAsKey Builtin.Frozenset.addrOf
  refine wpAny_bind ?_
  refine wpAny_pure ?_
  try dsimp only
  refine wpAny_bind ?_
  refine wpAny_pure ?_
  try dsimp only
  refine wpAny_bind (wpAny_tryCatch (wpAny_holding (wpAny_bind (hash _ _ ?_))))
  refine wpAny_bind (find_key (s := { s with toks := s.toks + n }) R k hs hn fun r hr => wpAny_pure ?_)
  refine (show wpAny _ _ (ret (Value.bool r.isSome)) _ _ _ from ?_)
  rw [hr]
  exact wpAny_pure ⟨_, rfl, wpAny_truthy_bool (wpAny_pure q)⟩
/-- a larger table for the same rows -/
theorem lay_anew {o : Obj} (ho : s.heap.get? a = some o) (ex : o.ExactSet) (hd : o.data = .set es ep t) (row : es.toList = rowsOf P w L) (T : Tb t (L.map fun p => thash P w p.2)) (fl : L.length ≤ t.mask) (one : (L.map (·.2)).Nodup) (pl : t.plain = true)
    (ld : w.params.followText "set-order" = true ∨ t.led = true) (few : L.length ≤ 999) (pos : 0 < L.length) {Q : Unit → Shared → Prop} (hQ : ∀ h' L' es' ep' t', Heap.SameBut a s.heap h' → SG P w h' a L' es' ep' t' → L'.Perm L → Q () { s with heap := h' }) :
    wpAny (model P w) A (setRelay a (SetTable.grown L.length)) Q E s := by
  obtain ⟨m1, m2, m3⟩ := above_msk (u := L.length) (by omega)
  have sl := rows_len row
  obtain ⟨t2, ord, e, pm, T2, em, el, epl⟩ := laid_tb t (hs := es.map (·.1)) (wanted := SetTable.grown L.length) rfl m1 (by rw [Array.size_map, sl]; omega)
  rw [Array.size_map, sl] at pm
  obtain ⟨L2, r1, r2, r3⟩ := order_rows L es ord row pm
  rw [← r3] at T2
  have s2 : (ord.filterMap (es[·]?)).size = es.size := by
    rw [rows_len r1, r2.length_eq, sl]
  rw [setRelay_eq]
  refine wpAny_bind (wpAny_setState_of ho hd (fits_of T row fl) ?_)
  dsimp only
  refine wp_if_neg (show ¬ _ by rw [sizeLine_eq]; omega) ?_
  try (refine wpAny_bind ?_; refine wpAny_pure ?_)
  rw [e]
  dsimp only
  refine wpAny_bind (wp_if_neg (by rw [s2]; simp) ?_)
  try (refine wpAny_bind ?_; refine wpAny_pure ?_)
  refine wpAny_pure ?_
  dsimp only
  refine wpAny_storeSet_of ho hd ?_ (by rw [s2, sl, sizeLine_eq]; omega)
  refine hQ _ L2 _ (ep + 1) t2 (Heap.SameBut.update ..) ⟨⟨_, store_at ho hd, ⟨ex.1, ex.2.1, ex.2.2⟩, rfl⟩, r1, T2, by rw [em]; exact m1, (r2.map (·.2)).nodup_iff.mpr one, by rw [epl]; exact pl, by unfold Led; rw [el]; exact ld, ?_, by rw [r2.length_eq]; exact few⟩ r2
  rw [r2.length_eq, em]
  omega
/-- one more -/
theorem add_one (R : SG P w s.heap a L es ep t) {b : Addr} {ns : List Int} (hx : IsT P w s.heap ns b) (ht : ∀ p ∈ L, IsT P w s.heap p.2 p.1) (hu : A.units < cLine) (few : L.length < 999) {Q : Bool → Shared → Prop}
    (hQ : ∀ c h' L' es' ep' t', Heap.SameBut a s.heap h' → SG P w h' a L' es' ep' t' → (ns ∈ L.map (·.2) → L' = L) → (ns ∉ L.map (·.2) → L'.Perm ((b, ns) :: L)) → Q c { s with heap := h' }) :
    wpAny (model P w) A (setAddHashed a (.ref b) (thash P w ns)) Q E s := by
  obtain ⟨o, ho, ex, hd⟩ := R.ob
  have sl := rows_len R.row
  have rm := R.room
  unfold setAddHashed
  refine wpAny_holding ?_
  show wpAny _ _ (setAddHashedIn a (.ref b) (thash P w ns) (99999 + 1)) _ _ s
  rw [setAddHashedIn_succ]
  refine wpAny_bind (wpAny_setState_of ho hd R.fit ?_)
  dsimp only
  refine wp_if_neg (show ¬ _ by simp [Value.scannable, byScan]) ?_
  try (refine wpAny_bind ?_; refine wpAny_pure ?_)
  refine wpAny_bind (find_at (ad := true) R (key_tup hx ht hu) (fun i h1 _ h3 => ?_) fun K hm hK hb => ?_)
  · obtain ⟨p, mp, e⟩ := h3
    exact wpAny_pure (hQ false s.heap L es ep t (Heap.SameBut.refl a s.heap) R (fun _ => rfl) fun z => absurd (List.mem_map.mpr ⟨p, mp, of_decide_eq_true e⟩) z)
  · have new : ns ∉ L.map (·.2) := fun z => by
      obtain ⟨p, mp, e⟩ := List.mem_map.mp z
      have := of_decide_eq_false (hm p mp)
      exact this e
    dsimp only
    refine wpAny_bind (wpAny_setState_of ho hd R.fit ?_)
    dsimp only
    obtain ⟨q2, q3, q9⟩ := R.tab.put hK hb
    rw [List.length_map] at q2 q9
    have qm : (t.put (way t.mask (thash P w ns) K)).1.mask = t.mask := rfl
    have qp : (t.put (way t.mask (thash P w ns) K)).2 = SetTable.below t.place (way t.mask (thash P w ns) K) := rfl
    have qpl : (t.put (way t.mask (thash P w ns) K)).1.plain = true := R.plain
    have qld : w.params.followText "set-order" = true ∨ (t.put (way t.mask (thash P w ns) K)).1.led = true := R.led
    generalize t.put (way t.mask (thash P w ns) K) = pt at q3 q9 qm qp qpl qld ⊢
    obtain ⟨t1, p⟩ := pt
    dsimp only at q3 q9 qm qp qpl qld ⊢
    rw [← qp] at q2 q3
    first
      | (refine wpAny_bind ?_
         refine wp_if_pos qpl ?_
         refine hashBy_tup hx ?_)
      | refine wp_if_pos qpl (wpAny_bind (hashBy_tup hx ?_))
    simp only [if_true]
    have row1 : (SetTable.insertAt es p (thash P w ns, Value.ref b)).toList = rowsOf P w (L.take p ++ (b, ns) :: L.drop p) := by
      rw [SetTable.toList_insertAt, rows_put, R.row]
    have pm := put_perm L p (b, ns)
    have hh : (L.take p ++ (b, ns) :: L.drop p).map (fun p => thash P w p.2) = (L.map fun p => thash P w p.2).take p ++ thash P w ns :: (L.map fun p => thash P w p.2).drop p := by
      rw [List.map_append]
      rw [List.map_cons, List.map_take, List.map_drop]
    rw [← hh] at q3
    have one1 : ((L.take p ++ (b, ns) :: L.drop p).map (·.2)).Nodup := (pm.map (·.2)).nodup_iff.mpr (List.nodup_cons.mpr ⟨new, R.one⟩)
    generalize SetTable.insertAt es p (thash P w ns, Value.ref b) = es1 at row1 ⊢
    generalize L.take p ++ (b, ns) :: L.drop p = L1 at pm q3 one1 row1
    have l1 : L1.length = L.length + 1 := pm.length_eq
    have z1 : es1.size = L.length + 1 := (rows_len row1).trans l1
    refine wpAny_bind (wpAny_storeSet_of ho hd ?_ (by rw [z1, sizeLine_eq]; omega))
    have sb := Heap.SameBut.update s.heap a (Obj.putSet es1 t1)
    have ho1 := store_at (t' := t1) (es' := es1) ho hd
    generalize s.heap.update a (Obj.putSet es1 t1) = h1 at ho1 sb ⊢
    by_cases full : t1.tooFull = true
    · first
        | (refine wpAny_bind ?_
           refine wp_if_pos (by simp [full]) ?_)
        | (refine wp_if_pos (by simp [full]) ?_
           refine wpAny_bind ?_)
      rw [sl, ← l1]
      refine lay_anew (s := { s with heap := h1 }) ho1 ⟨ex.1, ex.2.1, ex.2.2⟩ rfl row1 q3 (by rw [l1, qm]; have := R.msk.le; omega) one1 qpl qld (by omega) (by omega) fun h2 L2 es2 ep2 t2 sb2 R2 pm2 => ?_
      exact wpAny_pure (hQ true h2 L2 es2 ep2 t2 (sb.trans sb2) R2 (fun z => absurd z new) fun _ => pm2.trans pm)
    · first
        | refine wp_if_neg (by simp [full]) ?_
        | (refine wpAny_bind ?_
           refine wp_if_neg (by simp [full]) ?_
           refine wpAny_pure ?_)
      refine wpAny_pure (hQ true h1 L1 es1 (ep + 1) t1 sb ⟨⟨_, ho1, ⟨ex.1, ex.2.1, ex.2.2⟩, rfl⟩, row1, q3, by rw [qm]; exact R.msk, one1, qpl, qld, ?_, by omega⟩ (fun z => absurd z new) fun _ => pm)
      have f := full
      unfold SetTable.tooFull at f
      rw [decide_eq_true_eq, q9] at f
      omega
end
end Lw

namespace Lw
open PySem.Spec PySem L2 PyProof.Rows
open Evl (Ex Ex.refl Ex.trans Ex.new Ex.off ex_rd ex_l ex_t)
section
variable {s : Shared} {P : Program} {w : World} {A : Around} {E : Value → Shared → Prop}
theorem SG.keep {h h' : Heap} {a : Addr} {L : List (Addr × List Int)} {es : Array (Int × Value)} {ep : Nat} {t : SetTable} (R : SG P w h a L es ep t) (e : ∀ o, h.get? a = some o → h'.get? a = some o) : SG P w h' a L es ep t := by
  obtain ⟨o, ho, r⟩ := R.ob
  exact ⟨⟨o, e o ho, r⟩, R.row, R.tab, R.msk, R.one, R.plain, R.led, R.room, R.few⟩
theorem led0 : Led w (.fresh 0 0 (!w.params.followText "set-order")) := by
  unfold Led
  cases w.params.followText "set-order" with
  | true => exact .inl rfl
  | false => exact .inr rfl
theorem sg_new {h : Heap} {a : Addr} (ho : h.get? a = some (fsO w)) : SG P w h a [] #[] 0 (.fresh 0 0 (!w.params.followText "set-order")) :=
  ⟨⟨_, ho, ⟨rfl, rfl, rfl⟩, rfl⟩, rfl, ⟨List.Pairwise.nil, rfl, rfl, (fun x hx => by cases hx), (fun i h j hi => by cases hi)⟩, ⟨3, by decide, by decide, rfl⟩, List.nodup_nil, rfl, led0, (by decide : 5 * 0 < 3 * 7), Nat.zero_le _⟩
/-- the loop that fills it -/
theorem fill_set {I : Addr} {fp wr : List Addr} {G : Array GenState → Array GenState → Prop} {n : Nat} {Pv : Nat → Value → Prop} {St : Nat → Shared → Prop} {R : Result → Shared → Prop}
    (W : WalksS P w A.in1 I fp wr G n Pv St) (S : Addr) (nf : S ∉ fp) (ks : List (Addr × List Int)) (hn : n = ks.length) (few : ks.length ≤ 999) (hv : ∀ i v, Pv i v → ∃ p, ks[i]? = some p ∧ v = .ref p.1)
    (h0 : Heap) (hk : ∀ p ∈ ks, IsT P w h0 p.2 p.1) (nS : h0.get? S = none) (nw : ∀ b ∈ wr, h0.get? b = none) (hu : A.in1.units < cLine) :
    ∀ (k i : Nat) (s : Shared), n - i = k → i ≤ n → St i s → (∀ b o, h0.get? b = some o → s.heap.get? b = some o) → (∃ L es ep t, SG P w s.heap S L es ep t ∧ Got ks i L) →
      (∀ s' L es ep t, Moved (S :: wr) G s s' → SG P w s'.heap S L es ep t → Got ks n L → (∀ b o, h0.get? b = some o → s'.heap.get? b = some o) → R (.ok (.ret .none)) s') → codeAny (model P w) A (.builtin "set.update.loop" ⟨[.ref S, .ref I], []⟩) R s := by
  have more : ∀ b ∈ wr, b ∈ S :: wr := fun b hb => List.mem_cons_of_mem _ hb
  have on : ∀ {s s' : Shared}, Moved wr G s s' → (∀ b o, h0.get? b = some o → s.heap.get? b = some o) → ∀ b o, h0.get? b = some o → s'.heap.get? b = some o := fun hm up b o e => hm.heap b o (fun m => by
    rw [nw b m] at e
    cases e) (up b o e)
  intro k
  induction k with
  | zero =>
    rintro i s ek hi st up ⟨L, es, ep, t, R0, g⟩ fin
    obtain rfl : i = n := by omega
    refine codeAny_builtin (F.entry_set_update_loop) ?_
    have light := F.plain_set_update_loop
    rw [Around.under_plainId light _]
    refine (show wpAny _ _ (pyNext (.ref I) >>= _) _ _ _ from ?_)
    refine wpAny_bind (W.done s _ _ st fun s' hm => ?_)
    refine (show wpAny _ _ (ret Value.none) _ _ _ from ?_)
    exact wpAny_pure (fin s' L es ep t (hm.mono more) (R0.keep fun o e => hm.heap S o (fun m => nf (W.sub _ m)) e) g (on hm up))
  | succ k ih =>
    rintro i s ek hi st up ⟨L, es, ep, t, R0, g⟩ fin
    refine codeAny_builtin (F.entry_set_update_loop) ?_
    have light := F.plain_set_update_loop
    rw [Around.under_plainId light _]
    refine (show wpAny _ _ (pyNext (.ref I) >>= _) _ _ _ from ?_)
    refine wpAny_bind (W.item i s _ _ (by omega) st fun v s' hP st' hm => ?_)
    obtain ⟨p, hp, rfl⟩ := hv i v hP
    have up' := on hm up
    have R1 := R0.keep (h' := s'.heap) fun o e => hm.heap S o (fun m => nf (W.sub _ m)) e
    have tu : ∀ q ∈ ks, IsT P w s'.heap q.2 q.1 := fun q hq => isT_keep (hk q hq) up'
    show wpAny _ _ (holding [Value.ref p.1] (setAdd S (.ref p.1)) >>= _) _ _ _
    refine wpAny_bind ?_
    refine wpAny_holding ?_
    unfold setAdd
    refine wpAny_holding (wpAny_bind (wpAny_pyHash_tuple hu (tu p (List.mem_of_getElem? hp)) ?_))
    refine add_one (s := { s' with toks := s'.toks + (p.2.length + 1) }) R1 (tu p (List.mem_of_getElem? hp)) (fun q hq => tu q (List.mem_of_mem_take (g.sub q hq))) hu (by have := g.len; omega) fun b h' L' es' ep' t' sb R2 c1 c2 => ?_
    have g' : Got ks (i + 1) L' := show Got ks (i + 1) L' by
      by_cases c : p.2 ∈ L.map (·.2)
      · rw [c1 c]
        exact g.same hp c
      · exact g.more hp (c2 c)
    refine wpAny_pure ⟨plainId_quiet F.plain_set_update_loop _, ih (i + 1) _ (by omega) (by omega) (W.frame _ s' _ _ st' (Nat.le_add_right _ _) fun b hb o e => ?_) (fun b o e => ?_) ⟨L', es', ep', t', R2, g'⟩ fun s2 L2 es2 ep2 t2 hm2 R3 g3 up3 => ?_⟩
    · rw [sb.2 b fun e => nf (by rw [← e]; exact hb)]
      exact e
    · refine (sb.2 b fun z => ?_).trans (up' b o e)
      rw [z, nS] at e
      cases e
    · refine fin s2 L2 es2 ep2 t2 (Moved.trans W.gtrans ((hm.mono more).then_heap (Nat.le_add_right _ _) fun b o hb e => ?_) hm2) R3 g3 up3
      rw [sb.2 b fun z => hb (by rw [z]; exact List.mem_cons_self)]
      exact e
/-- set of a list whose items are tuples of numbers -/
theorem set_of_listT {l : Addr} {its : Array Value} (ks : List (Addr × List Int)) {Q : Value → Shared → Prop} (hh : A.handled = none) (hl : s.heap.IsList l its) (hi : its.toList = ks.map fun p => Value.ref p.1) (hk : ∀ p ∈ ks, IsT P w s.heap p.2 p.1) (few : ks.length ≤ 999) (hu : A.units + 3 < cLine)
    (k : ∀ (h' : Heap) (tk : Nat) L es ep t, SG P w h' s.heap.objs.size L es ep t → Got ks ks.length L → (∀ b o, s.heap.get? b = some o → h'.get? b = some o) → Q (.ref s.heap.objs.size) { s with heap := h', toks := tk }) : wpAny (model P w) A (call (.type "set") [.ref l]) Q E s := by
  have sz : its.size = ks.length := by
    rw [← Array.length_toList, hi]
    exact List.length_map _
  obtain ⟨mc, ml, mro⟩ := F.called_set.mro
  have made := F.called_set.made
  have sub := F.called_set.sub
  have nT := F.called_set.notType
  have cC := F.called_set.canCreate
  have tc := F.typeCall_set_1 (.ref l)
  refine wpAny_call (codeAny_of_tree (show wpAny _ _ (callAny (.type "set") _) _ _ _ from wpAny_pure ⟨Code.quiet_builtin _ (by decide +kernel), codeAny_builtin F.entry_type_call ?_⟩))
  have light := weight_type_call_type "set" [.ref l] []
  rw [Around.under_plain light rfl]
  repeat any_goals first | assumption | wp_step
  refine codeAny_mono (code_set_led1 (.ref l) (E := E) (Q₁ := fun v s₁ => v = .ref s.heap.objs.size ∧ s₁ = { s with heap := s.heap.push (fsO w) }) ⟨rfl, rfl⟩) fun r s₁ hr => ?_
  cases r with
  | error e => exact hr
  | ok fl =>
    cases fl with
    | ret v =>
      obtain ⟨rfl, rfl⟩ := hr
      have at0 : (s.heap.push (fsO w)).get? s.heap.objs.size = some (fsO w) := Heap.get?_push_size _ rfl
      have ty0 : Shared.TypeIs { s with heap := s.heap.push (fsO w) } (.ref s.heap.objs.size) "set" := ⟨_, at0, rfl⟩
      have li := F.called_set.init.lookup
      have bi := F.called_set.init.bind (.ref s.heap.objs.size)
      repeat any_goals first | assumption | wp_step
      refine codeAny_mono (codeAny_call_builtin (R := wants (fun r s₂ => r = .none ∧ ∃ h' tk L es ep t, s₂ = { s with heap := h', toks := tk } ∧ SG P w h' s.heap.objs.size L es ep t ∧ Got ks ks.length L ∧ ∀ b o, s.heap.get? b = some o → h'.get? b = some o) E)
        F.called_set.init.plain F.entry_set_init (check_set_init_1 ty0 ?_)) fun r₂ s₂ hr₂ => ?_
      · obtain ⟨⟨oc, od, ot, os⟩, ho, rfl, n, rfl⟩ := hl
        have ho1 : (s.heap.push (fsO w)).get? l = some ⟨.type "list", od, .seq its n, os⟩ := Heap.get?_push_of_some _ ho
        have l1 : (s.heap.push (fsO w)).IsList l its := ⟨_, ho1, rfl, n, rfl⟩
        have ls := F.sub_list_set
        have lf := F.sub_list_frozenset
        have nd : (Value.type "list" == Value.type "dict") = false := by decide
        have lt : l < s.heap.objs.size := Heap.lt_size ho
        have z1 : (s.heap.push (fsO w)).objs.size = s.heap.objs.size + 1 := Heap.size_push ..
        have h3 : A.in1.in1.in1.handled = none := by simp [hh]
        unfold Builtin.«set.__init__»
        unfold noKeywords Builtin.Frozenset.updateFrom
        generalize eI : pyIter = PI
        wp_walk
        subst eI
        refine wpAny_pyIter_list l1 (wpAny_bind (wpAny_runValue ?_))
        have nI : l ≠ (s.heap.push (fsO w)).objs.size := by rw [z1]; exact Nat.ne_of_lt (Nat.lt_succ_of_lt lt)
        have nf : s.heap.objs.size ∉ [(s.heap.push (fsO w)).objs.size, l] := by
          rw [z1]
          intro m
          rcases List.mem_cons.mp m with e | m
          · exact absurd e (Nat.ne_of_lt (Nat.lt_succ_self _))
          · exact absurd (List.mem_singleton.mp m) (Nat.ne_of_gt lt)
        have off : ∀ b, s.heap.objs.size ≤ b → s.heap.get? b = none := fun b hb => by
          cases q : s.heap.get? b with
          | none => rfl
          | some o => exact absurd (Heap.lt_size q) (Nat.not_lt.mpr hb)
        have hv : ∀ (i : Nat) (v : Value), its[i]? = some v → ∃ p, ks[i]? = some p ∧ v = .ref p.1 := fun i v hv => by
          rw [← Array.getElem?_toList, hi, List.getElem?_map] at hv
          obtain ⟨p, e1, e2⟩ := Option.map_eq_some_iff.mp hv
          exact ⟨p, e1, e2.symm⟩
        refine fill_set ((Walks.list h3 _ l nI its).toS) s.heap.objs.size nf ks sz few hv s.heap hk (off _ (Nat.le_refl _)) (fun b hb => off b (by rw [List.mem_singleton.mp hb, z1]; exact Nat.le_succ _)) hu (its.size - 0) 0 _ (by omega) (Nat.zero_le _)
          ⟨⟨_, Heap.get?_push_size _ rfl, rfl, rfl⟩, l1.push _⟩ (fun b o e => Heap.get?_push_of_some _ (Heap.get?_push_of_some _ e)) ⟨[], #[], 0, _, sg_new (Heap.get?_push_of_some _ at0), Got.zero ks⟩ fun s' L es ep t hm R' g' up => ?_
        obtain ⟨h', g2, d2, t2, o2⟩ := s'
        obtain rfl : g2 = s.gens := hm.gens
        obtain rfl : d2 = s.drawn := hm.drawn
        obtain rfl : o2 = s.os := hm.os
        rw [sz] at g'
        show wpAny _ _ _ _ _ _
        exact wpAny_pure (show wpAny _ _ (ret Value.none) _ _ _ from wpAny_pure ⟨rfl, h', t2, L, es, ep, t, rfl, R', g', up⟩)
      · cases r₂ with
        | error e => exact hr₂
        | ok fl₂ =>
          cases fl₂ with
          | ret r =>
            obtain ⟨rfl, h', tk, L, es, ep, t, rfl, R', g', up⟩ := hr₂
            repeat any_goals first | assumption | wp_step
            exact k _ _ _ _ _ _ R' g' up
          | _ => exact hr₂.elim
    | _ => exact hr.elim
/-- set(xs), xs a tuple of tuples of ints -/
theorem set_of_tupleT {l : Addr} {its : Array Value} (ks : List (Addr × List Int)) {Q : Value → Shared → Prop} (hh : A.handled = none) (hl : s.heap.IsTuple l its) (hi : its.toList = ks.map fun p => Value.ref p.1) (hk : ∀ p ∈ ks, IsT P w s.heap p.2 p.1) (few : ks.length ≤ 999) (hu : A.units + 3 < cLine)
    (k : ∀ (h' : Heap) (tk : Nat) L es ep t, SG P w h' s.heap.objs.size L es ep t → Got ks ks.length L → (∀ b o, s.heap.get? b = some o → h'.get? b = some o) → Q (.ref s.heap.objs.size) { s with heap := h', toks := tk }) : wpAny (model P w) A (call (.type "set") [.ref l]) Q E s := by
  have sz : its.size = ks.length := by
    rw [← Array.length_toList, hi]
    exact List.length_map _
  obtain ⟨mc, ml, mro⟩ := F.called_set.mro
  have made := F.called_set.made
  have sub := F.called_set.sub
  have nT := F.called_set.notType
  have cC := F.called_set.canCreate
  have tc := F.typeCall_set_1 (.ref l)
  refine wpAny_call (codeAny_of_tree (show wpAny _ _ (callAny (.type "set") _) _ _ _ from wpAny_pure ⟨Code.quiet_builtin _ (by decide +kernel), codeAny_builtin F.entry_type_call ?_⟩))
  have light := weight_type_call_type "set" [.ref l] []
  rw [Around.under_plain light rfl]
  repeat any_goals first | assumption | wp_step
  refine codeAny_mono (code_set_led1 (.ref l) (E := E) (Q₁ := fun v s₁ => v = .ref s.heap.objs.size ∧ s₁ = { s with heap := s.heap.push (fsO w) }) ⟨rfl, rfl⟩) fun r s₁ hr => ?_
  cases r with
  | error e => exact hr
  | ok fl =>
    cases fl with
    | ret v =>
      obtain ⟨rfl, rfl⟩ := hr
      have at0 : (s.heap.push (fsO w)).get? s.heap.objs.size = some (fsO w) := Heap.get?_push_size _ rfl
      have ty0 : Shared.TypeIs { s with heap := s.heap.push (fsO w) } (.ref s.heap.objs.size) "set" := ⟨_, at0, rfl⟩
      have li := F.called_set.init.lookup
      have bi := F.called_set.init.bind (.ref s.heap.objs.size)
      repeat any_goals first | assumption | wp_step
      refine codeAny_mono (codeAny_call_builtin (R := wants (fun r s₂ => r = .none ∧ ∃ h' tk L es ep t, s₂ = { s with heap := h', toks := tk } ∧ SG P w h' s.heap.objs.size L es ep t ∧ Got ks ks.length L ∧ ∀ b o, s.heap.get? b = some o → h'.get? b = some o) E)
        F.called_set.init.plain F.entry_set_init (check_set_init_1 ty0 ?_)) fun r₂ s₂ hr₂ => ?_
      · obtain ⟨⟨oc, od, ot, os⟩, ho, rfl, n, rfl⟩ := hl
        have ho1 : (s.heap.push (fsO w)).get? l = some ⟨.type "tuple", od, .seq its n, os⟩ := Heap.get?_push_of_some _ ho
        have l1 : (s.heap.push (fsO w)).IsTuple l its := ⟨_, ho1, rfl, n, rfl⟩
        have ls := F.sub_tuple_set
        have lf := F.sub_tuple_frozenset
        have nd : (Value.type "tuple" == Value.type "dict") = false := by decide
        have lt : l < s.heap.objs.size := Heap.lt_size ho
        have z1 : (s.heap.push (fsO w)).objs.size = s.heap.objs.size + 1 := Heap.size_push ..
        have h3 : A.in1.in1.in1.handled = none := by simp [hh]
        unfold Builtin.«set.__init__»
        unfold noKeywords Builtin.Frozenset.updateFrom
        generalize eI : pyIter = PI
        wp_walk
        subst eI
        refine wpAny_pyIter_tuple l1 (wpAny_bind (wpAny_runValue ?_))
        have nI : l ≠ (s.heap.push (fsO w)).objs.size := by rw [z1]; exact Nat.ne_of_lt (Nat.lt_succ_of_lt lt)
        have nf : s.heap.objs.size ∉ [(s.heap.push (fsO w)).objs.size, l] := by
          rw [z1]
          intro m
          rcases List.mem_cons.mp m with e | m
          · exact absurd e (Nat.ne_of_lt (Nat.lt_succ_self _))
          · exact absurd (List.mem_singleton.mp m) (Nat.ne_of_gt lt)
        have off : ∀ b, s.heap.objs.size ≤ b → s.heap.get? b = none := fun b hb => by
          cases q : s.heap.get? b with
          | none => rfl
          | some o => exact absurd (Heap.lt_size q) (Nat.not_lt.mpr hb)
        have hv : ∀ (i : Nat) (v : Value), its[i]? = some v → ∃ p, ks[i]? = some p ∧ v = .ref p.1 := fun i v hv => by
          rw [← Array.getElem?_toList, hi, List.getElem?_map] at hv
          obtain ⟨p, e1, e2⟩ := Option.map_eq_some_iff.mp hv
          exact ⟨p, e1, e2.symm⟩
        refine fill_set ((Walks.tuple h3 _ l nI its).toS) s.heap.objs.size nf ks sz few hv s.heap hk (off _ (Nat.le_refl _)) (fun b hb => off b (by rw [List.mem_singleton.mp hb, z1]; exact Nat.le_succ _)) hu (its.size - 0) 0 _ (by omega) (Nat.zero_le _)
          ⟨⟨_, Heap.get?_push_size _ rfl, rfl, rfl⟩, ⟨_, Heap.get?_push_of_some _ ho1, rfl, n, rfl⟩⟩ (fun b o e => Heap.get?_push_of_some _ (Heap.get?_push_of_some _ e)) ⟨[], #[], 0, _, sg_new (Heap.get?_push_of_some _ at0), Got.zero ks⟩ fun s' L es ep t hm R' g' up => ?_
        obtain ⟨h', g2, d2, t2, o2⟩ := s'
        obtain rfl : g2 = s.gens := hm.gens
        obtain rfl : d2 = s.drawn := hm.drawn
        obtain rfl : o2 = s.os := hm.os
        rw [sz] at g'
        show wpAny _ _ _ _ _ _
        exact wpAny_pure (show wpAny _ _ (ret Value.none) _ _ _ from wpAny_pure ⟨rfl, h', t2, L, es, ep, t, rfl, R', g', up⟩)
      · cases r₂ with
        | error e => exact hr₂
        | ok fl₂ =>
          cases fl₂ with
          | ret r =>
            obtain ⟨rfl, h', tk, L, es, ep, t, rfl, R', g', up⟩ := hr₂
            repeat any_goals first | assumption | wp_step
            exact k _ _ _ _ _ _ R' g' up
          | _ => exact hr₂.elim
    | _ => exact hr.elim
end
end Lw

namespace Lw
open PySem.Spec PySem L2 PyProof.Rows
open Evl (Ex Ex.refl Ex.trans Ex.new Ex.off ex_rd ex_l ex_t)
/-- the set at a -/
def SGO (P : Program) (w : World) (a : Addr) (L : List (Addr × List Int)) : HO := .ext fun h => ∃ es ep t, SG P w h a L es ep t
theorem sgO_new {P : Program} {w : World} {H : Hp} {h : Heap} {a : Addr} {L : List (Addr × List Int)} {es : Array (Int × Value)} {ep : Nat} {t : SetTable} (R : SG P w h a L es ep t) : ObjOk P w H h a (SGO P w a L) :=
  ⟨⟨es, ep, t, R⟩, R.ob.elim fun o z => ⟨o, z.1⟩, fun h1 h2 p k => by
    obtain ⟨es2, ep2, t2, R2⟩ := p
    exact ⟨es2, ep2, t2, R2.keep k⟩⟩
/-- set(xs) -/
def rSetG (K : Fg) (P : Program) (w : World) : List V → Hp → VK → Prop := fun xs H Q => ∃ (l : Addr) (ks : List (Addr × List Int)), xs = [V.ref l] ∧ (SqL K H l (ks.map fun p => V.ref p.1) ∨ SqT K H l (ks.map fun p => V.ref p.1)) ∧ (∀ p ∈ ks, SqT K H p.1 (p.2.map V.int)) ∧ ks.length ≤ 999 ∧
  ∀ a L, H a = none → (∀ p ∈ L, p ∈ ks) → (∀ p ∈ ks, p.2 ∈ L.map (·.2)) → Q (.ref a) (upd H a (SGO P w a L))
/-- x in s, x not in s -/
def rInG (K : Fg) (P : Program) (w : World) (neg : Bool) : R2 := fun x y H Q => ∃ (a : Addr) (L : List (Addr × List Int)), y = V.ref a ∧ H a = some (SGO P w a L) ∧ (∀ p ∈ L, SqT K H p.1 (p.2.map V.int)) ∧
  ((∃ (b : Addr) (ns : List Int), x = V.ref b ∧ SqT K H b (ns.map V.int) ∧ Q (.bl (neg ^^ decide (ns ∈ L.map (·.2)))) H) ∨ (x = V.non ∧ Q (.bl neg) H))
section
variable {X : Cx}
theorem cr_setG (hc : X.calm = true) (hu : X.A.units + 65 < cLine) : CallR X (.type "set") (rSetG X.K X.prog X.w) := by
  rintro pins s σ H _ us Q I r ⟨l, ks, rfl, hl, hk, few, q⟩
  rw [Vals.ref1 r]
  have fin : ∀ (h' : Heap) (tk : Nat) L es ep t, SG X.prog X.w h' s.heap.objs.size L es ep t → Got ks ks.length L → (∀ b o, s.heap.get? b = some o → h'.get? b = some o) → EP X pins σ Q (.ref s.heap.objs.size) { s with heap := h', toks := tk } := fun h' tk L es ep t R g up =>
    ⟨.ref _, upd H s.heap.objs.size (SGO X.prog X.w s.heap.objs.size L), I.laid (t' := tk) up (Nat.le_refl _) (sgO_new R), rfl, q _ L (I.hok.fresh (Nat.le_refl _)) (fun p hp => List.mem_of_mem_take (g.sub p hp)) fun p hp => g.all p (by rw [List.take_length]; exact hp)⟩
  rcases hl with hl | hl
  · obtain ⟨its, rv, pl, _⟩ := I.list hl
    exact set_of_listT ks (I.ok.hd hc) pl.isList (by simpa using refs_of_vals rv) (fun p hp => I.isT (hk p hp)) few (by omega) fin
  · obtain ⟨its, rv, tl, _⟩ := I.tuple hl
    exact set_of_tupleT ks (I.ok.hd hc) tl (by simpa using refs_of_vals rv) (fun p hp => I.isT (hk p hp)) few (by omega) fin
theorem any_mem {L : List (Addr × List Int)} {ns : List Int} : (L.any fun p => decide (p.2 = ns)) = decide (ns ∈ L.map (·.2)) := by
  rw [Bool.eq_iff_iff, List.any_eq_true, decide_eq_true_eq, List.mem_map]
  exact ⟨fun ⟨p, m, e⟩ => ⟨p, m, of_decide_eq_true e⟩, fun ⟨p, m, e⟩ => ⟨p, m, decide_eq_true e⟩⟩
theorem any_no {L : List (Addr × List Int)} : (L.any fun _ => false) = false := by
  induction L with
  | nil => rfl
  | cons p L ih => rw [List.any_cons, ih]; rfl
theorem held_op (hu : X.A.units + 65 < cLine) {pins : List (Addr × Obj)} {s : Shared} {σ : L2.St} {H : Hp} {x y : V} {v u : Value} {Q : VK} {neg : Bool} (I : Inv X pins σ H s) (rx : RelV x v) (ry : RelV y u) (h : rInG X.K X.prog X.w neg x y H Q) :
    wpAny (model X.prog X.w) X.A (contains u v >>= fun b => pure (Value.bool (neg ^^ b))) (EP X pins σ Q) X.xe s := by
  obtain ⟨a, L, rfl, ha, hk, h⟩ := h
  cases ry
  obtain ⟨es, ep, t, R⟩ := (I.hok a _ ha).1
  have ht : ∀ p ∈ L, IsT X.prog X.w s.heap p.2 p.1 := fun p hp => I.isT (hk p hp)
  have u1 : X.A.in1.units < cLine := by
    show X.A.units + 1 < cLine
    omega
  rcases h with ⟨b, ns, rfl, hb, q⟩ | ⟨rfl, q⟩
  · cases rx
    refine held_in (n := ns.length + 1) (c := fun b => Value.bool (neg ^^ b)) R (fun E Q q => wpAny_pyHash_tuple u1 (I.isT hb) q) (key_tup (s := { s with toks := s.toks + (ns.length + 1) }) (I.isT hb) ht u1) (fun z => by cases z) (fun y tk z => by cases z) ?_
    exact ⟨.bl _, H, I.tok _, by rw [any_mem]; rfl, q⟩
  · cases rx
    refine held_in (n := 1) (c := fun b => Value.bool (neg ^^ b)) R (fun E Q q => (noneKind X.prog X.w).pyHash (k := none) rfl q) (key_none (s := { s with toks := s.toks + 1 }) ht u1) (fun _ => .inr fun _ _ => rfl) (fun y tk z => by cases z) ?_
    exact ⟨.bl neg, H, I.tok _, by rw [any_no, Bool.xor_false]; rfl, q⟩
theorem op_inG (hu : X.A.units + 65 < cLine) : OpR X (compareOp .In) (rInG X.K X.prog X.w false) := fun pins s σ H x y v u Q I rx ry h => by
  have z := held_op hu I rx ry h
  simp only [Bool.false_xor] at z
  exact z
theorem op_notInG (hu : X.A.units + 65 < cLine) : OpR X (compareOp .NotIn) (rInG X.K X.prog X.w true) := fun pins s σ H x y v u Q I rx ry h => by
  have z := held_op hu I rx ry h
  simp only [Bool.true_xor] at z
  exact z
end
/-! ### as data that stays -/
def DpS (K : Fg) (P : Program) (w : World) (G : Hp) (v : V) (ks : List (List Int)) : Prop := ∃ (a : Addr) (L : List (Addr × List Int)), v = .ref a ∧ G a = some (SGO P w a L) ∧ (∀ p ∈ L, SqT K G p.1 (p.2.map V.int)) ∧ ∀ k, k ∈ L.map (·.2) ↔ k ∈ ks
section
variable {K : Fg} {P : Program} {w : World} {B : Bg} {G G' H : Hp} {σ : L2.St} {te : TE} {D : Ends} {u : TS} {ks : List (List Int)} {v : V} {k : List Int} {i : Nat}
theorem dpS_mono (e : Ex G G') (d : DpS K P w G v ks) : DpS K P w G' v ks := by
  obtain ⟨a, L, rfl, ha, hk, hm⟩ := d
  exact ⟨a, L, rfl, e a _ ha, fun p hp => ex_t e (hk p hp), hm⟩
theorem sq_setG {ds : PyData} (hds : ds = .list (ks.map encT) ∨ ds = .tuple (ks.map encT)) (h : EvD K B te σ G ds) (hl : ks.length ≤ 999) (e : Ok K B G H) (q : ∀ v G2 H2, Ext K B G H G2 H2 → DpS K P w G2 v ks → u D (σ.set i (some v)) H2) :
    tSeq (tAsg (tCB (rSetG K P w) (tCons te tNil)) (gName i)) u D σ H := h H e _ fun x G1 H1 X dv => by
  have fin : ∀ (l : Addr) (xs : List V), (SqL K H1 l xs ∨ SqT K H1 l xs) → DpAll K G1 xs (ks.map encT) → rSetG K P w [V.ref l] H1 fun v H2 => gName i v σ H2 (u D) := fun l xs hs hx => by
    obtain ⟨ps, rfl, rfl, hk⟩ := dp_encs hx
    refine ⟨l, ps, rfl, hs, fun p hp => ex_t X.ok.e (hk p hp), by rw [← List.length_map (fun p : Addr × List Int => p.2)]; exact hl, fun a L ha h1 h2 => ?_⟩
    refine q (.ref a) _ _ (X.trans (Ext.new X.ok ha)) ⟨a, L, rfl, upd_same, fun p hp => ex_t (Ex.new (X.ok.e.off ha)) (hk p (h1 p hp)), fun k => ⟨fun m => ?_, fun m => ?_⟩⟩
    · obtain ⟨p, mp, rfl⟩ := List.mem_map.mp m
      exact List.mem_map.mpr ⟨p, h1 p mp, rfl⟩
    · obtain ⟨p, mp, rfl⟩ := List.mem_map.mp m
      exact h2 p mp
  rcases hds with rfl | rfl
  · obtain ⟨l, xs, rfl, hs, hx⟩ := dp_lst dv
    exact fin l xs (.inl (ex_l X.ok.e hs)) hx
  · obtain ⟨l, xs, rfl, hs, hx⟩ := dp_tup dv
    exact fin l xs (.inr (ex_t X.ok.e hs)) hx
theorem ed_inG {neg : Bool} (h : EvD K B te σ G (encT k)) (hσ : σ[i]? = some (some v)) (d : DpS K P w G v ks) : EvD K B (tOp (rInG K P w neg) te (tVar i)) σ G (.bool (neg ^^ decide (k ∈ ks))) := fun H e Q q =>
  h H e _ fun x G1 H1 X dx => by
    obtain ⟨a, L, rfl, ha, hk, hm⟩ := dpS_mono (X.gg.trans X.ok.e) d
    obtain ⟨b, rfl, hb⟩ := dp_enc dx
    refine ⟨_, hσ, a, L, rfl, ha, hk, .inl ⟨b, k, rfl, ex_t X.ok.e hb, ?_⟩⟩
    rw [decide_eq_decide.mpr (hm k)]
    exact q _ G1 H1 X (.bl _)
theorem ed_inGN {neg : Bool} (h : EvD K B te σ G .none) (hσ : σ[i]? = some (some v)) (d : DpS K P w G v ks) : EvD K B (tOp (rInG K P w neg) te (tVar i)) σ G (.bool neg) := fun H e Q q =>
  h H e _ fun x G1 H1 X dx => by
    obtain ⟨a, L, rfl, ha, hk, hm⟩ := dpS_mono (X.gg.trans X.ok.e) d
    cases dx
    exact ⟨_, hσ, a, L, rfl, ha, hk, .inr ⟨rfl, q _ G1 H1 X (.bl _)⟩⟩
end
end Lw

namespace Lw
open PySem.Spec PySem L2 PyProof.Rows
open Evl (Ex Ex.refl Ex.trans Ex.new Ex.off ex_rd ex_l ex_t)
section
variable {K : Fg} {B : Bg} {G G' H : Hp} {σ : L2.St} {te ta tb : TE} {tr : TA} {tt : TT} {d : PyData} {ds es : List PyData} {D : Ends} {t u : TS}
theorem ef_call {sp : Sp} {dvs : List V} {E : XK} (ha : EvA K B tr σ G ds) (hs : ∀ vs G2 H2, Ex G G2 → Ok K B G2 H2 → DpAll K G2 vs ds → ∀ Q, RetF K B G2 H2 Q es → sp (vs ++ dvs) H2 Q E) : EvF K B (tCall sp dvs E tr) σ G es := fun H e Q q =>
  ha H e _ fun vs G2 H2 X dv => hs vs G2 H2 X.gg X.ok dv Q (q.mono X)
theorem ef_catF (ha : EvF K B ta σ G ds) (hb : EvF K B tb σ G es) (hl : ds.length + es.length ≤ 100000) : EvF K B (tOp rCat ta tb) σ G (ds ++ es) := fun H e Q q =>
  ha H e _ fun p xs G1 H1 X1 hp g1 nb h1 a1 => hb.mono X1.gg e.c H1 X1.ok _ fun o ys G2 H2 X2 ho g2 nb2 h2 a2 => by
    refine ⟨p, o, xs, ys, rfl, rfl, X2.hh p _ nb h1, h2, ?_, fun r hr => ?_⟩
    · rw [dpAll_len a1, dpAll_len a2]
      exact sz hl
    · have n3 := X2.ok.b.ne hr
      exact q r _ G2 _ ((X1.trans X2).trans (Ext.loose X2.ok hr)) ((X1.trans X2).old n3 hr) (X2.ok.e.off hr) n3 upd_same (dpAll_app (dpAll_mono X2.gg a1) a2)
/-- for x in xs, a list; the invariant over the whole heap -/
theorem sq_forL0 {i : Nat} {Pv : Hp → Nat → L2.St → Hp → Prop} (h : EvD K B te σ G (.list ds)) (e : Ok K B G H) (h0 : ∀ G1 H1, Ext K B G H G1 H1 → Pv G1 0 σ H1) (hk : ∀ G1 j σ' H', Pv G1 j σ' H' → Ex G1 H')
    (hs : ∀ G1 H1, Ext K B G H G1 H1 → ∀ (j : Nat) d v σ' H', ds[j]? = some d → Dp K G1 v d → Pv G1 j σ' H' → t (lpE D u fun σ2 H2 => Pv G1 (j + 1) σ2 H2) (σ'.set i (some v)) H')
    (hd : ∀ G1 H1, Ext K B G H G1 H1 → ∀ σ' H', Pv G1 ds.length σ' H' → u D σ' H') : tSeq (tFor (iList K te) (gName i) t) u D σ H :=
  h H e _ fun v G1 H1 X dv => by
    obtain ⟨a, xs, rfl, hl, hx⟩ := dp_lst dv
    refine ⟨a, rfl, ⟨xs, ex_l X.ok.e hl⟩, for_list (K := K) (a := a) (xs := xs) (fun j σ' H' => Pv G1 j σ' H') (h0 G1 H1 X) ?_ ?_ ?_⟩
    · intro j σ' H' _ p
      exact ex_l (hk G1 j σ' H' p) hl
    · intro j y σ' H' hj p
      obtain ⟨d, hd', dy⟩ := dpAll_at hx hj
      exact hs G1 H1 X j d y σ' H' hd' dy p
    · intro σ' H' p
      rw [dpAll_len hx] at p
      exact hd G1 H1 X σ' H' p
/-- what was laid fast for a while is loose again -/
theorem Ext.back {G1 G2 H2 : Hp} (X : Ext K B G1 H G2 H2) (e : Ex G G1) (c : Cel K B G) : Ext K B G H G H2 := ⟨Ex.refl G, X.hh, fun _ _ _ g => g, X.ok.less (e.trans X.gg) c⟩
/-- a list of two lists that were made anew -/
structure Two (K : Fg) (B : Bg) (G0 H0 G H : Hp) (p0 p1 pf : Addr) (ds es : List PyData) : Prop where
  x : Ext K B G0 H0 G H
  h0 : H0 p0 = none ∧ H0 p1 = none ∧ H0 pf = none
  g : G p0 = none ∧ G p1 = none ∧ G pf = none
  nb : ¬ isB B p0 ∧ ¬ isB B p1 ∧ ¬ isB B pf
  ne : p0 ≠ p1 ∧ p0 ≠ pf ∧ p1 ≠ pf
  a : ∃ xs ys, H p0 = some (.lst xs) ∧ H p1 = some (.lst ys) ∧ H pf = some (.lst [.ref p0, .ref p1]) ∧ DpAll K G xs ds ∧ DpAll K G ys es
theorem sq_two {i : Nat} (ha : EvF K B ta σ G ds) (hb : EvF K B tb σ G es) (e : Ok K B G H) (k : ∀ p0 p1 pf G2 H2, Two K B G H G2 H2 p0 p1 pf ds es → u D (σ.set i (some (.ref pf))) H2) : tSeq (tAsg (tLst (tCons ta (tCons tb tNil))) (gName i)) u D σ H :=
  ha H e _ fun p0 xs G1 H1 X1 h0 g0 n0 a0 d0 => hb.mono X1.gg e.c H1 X1.ok _ fun p1 ys G2 H2 X2 h1 g1 n1 a1 d1 => by
    refine ⟨by show 2 ≤ sizeLine; decide, fun pf hf => ?_⟩
    have a0' := X2.hh p0 _ n0 a0
    have nf := X2.ok.b.ne hf
    have ne0 : p0 ≠ pf := ne_of_none a0' hf
    have ne1 : p1 ≠ pf := ne_of_none a1 hf
    have X := X1.trans X2
    refine k p0 p1 pf G2 _ ⟨X.trans (Ext.loose X2.ok hf), ⟨h0, X1.old n1 h1, X.old nf hf⟩, ⟨X2.fr p0 _ a0 g0, g1, X2.ok.e.off hf⟩, ⟨n0, n1, nf⟩, ⟨ne_of_none a0 h1, ne0, ne1⟩, xs, ys, ?_, ?_, upd_same, dpAll_mono X2.gg d0, d1⟩
    · rw [upd_ne ne0]
      exact a0'
    · rw [upd_ne ne1]
      exact a1
theorem Two.step {G0 H0 G2 H2 : Hp} {p0 p1 pf : Addr} (l : Two K B G0 H0 G H p0 p1 pf ds es) (X : Ext K B G H G2 H2) : Two K B G0 H0 G2 H2 p0 p1 pf ds es := by
  obtain ⟨xs, ys, a0, a1, af, d0, d1⟩ := l.a
  exact ⟨l.x.trans X, l.h0, ⟨X.fr _ _ a0 l.g.1, X.fr _ _ a1 l.g.2.1, X.fr _ _ af l.g.2.2⟩, l.nb, l.ne, xs, ys, X.hh _ _ l.nb.1 a0, X.hh _ _ l.nb.2.1 a1, X.hh _ _ l.nb.2.2 af, dpAll_mono X.gg d0, dpAll_mono X.gg d1⟩
/-- a test that reads it -/
theorem Two.ifN {G0 H0 : Hp} {p0 p1 pf : Addr} {b : Bool} (l : Two K B G0 H0 G H p0 p1 pf ds es) (k : ∀ G1, Ex G G1 → Dp K G1 (.ref pf) (.list [.list ds, .list es]) → EvB K B tt σ G1 b) (k1 : b = true → ∀ H2, Two K B G0 H0 G H2 p0 p1 pf ds es → t { D with nx := u D } σ H2)
    (k2 : b = false → ∀ H2, Two K B G0 H0 G H2 p0 p1 pf ds es → u D σ H2) : tSeq (tIfS tt t tNext) u D σ H := by
  obtain ⟨xs, ys, a0, a1, af, d0, d1⟩ := l.a
  have g1 : upd G p0 (.lst xs) p1 = none := by
    rw [upd_ne (Ne.symm l.ne.1)]
    exact l.g.2.1
  have gf : upd (upd G p0 (.lst xs)) p1 (.lst ys) pf = none := by
    rw [upd_ne (Ne.symm l.ne.2.2), upd_ne (Ne.symm l.ne.2.1)]
    exact l.g.2.2
  have e0 : Ex G (upd G p0 (.lst xs)) := Ex.new l.g.1
  have e1 : Ex (upd G p0 (.lst xs)) (upd (upd G p0 (.lst xs)) p1 (.lst ys)) := Ex.new g1
  have ef : Ex (upd (upd G p0 (.lst xs)) p1 (.lst ys)) (upd (upd (upd G p0 (.lst xs)) p1 (.lst ys)) pf (.lst [.ref p0, .ref p1])) := Ex.new gf
  have F := ((l.x.freeze l.h0.1 l.g.1 l.nb.1 a0).freeze l.h0.2.1 g1 l.nb.2.1 a1).freeze l.h0.2.2 gf l.nb.2.2 af
  have E := e0.trans (e1.trans ef)
  have dd : Dp K (upd (upd (upd G p0 (.lst xs)) p1 (.lst ys)) pf (.lst [.ref p0, .ref p1])) (.ref pf) (.list [.list ds, .list es]) :=
    .lst (SqL.of upd_same) (.cons (dp_mono (e1.trans ef) (.lst (SqL.of upd_same) (dpAll_mono e0 d0))) (.cons (dp_mono ef (.lst (SqL.of upd_same) (dpAll_mono (e0.trans e1) d1))) .nil))
  refine sq_ifN (k _ E dd) F.ok (fun c G2 H2 X => k1 c H2 (l.step (X.back E l.x.ok.c))) (fun c G2 H2 X => k2 c H2 (l.step (X.back E l.x.ok.c)))
/-- xs[0].append(0); xs[1].reverse() -/
theorem Two.bend {G0 H0 : Hp} {p0 p1 pf : Addr} {i : Nat} (hσ : σ[i]? = some (some (.ref pf))) (l : Two K B G0 H0 G H p0 p1 pf ds es) (hl : ds.length < 100000) (k : ∀ H2, Ext K B G0 H0 G H2 → D.nx σ H2) :
    tSeq (tDrop (tBM K "list" rAppend (tOp (rIxL K) (tVar i) (tC (.int 0))) (tCons (tC (.int 0)) tNil))) (tDrop (tBM0 K "list" rReverse (tOp (rIxL K) (tVar i) (tC (.int 1))))) D σ H := by
  obtain ⟨xs, ys, a0, a1, af, d0, d1⟩ := l.a
  refine ⟨.ref pf, hσ, pf, [.ref p0, .ref p1], 0, .ref p0, rfl, rfl, SqL.of af, rfl, .inl ⟨rfl, xs, SqL.of a0⟩, p0, xs, .int 0, rfl, rfl, a0, by rw [dpAll_len d0]; exact szl hl, ?_⟩
  have b1 : upd H p0 (.lst (xs ++ [.int 0])) p1 = some (.lst ys) := by
    rw [upd_ne (Ne.symm l.ne.1)]
    exact a1
  have bf : upd H p0 (.lst (xs ++ [.int 0])) pf = some (.lst [.ref p0, .ref p1]) := by
    rw [upd_ne (Ne.symm l.ne.2.1)]
    exact af
  refine ⟨.ref pf, hσ, pf, [.ref p0, .ref p1], 1, .ref p1, rfl, rfl, SqL.of bf, rfl, .inl ⟨rfl, ys, SqL.of b1⟩, p1, ys, rfl, rfl, b1, ?_⟩
  refine k _ ⟨l.x.gg, fun a o n z => ?_, l.x.fr, (l.x.ok.mut l.g.1 l.nb.1).mut l.g.2.1 l.nb.2.1⟩
  rw [upd_ne (ne_of_none z l.h0.2.1), upd_ne (ne_of_none z l.h0.1)]
  exact l.x.hh a o n z
end
theorem nd_len {α : Type} [DecidableEq α] : ∀ (l D : List α), l.Nodup → (∀ x ∈ l, x ∈ D) → l.length ≤ D.length
  | [], D, _, _ => Nat.zero_le D.length
  | x :: l, D, hn, hs => by
    have h1 := List.nodup_cons.mp hn
    have mx := hs x List.mem_cons_self
    have z := nd_len l (D.erase x) h1.2 fun y hy => (List.mem_erase_of_ne fun e => h1.1 (by rw [← e]; exact hy)).mpr (hs y (List.mem_cons_of_mem _ hy))
    rw [List.length_erase_of_mem mx] at z
    have := List.length_pos_of_mem mx
    rw [List.length_cons]
    omega
end Lw

namespace Lw
open PySem.Spec PySem L2 PyProof.Rows
open Evl (Ex Ex.refl Ex.trans Ex.new Ex.off ex_rd ex_l ex_t)
/-! enumerate over a tuple; loops and comprehensions over pairs -/
abbrev enO (it : Addr) : Obj := { cls := .type "enumerate", data := .fields #[.none, .bool false, .ref it, rawInt 0, .none, .none] }
theorem en_new {v : Value} {o : Obj} {Hq : Heap → Prop} (Bg : Begins v o Hq) :
    Meets (Builtin.«enumerate.__new__» ⟨[.type "enumerate", v], []⟩)
      (fun _ R s => Hq s.heap ∧ R (.ok (.ret (.ref (s.heap.push o).objs.size))) { s with heap := (s.heap.push o).push (enO s.heap.objs.size) }) :=
  .of_wp fun prog w A R s both => by
    obtain ⟨hp, gg, dd, tk, oo⟩ := s
    obtain ⟨h1, h2⟩ := both
    have hsub := sub_enumerate
    have it1 : ∀ {A' : Around} {E : Value → Shared → Prop} {Q : Value → Shared → Prop}, Q (.ref hp.objs.size) ⟨hp.push o, gg, dd, tk, oo⟩ →
        wpAny (model prog w) A' (pyIter v) Q E ⟨hp, gg, dd, tk, oo⟩ := fun q => Bg.iter prog w _ _ ⟨hp, gg, dd, tk, oo⟩ _ h1 q
    wp_walk using it1
    refine wpAny_stack_any fun stk => ?_
    refine wpAny_pure ?_
    split
    · rename_i cc _ _ _ _ _
      cases cc == Value.type "enumerate" with
      | true => wp_walk using it1; exact ⟨_, rfl, h2⟩
      | false => wp_walk using it1; exact ⟨_, rfl, h2⟩
    · wp_walk using it1; exact ⟨_, rfl, h2⟩
section
variable {s : Shared} {prog : Program} {w : World} {A : Around} {E : Value → Shared → Prop}
theorem en_tup {a : Addr} {its : Array Value} {Q : Value → Shared → Prop} (hT : s.heap.IsTuple a its)
    (k : ∀ h', IsEnum h' (s.heap.objs.size + 1) s.heap.objs.size 0 .none → h'.IsTupleIter s.heap.objs.size a 0 → (∀ b o, s.heap.get? b = some o → h'.get? b = some o) →
      Q (.ref (s.heap.objs.size + 1)) { s with heap := h' }) : wpAny (model prog w) A (call (.type "enumerate") [.ref a]) Q E s := by
  refine callType_new F.called_enumerate (by decide) (F.typeCall_enumerate_1 _) (F.newCall_enumerate_1 _)
    (fun obj => F.args_object_init_2 obj _) F.entry_enumerate_new (en_new (begins_tuple a its)) ⟨hT, ?_⟩
  generalize ho : ({ cls := .type "tuple_iterator", data := .fields #[.ref a, .int 0 0] } : Obj) = o
  have hf : o.isFreed = false := by rw [← ho]; rfl
  have sz1 : (s.heap.push o).objs.size = s.heap.objs.size + 1 := Heap.size_push ..
  have en1 : IsEnum ((s.heap.push o).push (enO s.heap.objs.size)) (s.heap.objs.size + 1) s.heap.objs.size 0 .none := by
    have z := Heap.get?_push_size (s.heap.push o) (o := enO s.heap.objs.size) rfl
    rwa [sz1] at z
  show _ ∧ _
  rw [sz1]
  refine ⟨⟨_, en1, rfl⟩, k _ en1 ⟨o, Heap.get?_push_of_some _ (Heap.get?_push_size _ hf), ?_, ?_⟩ fun b ob x => ?_⟩
  · rw [← ho]
  · rw [← ho]; rfl
  · exact Heap.get?_push_of_some _ (Heap.get?_push_of_some _ x)
end
/-- the tuple at a, each item in a new pair behind its number -/
def ItE (K : Fg) (a : Addr) : It where
  go i H := ∃ (xs : List V) (x : V), SqT K H a xs ∧ xs[i]? = some x
  yld i H v H' := ∃ T x, v = .ref T ∧ H T = none ∧ H' = upd H T (.tup [.int (i : Nat), x]) ∧ ∀ xs, SqT K H a xs → xs[i]? = some x
  stop i H := ∃ xs : List V, SqT K H a xs ∧ xs.length ≤ i
theorem cls_ne {h : Heap} {a b : Addr} {o p : Obj} (ha : h.get? a = some o) (hb : h.get? b = some p) (ne : o.cls ≠ p.cls) : a ≠ b := fun z => by
  rw [z, hb] at ha
  cases ha
  exact ne rfl
theorem mem2 {α : Type} {a b x : α} (h : x ∈ [a, b]) : x = a ∨ x = b := (List.mem_cons.mp h).imp id List.mem_singleton.mp
theorem clsT {x y : String} (h : x ≠ y) : Value.type x ≠ Value.type y := fun z => h (by injection z)
theorem turn_enT {P : Program} {w : World} {K : Fg} {elts : List Expr} {kk : Nat} {tpos : Pos} (a e it : Addr) :
    Turn P w K (.Tuple elts kk tpos) (ItE K a) [e, it] e fun i h => (∃ old, IsEnum h e it ((i : Nat) : Int) old) ∧ h.IsTupleIter it a i where
  mem := List.mem_cons_self
  obj i h st b hb := by
    obtain ⟨⟨old, he⟩, o, ho, hc, hd⟩ := st
    rcases mem2 hb with rfl | rfl
    · exact ⟨_, he, fun v q => nomatch q⟩
    · exact ⟨o, ho, fun v q => by rw [hd] at q; cases q⟩
  keep i h h' st k := by
    obtain ⟨⟨old, he⟩, o, ho, r⟩ := st
    exact ⟨⟨old, k e List.mem_cons_self _ he⟩, o, k it (by simp) o ho, r⟩
  item := by
    rintro X rfl rfl rfl hc i pins s σ H E I hf ⟨⟨old, he⟩, hit⟩ ⟨xs, x, hq, hx⟩
    obtain ⟨its, rv, tp, hz⟩ := I.tuple hq
    obtain ⟨u, iu0, ru⟩ := rv.get hx
    obtain ⟨oi, hoi, ci, di⟩ := id hit
    obtain ⟨oa, hoa, ca, da⟩ := id tp
    have n1 : e ≠ it := cls_ne he hoi (by rw [ci]; exact clsT (by decide))
    have n2 : e ≠ a := cls_ne he hoa (by rw [ca]; exact clsT (by decide))
    have n3 : a ≠ it := cls_ne hoa hoi (by rw [ci, ca]; exact clsT (by decide))
    have old2 : e < s.heap.objs.size ∧ it < s.heap.objs.size := ⟨Heap.lt_size he, Heap.lt_size hoi⟩
    have iu : its.toArray[i]? = some u := by simpa using iu0
    have il : i < its.toArray.size := by
      rcases Nat.lt_or_ge i its.toArray.size with z | z
      · exact z
      · rw [Array.getElem?_eq_none z] at iu
        cases iu
    refine wpAny_pyNext_enum_itemD (Draws.tuple (show X.A.in1.handled = none from I.ok.hd hc) it a n3 its.toArray) he ⟨hit, tp⟩ il n1 (by simp [n1, n2]) fun y h' tk py ho st' hT hsz hk => ?_
    obtain rfl : y = u := by
      have py : its.toArray[i]? = some y := py
      rw [iu] at py
      exact (Option.some.inj py).symm
    refine ⟨_, rfl, wpAny_letOwnedTupleGo_enum (s := { s with heap := h', toks := tk + 1 }) ho fun h2 he2 sb => ?_⟩
    have T2 : h2.get? s.heap.objs.size = some { cls := .type "tuple", data := .seq #[.int i tk, y] } := (sb.2 _ (Nat.ne_of_gt old2.1)).trans hT
    have okT : ObjOk X.prog X.w (upd H s.heap.objs.size (.tup [.int (i : Nat), x])) h2 s.heap.objs.size (.tup [.int (i : Nat), x]) :=
      ⟨show 2 ≤ sizeLine by decide, [.int i tk, y], .cons ⟨_, rfl⟩ (.cons ru .nil), _, T2, rfl, _, rfl⟩
    have I1 := I.turnedNew (t' := tk + 1) (ch := [e, it]) (fun b ob hb q => ?_) hf (Nat.le_refl _) okT
    refine ⟨.ref s.heap.objs.size, _, I1, rfl, ⟨_, x, rfl, I.hok.fresh (Nat.le_refl _), rfl, fun ys hy => ?_⟩, ⟨⟨y, ?_⟩, ?_⟩, fun b hb => ?_⟩
    · rw [I.tuple_inj hy hq]
      exact hx
    · have e1 : ((i + 1 : Nat) : Int) = (i : Int) + 1 := Int.natCast_succ i
      rw [e1]
      exact he2
    · obtain ⟨o3, g3, r3⟩ := st'.1
      exact ⟨o3, (sb.2 it (Ne.symm n1)).trans g3, r3⟩
    · have lt : b < s.heap.objs.size := by
        rcases mem2 hb with rfl | rfl
        · exact old2.1
        · exact old2.2
      rw [upd_ne (Nat.ne_of_lt lt)]
      exact (hf b hb).1
    · have b1 : b ≠ e := fun z => hb (by simp [z])
      have b2 : b ≠ it := fun z => hb (by simp [z])
      exact (sb.2 b b1).trans (hk b ob b1 b2 q)
  done := by
    rintro X rfl rfl rfl hc i pins s σ H E I hf ⟨⟨old, he⟩, hit⟩ ⟨xs, hq, hx⟩
    obtain ⟨its, rv, tp, hz⟩ := I.tuple hq
    obtain ⟨f0, f1, _, f3, f4, f5⟩ := hf it (List.mem_cons_of_mem _ List.mem_cons_self)
    obtain ⟨oi, hoi, ci, di⟩ := id hit
    obtain ⟨oa, hoa, ca, da⟩ := id tp
    have n3 : a ≠ it := cls_ne hoa hoi (by rw [ci, ca]; exact clsT (by decide))
    have n1 : e ≠ it := cls_ne he hoi (by rw [ci]; exact clsT (by decide))
    have len := rv.length
    have D := Draws.tuple (prog := X.prog) (w := X.w) (A := X.A.in1) (show X.A.in1.handled = none from I.ok.hd hc) it a n3 its.toArray
    have up : its.toArray.size ≤ i := by
      rw [List.size_toArray]
      omega
    -- the iterator stands at its end
    by_cases c : i = its.toArray.size
    · subst c
      exact wpAny_pyNext_enum_endD D he ⟨hit, tp⟩ fun h' eb => ⟨rfl, I.turned (t' := s.toks) (fun b o hb q => eb b o hb q) f0 f1 f3 f4 f5⟩
    · have non : its.toArray[i]? = none := Array.getElem?_eq_none up
      have ty : s.TypeIs (.ref e) "enumerate" := ⟨_, he, rfl⟩
      unfold pyNext
      refine wpAny_bind (wpAny_attempt (wpAny_callSpecial?_slot (name := Str.ofString "__next__") ty F.slot_enumerate_next (wpAny_call_entry F.slot_enumerate_next ty F.entry_enumerate_next ?_ (F.args_enumerate_next_1 _))))
      refine (show wpAny _ _ (field (.ref e) 2 >>= _) _ _ s from wpAny_bind (wpAny_field he rfl (x := .ref it) rfl (wpAny_bind ?_)))
      refine wpAny_nextOf_tuple_end (show X.A.in1.in1.handled = none from I.ok.hd hc) hit tp non fun h' x eb st => ?_
      obtain ⟨o, ho, hcl⟩ := st
      exact wpAny_bind (wpAny_isInstance (T := "StopIteration") (b := true) ⟨o, ho, hcl⟩ isSubtype_stop (wpAny_pure ⟨rfl, I.turned (t' := s.toks) (fun b o hb q => eb b o hb q) f0 f1 f3 f4 f5⟩))
  self A i s Q E st h := by
    obtain ⟨⟨old, he⟩, _⟩ := st
    exact wpAny_pyIter_enum he h
def iEnT (K : Fg) (ta : TA) : TI := fun σ H R => ta σ H fun vs H1 => ∃ a xs, vs = [.ref a] ∧ SqT K H1 a xs ∧ R (ItE K a) H1
theorem pi_enT {X : Cx} {e : Expr} {ta : TA} {p pos tpos : Pos} {elts : List Expr} {kk : Nat} (hg : Gl X "enumerate") (hm : X.mg "enumerate" = none) (ha : PA X [e] ta)
    (hs : starEach [e] X.env = [(false, eval e X.env)] := by rfl) : PI X (.Tuple elts kk tpos) (.Call (.Name "enumerate" p) [e] [] pos) (iEnT X.K ta) := by
  refine ⟨fun pins s σ H R I h => Call_ (ld_blt I hg hm boot_enumerate (PyProof.Rows.callWith_type1 (thn (ha.run pos pins s σ H _ I h) ?_) hs rfl))⟩
  rintro us s1 ⟨vs, H1, I1, r1, a, xs, rfl, hq, q⟩
  cases r1 with
  | cons r rr =>
    cases rr
    cases r
    obtain ⟨its, rv, tp, hz⟩ := I1.tuple hq
    refine en_tup (show s1.heap.IsTuple a its.toArray from tp) fun h' he hit hk => wpAny_pyIter_enum he ?_
    have I2 := I1.kept (t' := s1.toks) hk
    refine ⟨s1.heap.objs.size + 1, _, _, _, H1, rfl, I2, turn_enT a (s1.heap.objs.size + 1) s1.heap.objs.size, ⟨⟨.none, he⟩, hit⟩, fun b hb => ?_, q⟩
    have le : s1.heap.objs.size ≤ b := by
      rcases mem2 hb with rfl | rfl
      · exact Nat.le_succ _
      · exact Nat.le_refl _
    exact I1.fpOk le (I1.hok.fresh le)
theorem walk_enT {K : Fg} {a : Addr} {xs : List V} : Walk (ItE K a) xs.length (fun H => SqT K H a xs) (YPair (fun i => some (.int (i : Nat))) fun i => xs[i]?) where
  goes i _ hi q := ⟨xs, xs[i], q, List.getElem?_eq_getElem hi⟩
  stops _ q := ⟨xs, q, Nat.le_refl _⟩
  yields i H v H' _ q y := by
    obtain ⟨at_, it_, ev, new, eh, el⟩ := y
    exact ⟨at_, _, it_, ev, new, eh, rfl, el xs q⟩
theorem walk_zipT {K : Fg} {a b : Addr} {xs ys : List V} {n : Nat} (hn : n = min xs.length ys.length) : Walk (RZ.ItzT K a b) n (fun H => SqT K H a xs ∧ SqT K H b ys) (YPair (fun i => xs[i]?) fun i => ys[i]?) where
  goes i _ hi q := ⟨xs, ys, xs[i]'(by omega), ys[i]'(by omega), q.1, q.2, List.getElem?_eq_getElem _, List.getElem?_eq_getElem _⟩
  stops _ q := ⟨xs, ys, q.1, q.2, by omega⟩
  yields i H v H' _ q y := by
    obtain ⟨at_, one, two, ev, new, eh, e1, e2⟩ := y
    exact ⟨at_, one, two, ev, new, eh, e1 xs q.1, e2 ys q.2⟩
/-- an iterator over n pairs, told by their numbers -/
def EvP (K : Fg) (B : Bg) (wi : TI) (σ : L2.St) (G : Hp) (n : Nat) (as bs : Nat → Option PyData) : Prop := ∀ H, Ok K B G H → ∀ R : It → Hp → Prop,
  (∀ J xs ys G1 H1, Ext K B G H G1 H1 → Walk J n (fun H' => Ex G1 H') (YPair xs ys) → (∀ i x, i < n → xs i = some x → ∃ d, as i = some d ∧ Dp K G1 x d) → (∀ i y, i < n → ys i = some y → ∃ d, bs i = some d ∧ Dp K G1 y d) → R J H1) → wi σ H R
section
variable {K : Fg} {B : Bg} {G G' H : Hp} {σ : L2.St} {te ta tb : TE} {tr : TA} {tt : TT} {d : PyData} {ds es : List PyData} {D : Ends} {t u : TS} {wi : TI} {as bs : Nat → Option PyData} {n : Nat}
theorem ep_zipT (h : EvA K B tr σ G [.tuple ds, .tuple es]) (hn : n = min ds.length es.length) : EvP K B (RZ.iZipA K tr) σ G n (fun i => ds[i]?) fun i => es[i]? := fun H e R k =>
  h H e _ fun vs G1 H1 X dv => by
    cases dv with
    | cons d1 dv =>
      cases dv with
      | cons d2 dv =>
        cases dv
        obtain ⟨a, xs, rfl, sa, ax⟩ := dp_tup d1
        obtain ⟨b, ys, rfl, sb, bx⟩ := dp_tup d2
        refine ⟨a, b, xs, ys, rfl, .inr ⟨ex_t X.ok.e sa, ex_t X.ok.e sb, ?_⟩⟩
        refine k _ _ _ G1 H1 X ((walk_zipT (by rw [dpAll_len ax, dpAll_len bx]; exact hn)).mono (fun H' q => ⟨ex_t q sa, ex_t q sb⟩) fun _ _ _ _ _ _ y => y) (fun i x hi q => ?_) (fun i x hi q => ?_)
        · exact dpAll_at ax q
        · exact dpAll_at bx q
theorem ep_enT (h : EvA K B tr σ G [.tuple ds]) : EvP K B (iEnT K tr) σ G ds.length (fun i => some (.int (i : Nat))) fun i => ds[i]? := fun H e R k =>
  h H e _ fun vs G1 H1 X dv => by
    cases dv with
    | cons d1 dv =>
      cases dv
      obtain ⟨a, xs, rfl, sa, ax⟩ := dp_tup d1
      refine ⟨a, xs, rfl, ex_t X.ok.e sa, ?_⟩
      rw [← dpAll_len ax] at k
      refine k _ _ _ G1 H1 X (walk_enT.mono (fun H' q => ex_t q sa) fun _ _ _ _ _ _ y => y) (fun i x hi q => ?_) (fun i x hi q => dpAll_at ax q)
      cases q
      exact ⟨_, rfl, .int _⟩
theorem ep_enL (h : EvA K B tr σ G [.list ds]) : EvP K B (iEnum K tr) σ G ds.length (fun i => some (.int (i : Nat))) fun i => ds[i]? := fun H e R k =>
  h H e _ fun vs G1 H1 X dv => by
    cases dv with
    | cons d1 dv =>
      cases dv
      obtain ⟨a, xs, rfl, sa, ax⟩ := dp_lst d1
      refine ⟨a, xs, rfl, ex_l X.ok.e sa, ?_⟩
      rw [← dpAll_len ax] at k
      refine k _ _ _ G1 H1 X (walk_enum.mono (fun H' q => ex_l q sa) fun _ _ _ _ _ _ y => y) (fun i x hi q => ?_) (fun i x hi q => dpAll_at ax q)
      cases q
      exact ⟨_, rfl, .int _⟩
theorem ep_zipL (h : EvA K B tr σ G [.list ds, .list es]) (hn : n = min ds.length es.length) : EvP K B (RZ.iZipA K tr) σ G n (fun i => ds[i]?) fun i => es[i]? := fun H e R k =>
  h H e _ fun vs G1 H1 X dv => by
    cases dv with
    | cons d1 dv =>
      cases dv with
      | cons d2 dv =>
        cases dv
        obtain ⟨a, xs, rfl, sa, ax⟩ := dp_lst d1
        obtain ⟨b, ys, rfl, sb, bx⟩ := dp_lst d2
        refine ⟨a, b, xs, ys, rfl, .inl ⟨ex_l X.ok.e sa, ex_l X.ok.e sb, ?_⟩⟩
        refine k _ _ _ G1 H1 X ((walk_zip (by rw [dpAll_len ax, dpAll_len bx]; exact hn)).mono (fun H' q => ⟨ex_l q sa, ex_l q sb⟩) fun _ _ _ _ _ _ y => y) (fun i x hi q => ?_) (fun i x hi q => ?_)
        · exact dpAll_at ax q
        · exact dpAll_at bx q
theorem wipe2 (σ : L2.St) {i j : Nat} {x y : Option V} : wipe (((wipe σ [i, j]).set i x).set j y) [i, j] = wipe σ [i, j] := by
  show (((((σ.set j none).set i none).set i x).set j y).set j none).set i none = (σ.set j none).set i none
  apply List.ext_getElem?
  intro k
  simp only [List.getElem?_set, List.length_set]
  by_cases c : i = k
  · simp only [c, if_true]
  · by_cases c2 : j = k
    · simp only [c, c2, if_true, if_false]
    · simp only [c, c2, if_false]
theorem range_oneN (j : Nat) (f : Nat → Option PyData) : (List.range (j + 1)).filterMap f = (List.range j).filterMap f ++ (f j).toList := by
  rw [List.range_succ, List.filterMap_append]
  cases h : f j <;> simp [List.filterMap_cons, h]
/-- [e for a, b in pairs if t] -/
theorem ef_lcQ {i j : Nat} {f : Nat → Option PyData} (ha : EvP K B wi σ G n as bs) (hn : n ≤ 100000)
    (ht : ∀ k x y v u G', k < n → as k = some x → bs k = some y → Ex G G' → Cel K B G' → Dp K G' v x → Dp K G' u y → EvB K B tt (((wipe σ [i, j]).set i (some v)).set j (some u)) G' (f k).isSome)
    (he : ∀ k x y v u z G', k < n → as k = some x → bs k = some y → Ex G G' → Cel K B G' → Dp K G' v x → Dp K G' u y → f k = some z → EvD K B te (((wipe σ [i, j]).set i (some v)).set j (some u)) G' z) :
    EvF K B (tLc wi (gTup K 2 (gCons (gName i) (gCons (gName j) gNil))) tt te [i, j]) σ G ((List.range n).filterMap f) := fun H e Q q =>
  ha H e _ fun J xs ys G1 H1 X wk dx dy D hD => by
    have nb := X.ok.b.ne hD
    refine lc_it wk (Qd := fun H => Q (.ref D) H) (fun k H' => ∃ G' zs, Ext K B G1 H1 G' H' ∧ G' D = none ∧ H' D = some (.lst zs) ∧ DpAll K G' zs ((List.range k).filterMap f))
      ⟨G1, [], Ext.loose X.ok hD, X.ok.e.off hD, upd_same, .nil⟩ ?_ ?_ ?_
    · rintro k H' _ ⟨G', zs, X', _⟩
      exact X'.gg.trans X'.ok.e
    · rintro k v H' H2 hk ⟨G', zs, X', g', h', a'⟩ ⟨T, x, y, rfl, hT, rfl, ex, ey⟩
      obtain ⟨p, hp, pd⟩ := dx k x hk ex
      obtain ⟨r, hr, rd⟩ := dy k y hk ey
      have XT := Ext.new (o := .tup [x, y]) X'.ok hT
      refine ⟨T, [x, y], rfl, SqT.of upd_same, rfl, x, [y], rfl, y, [], rfl, rfl, wipe2 σ, ?_⟩
      have hlen : ((List.range k).filterMap f).length < 100000 := by
        have z := List.length_filterMap_le f (List.range k)
        rw [List.length_range] at z
        omega
      have hDT : D ≠ T := fun z => by
        rw [z, hT] at h'
        cases h'
      have eg := X'.gg.trans XT.gg
      have cg := (e.c.mono X.gg).mono eg
      refine lc_turn (o := f k) hD nb (X'.trans XT) (XT.fr D _ h' g') (XT.hh D _ nb h') (dpAll_mono XT.gg a') hlen (ht k p r x y _ hk hp hr (X.gg.trans eg) cg (dp_mono eg pd) (dp_mono eg rd))
        (fun z ez => he k p r x y z _ hk hp hr (X.gg.trans eg) cg (dp_mono eg pd) (dp_mono eg rd) ez) fun G4 H4 us X4 g4 h4 a4 => ⟨G4, us, X4, g4, h4, ?_⟩
      rw [range_oneN]
      exact a4
    · rintro H' ⟨G', zs, X', g', h', a'⟩
      exact q D zs G' H' (X.trans X') (X.old nb hD) g' nb h' a'
/-- for a, b in pairs -/
theorem sq_forP {i j : Nat} {Pv : Nat → L2.St → Hp → Hp → Prop} (h : EvP K B wi σ G n as bs) (e : Ok K B G H) (h0 : ∀ G2 H2, Ext K B G H G2 H2 → Pv 0 σ G2 H2) (hm : ∀ k σ' G1 H1 G2 H2, Pv k σ' G1 H1 → Ext K B G1 H1 G2 H2 → Pv k σ' G2 H2)
    (hs : ∀ G1 H1, Ext K B G H G1 H1 → ∀ (k : Nat) x y v w σ' G' H', k < n → as k = some x → bs k = some y → Ext K B G1 H1 G' H' → Pv k σ' G' H' → Dp K G' v x → Dp K G' w y →
      t (lpE D u fun σ2 H2 => ∃ G2, Ext K B G1 H1 G2 H2 ∧ Pv (k + 1) σ2 G2 H2) ((σ'.set i (some v)).set j (some w)) H')
    (hd : ∀ σ' G' H', Ext K B G H G' H' → Pv n σ' G' H' → u D σ' H') : tSeq (tFor wi (gTup K 2 (gCons (gName i) (gCons (gName j) gNil))) t) u D σ H :=
  h H e _ fun J xs ys G1 H1 X wk dx dy => by
    refine for_it wk (fun k σ' H' => ∃ G', Ext K B G1 H1 G' H' ∧ Pv k σ' G' H') ⟨G1, Ext.refl X.ok, h0 G1 H1 X⟩ ?_ ?_ ?_
    · rintro k σ' H' _ ⟨G', X', _⟩
      exact X'.gg.trans X'.ok.e
    · rintro k v σ' H' H2 hk ⟨G', X', p⟩ ⟨T, x, y, rfl, hT, rfl, ex, ey⟩
      obtain ⟨p1, hp, pd⟩ := dx k x hk ex
      obtain ⟨r1, hr, rd⟩ := dy k y hk ey
      have XT := Ext.new (o := .tup [x, y]) X'.ok hT
      have eg := X'.gg.trans XT.gg
      exact ⟨T, [x, y], rfl, SqT.of upd_same, rfl, x, [y], rfl, y, [], rfl, rfl, hs G1 H1 X k p1 r1 x y σ' _ _ hk hp hr (X'.trans XT) (hm _ _ _ _ _ _ p XT) (dp_mono eg pd) (dp_mono eg rd)⟩
    · rintro σ' H' ⟨G', X', p⟩
      exact hd σ' G' H' (X.trans X') p
end
end Lw

namespace Lw
open PySem.Spec PySem L2 PyProof.Rows
open Evl (Ex Ex.refl Ex.trans Ex.new Ex.off ex_rd ex_l ex_t)
section
variable {K : Fg} {B : Bg} {G G' H : Hp} {σ : L2.St} {te ta tb : TE} {tr : TA} {tt : TT} {d : PyData} {ds es : List PyData} {D : Ends} {t u : TS} {b : Bool}
/-- t + u, tuples, empty ones too -/
theorem rd_catA (hl : ds.length + es.length ≤ 100000) : RvD K B (rCatA K) G (.tuple ds) (.tuple es) (.tuple (ds ++ es)) := fun u v G2 H2 _ e du dv Q q => by
  obtain ⟨a, xs, rfl, hs, hx⟩ := dp_tup du
  obtain ⟨a', ys, rfl, hs', hy⟩ := dp_tup dv
  refine ⟨a, a', xs, ys, rfl, rfl, ex_t e.e hs, ex_t e.e hs', ?_, fun z => ?_, fun _ z => ?_, fun _ _ p hp => ?_⟩
  · rw [dpAll_len hx, dpAll_len hy]
    exact sz hl
  · subst z
    cases hx
    exact q.here e (.tup hs' hy)
  · subst z
    cases hy
    rw [List.append_nil] at q
    exact q.here e (.tup hs hx)
  · exact q _ _ _ (Ext.new e hp) (.tup (SqT.of upd_same) (dpAll_mono (Ex.new (e.e.off hp)) (dpAll_app hx hy)))
theorem cutD_all {lo hi : Option Int} (h1 : HT.sIx ds.length 0 lo = 0) (h2 : HT.sIx ds.length ds.length hi = ds.length) : cutD ds lo hi = ds := by
  unfold cutD
  rw [h1, h2, List.drop_zero, Nat.sub_zero, List.take_length]
/-- t[lo:hi], a tuple, the whole of it too -/
theorem ed_slA {tl th : TO} {lo hi : Option Int} (h : EvD K B te σ G (.tuple ds)) (h1 : EvO K B tl σ G lo) (h2 : EvO K B th σ G hi) :
    EvD K B (tSl (rSlA K) te tl th) σ G (.tuple (cutD ds lo hi)) := fun H e Q q =>
  h H e _ fun v G2 H2 X dv => h1.mono X.gg e.c H2 X.ok _ fun G3 H3 X3 => h2.mono (X.gg.trans X3.gg) e.c H3 X3.ok _ fun G4 H4 X4 => by
    obtain ⟨a, xs, rfl, hs, hx⟩ := dp_tup (dp_mono (X3.gg.trans X4.gg) dv)
    have Y := X.trans (X3.trans X4)
    refine ⟨a, xs, rfl, ex_t X4.ok.e hs, fun z => ?_, fun _ p hp => q _ _ _ (Y.trans (Ext.new Y.ok hp)) (.tup (SqT.of upd_same) (dpAll_mono (Ex.new (Y.ok.e.off hp)) (dpAll_cut hx)))⟩
    rw [dpAll_len hx] at z
    rw [cutD_all z.1 z.2] at q
    exact q _ _ _ Y (.tup hs hx)
theorem dp_encV {v : V} {l : List Int} (h : Dp K G v (encT l)) : ∃ a, v = .ref a ∧ SqT K G a (l.map V.int) := by
  obtain ⟨a, xs, rfl, hs, hx⟩ := dp_tup h
  exact ⟨a, rfl, dpAll_intsV hx ▸ hs⟩
/-- tuples of numbers, by < -/
theorem rd_ltT {x y : List Int} : RvD K B (rLtT K) G (encT x) (encT y) (.bool (HT.lexLt x y)) := fun u v G2 H2 _ e du dv Q q => by
  obtain ⟨a, rfl, sa⟩ := dp_encV du
  obtain ⟨c, rfl, sc⟩ := dp_encV dv
  exact ⟨a, c, x, y, rfl, rfl, ex_t e.e sa, ex_t e.e sc, q.here e (.bl _)⟩
theorem rd_inTN {ls : List (List Int)} : RvD K B (rInTD K) G .none (.tuple (ls.map encT)) (.bool false) := fun u v G2 H2 _ e du dv Q q =>
  ⟨.none, ls.map encT, dp_mono e.e du, dp_mono e.e dv, shp_none, shp_encsT ls, by rw [any_non]; exact q.here e (.bl _)⟩
/-- for x in xs, a tuple -/
theorem sq_forT {i : Nat} {Pv : Nat → L2.St → Hp → Hp → Prop} (h : EvD K B te σ G (.tuple ds)) (e : Ok K B G H) (h0 : ∀ G2 H2, Ext K B G H G2 H2 → Pv 0 σ G2 H2)
    (hs : ∀ G1 H1, Ext K B G H G1 H1 → ∀ (j : Nat) d v σ' G' H', ds[j]? = some d → Ext K B G1 H1 G' H' → Pv j σ' G' H' → Dp K G' v d →
      t (lpE D u fun σ2 H2 => ∃ G2, Ext K B G1 H1 G2 H2 ∧ Pv (j + 1) σ2 G2 H2) (σ'.set i (some v)) H')
    (hd : ∀ σ' G' H', Ext K B G H G' H' → Pv ds.length σ' G' H' → u D σ' H') : tSeq (tFor (iTup K te) (gName i) t) u D σ H :=
  h H e _ fun v G1 H1 X dv => by
    obtain ⟨a, xs, rfl, hl, hx⟩ := dp_tup dv
    refine ⟨a, rfl, ⟨xs, ex_t X.ok.e hl⟩, for_tup (K := K) (a := a) (xs := xs) (fun j σ' H' => ∃ G', Ext K B G1 H1 G' H' ∧ Pv j σ' G' H') ⟨G1, Ext.refl X.ok, h0 G1 H1 X⟩ ?_ ?_ ?_⟩
    · rintro j σ' H' _ ⟨G', X', _⟩
      exact ex_t (X'.gg.trans X'.ok.e) hl
    · rintro j y σ' H' hj ⟨G', X', p⟩
      obtain ⟨d, hd', dy⟩ := dpAll_at hx hj
      exact hs G1 H1 X j d y σ' G' H' hd' X' p (dp_mono X'.gg dy)
    · rintro σ' H' ⟨G', X', p⟩
      rw [dpAll_len hx] at p
      exact hd σ' G' H' (X.trans X') p
/-- an if whose two ways meet again in Iv -/
theorem sq_ifJ {w : TS} (Iv : L2.St → Hp → Prop) (k : ∀ σ' H', Iv σ' H' → w D σ' H') (h : EvB K B tt σ G b) (e : Ok K B G H)
    (k1 : (∀ σ' H', Iv σ' H' → ({ D with nx := w D } : Ends).nx σ' H') → b = true → ∀ G2 H2, Ext K B G H G2 H2 → t { D with nx := w D } σ H2) (k2 : b = false → ∀ G2 H2, Ext K B G H G2 H2 → Iv σ H2) : tSeq (tIfS tt t tNext) w D σ H :=
  sq_ifN h e (k1 k) fun c G2 H2 X => k _ _ (k2 c G2 H2 X)
/-- what is drawn, within what reads it first -/
theorem es_in {C : TE → TE} {S S2 : PyData → Prop} (hC : ∀ H Q, (ta σ H fun v H1 => C (tC v) σ H1 Q) → C ta σ H Q) (ha : EvS K B ta σ G S) (h : ∀ d v G1, S d → Ex G G1 → Cel K B G1 → Dp K G1 v d → ∃ z, S2 z ∧ EvD K B (C (tC v)) σ G1 z) : EvS K B (C ta) σ G S2 := fun H e Q q =>
  hC H Q (ha H e _ fun d v G1 H1 s X dv => by
    obtain ⟨z, hz, hv⟩ := h d v G1 s X.gg X.ok.c dv
    exact hv H1 X.ok Q fun y G2 H2 X2 dy => q z y G2 H2 hz (X.trans X2) dy)
/-- a list and one drawn item behind it -/
theorem es_catL1 {S : PyData → Prop} (ha : EvF K B ta σ G ds) (hb : EvS K B te σ G S) (hl : ds.length + 1 ≤ 100000) : EvS K B (tOp rCat ta (tLst (tCons te tNil))) σ G (fun d => ∃ x, S x ∧ d = .list (ds ++ [x])) := fun H e Q q =>
  ha H e _ fun p xs G1 H1 X1 hp g1 nb h1 a1 => hb.mono X1.gg e.c H1 X1.ok _ fun d v G2 H2 s X2 dv => by
    refine ⟨Nat.le_of_ble_eq_true rfl, fun o ho => ?_⟩
    have h2 := X2.hh p _ nb h1
    have ne : p ≠ o := ne_of_none h2 ho
    refine ⟨p, o, xs, [v], rfl, rfl, by rw [upd_ne ne]; exact h2, upd_same, ?_, fun r hr => ?_⟩
    · rw [dpAll_len a1]
      exact sz hl
    · have X3 := (X1.trans X2).trans (Ext.loose (o := .lst [v]) X2.ok ho)
      have X4 := X3.trans (Ext.new (o := .lst (xs ++ [v])) X3.ok hr)
      exact q _ _ _ _ ⟨d, s, rfl⟩ X4 (.lst (SqL.of upd_same) (dpAll_mono (Ex.new (X3.ok.e.off hr)) (dpAll_app (dpAll_mono X2.gg a1) (.cons dv .nil))))
theorem eqvT_nil (ls : List (List Int)) : PyData.eqv (.tuple (ls.map encT)) (.tuple []) = decide (ls = []) := by
  cases ls with
  | nil => simp [PyData.eqv, PyData.eqvAll]
  | cons l ls => simp [PyData.eqv, PyData.eqvAll]
end
end Lw

namespace Lw
open PySem.Spec PySem L2 PyProof.Rows
open Evl (Ex Ex.refl Ex.trans Ex.new Ex.off ex_rd ex_l ex_t)
/-! dicts whose keys are tuples of numbers -/
abbrev tkd (P : Program) (w : World) : HeapKind P w (List Key) := tupleKind (mixKind P w)
abbrev Ent := List Int × Addr × V
def DRel : List Ent → List (List Key × Addr × Value) → Prop := Paired fun l x => x.1 = l.1.map Sum.inl ∧ x.2.1 = l.2.1 ∧ RelV l.2.2 x.2.2
def DGok (P : Program) (w : World) (h : Heap) (d : Addr) (L : List Ent) : Prop := (d == sysModules) = false ∧
  ∃ xs o es ep, h.get? d = some o ∧ o.ExactDict ∧ o.data = .dict es ep ∧ es.toList = xs.map (entryOfKey (tkd P w)) ∧ DRel L xs ∧ (xs.map (·.1)).Nodup
def DGO (P : Program) (w : World) (d : Addr) (L : List Ent) : HO := .ext fun h => DGok P w h d L
theorem dg_new {P : Program} {w : World} {H : Hp} {h : Heap} {d : Addr} {L : List Ent} (R : DGok P w h d L) : ObjOk P w H h d (DGO P w d L) := by
  refine ⟨R, ?_, fun h1 h2 z k => ?_⟩
  · obtain ⟨_, xs, o, es, ep, g, _⟩ := R
    exact ⟨o, g⟩
  · obtain ⟨s, xs, o, es, ep, g, r⟩ := z
    exact ⟨s, xs, o, es, ep, k o g, r⟩
def keysOf (K : Fg) (H : Hp) (L : List Ent) : Prop := ∀ p ∈ L, SqT K H p.2.1 (p.1.map V.int)
theorem keys_mono {K : Fg} {H H' : Hp} {L : List Ent} (e : Ex H H') (k : keysOf K H L) : keysOf K H' L := fun p hp => ex_t e (k p hp)
section
variable {X : Cx} {pins : List (Addr × Obj)} {s : Shared} {σ : L2.St} {H : Hp}
theorem key_sq {b : Addr} {ns : List Int} (I : Inv X pins σ H s) (h : SqT X.K H b (ns.map V.int)) : (tkd X.prog X.w).is s.heap (ns.map Sum.inl) b := by
  obtain ⟨its, rv, ⟨o, g1, g2, n, g3⟩, _⟩ := I.tuple h
  have e1 : ((ns.map Sum.inl : List Key).map kV) = ns.map V.int := by
    rw [List.map_map]
    rfl
  rw [← e1] at rv
  exact ⟨o, its.toArray, n, g1, g2, g3, by simpa using items_are rv⟩
theorem dict_sq {d : Addr} {L : List Ent} (I : Inv X pins σ H s) (h : H d = some (DGO X.prog X.w d L)) (k : keysOf X.K H L) :
    (d == sysModules) = false ∧ ∃ xs, DRel L xs ∧ s.heap.DictOfH (tkd X.prog X.w) d xs := by
  obtain ⟨⟨y, xs, o, es, ep, g, g2, g3, g4, r, nd⟩, rest⟩ := (show ObjOk X.prog X.w H s.heap d (DGO X.prog X.w d L) from I.hok d _ h)
  refine ⟨y, xs, r, o, es, ep, g, g2, g3, g4, ?_, nd⟩
  clear g4 nd g h rest
  induction r with
  | nil => exact fun x hx => nomatch hx
  | @cons p q ps qs hq t ih =>
    intro x hx
    cases hx with
    | head =>
      rw [hq.1, hq.2.1]
      exact key_sq I (k p List.mem_cons_self)
    | tail _ hx => exact ih (fun z hz => k z (List.mem_cons_of_mem _ hz)) x hx
theorem inl_inj {a b : List Int} (h : (a.map Sum.inl : List Key) = b.map Sum.inl) : a = b := by
  induction a generalizing b with
  | nil =>
    cases b with
    | nil => rfl
    | cons _ _ => cases h
  | cons x a ih =>
    cases b with
    | nil => cases h
    | cons y b =>
      injection h with h1 h2
      rw [Sum.inl.inj h1, ih h2]
def valG (L : List Ent) (k : List Int) : Option V := (L.find? fun p => decide (p.1 = k)).map (·.2.2)
theorem rel_find {L : List Ent} {xs : List (List Key × Addr × Value)} (r : DRel L xs) (k : List Int) : RelO (valG L k) ((atKey xs (k.map Sum.inl)).map (·.2)) := by
  unfold valG atKey
  induction r with
  | nil => exact True.intro
  | @cons p q ps qs hq t ih =>
    rw [List.find?_cons, List.find?_cons]
    by_cases c : p.1 = k
    · rw [decide_eq_true c, decide_eq_true (by rw [hq.1, c])]
      exact hq.2.2
    · rw [decide_eq_false c, decide_eq_false (fun z => c (inl_inj (by rw [← hq.1, z])))]
      exact ih
theorem valG_mem {L : List Ent} {k : List Int} : (valG L k).isSome = decide (k ∈ L.map (·.1)) := by
  unfold valG
  rw [Option.isSome_map, Bool.eq_iff_iff, List.find?_isSome, decide_eq_true_eq, List.mem_map]
  refine ⟨fun ⟨p, hp, z⟩ => ⟨p, hp, of_decide_eq_true z⟩, fun ⟨p, hp, z⟩ => ⟨p, hp, decide_eq_true z⟩⟩
theorem rel_some {L : List Ent} {xs : List (List Key × Addr × Value)} (r : DRel L xs) (k : List Int) : (atKey xs (k.map Sum.inl)).isSome = decide (k ∈ L.map (·.1)) := by
  have z := (rel_find r k).isSome_eq
  rw [Option.isSome_map] at z
  rw [← z, valG_mem]
def putG (L : List Ent) (k : List Int) (b : Addr) (z : V) : List Ent := if k ∈ L.map (·.1) then L.map fun p => if p.1 = k then (p.1, p.2.1, z) else p else L ++ [(k, b, z)]
theorem putG_len (L : List Ent) (k : List Int) (b : Addr) (z : V) : (putG L k b z).length ≤ L.length + 1 := by
  unfold putG
  split
  · rw [List.length_map]
    exact Nat.le_succ _
  · rw [List.length_append]
    exact Nat.le_refl _
theorem putG_keys (L : List Ent) (k : List Int) (b : Addr) (z : V) (m : List Int) : m ∈ (putG L k b z).map (·.1) ↔ m ∈ L.map (·.1) ∨ m = k := by
  unfold putG
  have e1 : (L.map fun p => if p.1 = k then (p.1, p.2.1, z) else p).map (·.1) = L.map (·.1) := by
    rw [List.map_map]
    apply List.map_congr_left
    intro p _
    show (if p.1 = k then (p.1, p.2.1, z) else p).1 = p.1
    split <;> rfl
  split
  · rename_i c
    rw [e1]
    exact ⟨.inl, fun h => h.elim id fun e => e ▸ c⟩
  · rw [List.map_append, List.mem_append, List.map_cons, List.map_nil, List.mem_singleton]
theorem putG_sq {K : Fg} {H : Hp} {L : List Ent} {k : List Int} {b : Addr} {z : V} (h : keysOf K H L) (hb : SqT K H b (k.map V.int)) : keysOf K H (putG L k b z) := fun p hp => by
  unfold putG at hp
  split at hp
  · obtain ⟨q, hq, rfl⟩ := List.mem_map.mp hp
    split
    · exact h q hq
    · exact h q hq
  · refine (List.mem_append.mp hp).elim (h p) fun one => ?_
    obtain rfl := List.mem_singleton.mp one
    exact hb
theorem paired_map {α β : Type} {F : α → β → Prop} {f : α → α} {g : β → β} {l : List α} {m : List β} (p : Paired F l m) (h : ∀ a b, F a b → F (f a) (g b)) : Paired F (l.map f) (m.map g) := by
  induction p with
  | nil => exact .nil
  | cons q t ih => exact .cons (h _ _ q) ih
theorem paired_app {α β : Type} {F : α → β → Prop} {l : List α} {m : List β} {a : α} {b : β} (p : Paired F l m) (h : F a b) : Paired F (l ++ [a]) (m ++ [b]) := by
  induction p with
  | nil => exact .cons h .nil
  | cons q t ih => exact .cons q ih
theorem paired_len {α β : Type} {F : α → β → Prop} {l : List α} {m : List β} (p : Paired F l m) : l.length = m.length := by
  induction p with
  | nil => rfl
  | cons _ _ ih => exact congrArg (· + 1) ih
theorem rel_put {L : List Ent} {xs : List (List Key × Addr × Value)} (r : DRel L xs) {k : List Int} {b : Addr} {z : V} {u : Value} (rz : RelV z u) : DRel (putG L k b z) (storedH xs (k.map Sum.inl) b u) := by
  have e := rel_some r k
  unfold putG storedH
  by_cases c : k ∈ L.map (·.1)
  · rw [if_pos c, e, decide_eq_true c, if_pos rfl]
    refine paired_map r fun p q h => ?_
    unfold putAt
    by_cases d : p.1 = k
    · rw [if_pos d, if_pos (by rw [h.1, d])]
      exact ⟨h.1, h.2.1, rz⟩
    · rw [if_neg d, if_neg (fun y => d (inl_inj (by rw [← h.1, y])))]
      exact h
  · rw [if_neg c, e, decide_eq_false c, if_neg Bool.false_ne_true]
    exact paired_app r ⟨rfl, rfl, rz⟩
/-- k in d, k not in d -/
def rInK (K : Fg) (P : Program) (w : World) (neg : Bool) : R2 := fun x y H Q => ∃ (a b : Addr) (L : List Ent) (ns : List Int), x = .ref b ∧ y = .ref a ∧ SqT K H b (ns.map V.int) ∧ H a = some (DGO P w a L) ∧ keysOf K H L ∧
  Q (.bl (neg ^^ decide (ns ∈ L.map (·.1)))) H
theorem op_inK (hu : X.A.units + 65 < cLine) : OpR X (compareOp .In) (rInK X.K X.prog X.w false) := by
  rintro pins s σ H _ _ v u Q I rx ry ⟨a, b, L, ns, rfl, rfl, hb, ha, hk, q⟩
  cases rx
  cases ry
  obtain ⟨y, xs, r, dd⟩ := dict_sq I ha hk
  refine wpAny_in_heap (tupleKind_room_in1 (by omega)) (key_sq I hb) y dd ⟨_, H, I.tok _, ?_, q⟩
  show _ = _
  rw [rel_some r ns, Bool.false_xor]
theorem op_notInK (hu : X.A.units + 65 < cLine) : OpR X (compareOp .NotIn) (rInK X.K X.prog X.w true) := by
  rintro pins s σ H _ _ v u Q I rx ry ⟨a, b, L, ns, rfl, rfl, hb, ha, hk, q⟩
  cases rx
  cases ry
  obtain ⟨y, xs, r, dd⟩ := dict_sq I ha hk
  refine wpAny_notIn_heap (tupleKind_room_in1 (by omega)) (key_sq I hb) y dd ⟨_, H, I.tok _, ?_, q⟩
  show _ = _
  rw [rel_some r ns, Bool.true_xor]
/-- d[k] = z, within a comprehension -/
theorem set_sq {d b : Addr} {L : List Ent} {ns : List Int} {z : V} {u : Value} {Q : Unit → Shared → Prop} {E : Value → Shared → Prop} (hu : X.A.units < cLine) (I : Inv X pins σ H s) (h : H d = some (DGO X.prog X.w d L)) (k : keysOf X.K H L) (hl : L.length < sizeLine)
    (hb : SqT X.K H b (ns.map V.int)) (rz : RelV z u) (q : ∀ s', Inv X pins σ (upd H d (DGO X.prog X.w d (putG L ns b z))) s' → Q () s') : wpAny (model X.prog X.w) X.A (dictSet d (.ref b) u) Q E s := by
  obtain ⟨y, xs, r, dd⟩ := dict_sq I h k
  refine wpAny_dictSet_heap (knd := tkd X.prog X.w) hu (key_sq I hb) dd (fun h' dd' sb => q _ ?_) (hsz := by rw [← paired_len r]; exact Nat.le_of_lt hl)
  obtain ⟨o, es, ep, g1, g2, g3, g4, g5, g6⟩ := dd'
  exact d_write I (by rw [h]; exact True.intro) sb ⟨o, g1⟩ (dg_new ⟨y, _, o, es, ep, g1, g2, g3, g4, rel_put r rz, g6⟩)
end
/-- {k: v for x in xs if t}, the keys tuples of numbers -/
def tDcG (K : Fg) (P : Program) (w : World) (wi : TI) (g : TG) (tt : TT) (tk tv : TE) (vs : List Nat) : TE := fun σ H Q => wi σ H fun J H1 => ∀ D, H1 D = none → ∃ W : Nat → Nat → Hp → Prop, (∃ m, W 0 m (upd H1 D (DGO P w D []))) ∧
  ∀ i m H, W i m H → (J.stop i H ∧ Q (.ref D) H) ∨ (J.go i H ∧ ∃ Nx : Hp → Prop, (∀ H', Nx H' → ∃ m', m' < m ∧ W (i + 1) m' H') ∧ ∀ x H', J.yld i H x H' → g x (wipe σ vs) H' fun σ2 H2 =>
    wipe σ2 vs = wipe σ vs ∧ tt σ2 H2 fun b H3 => if b = true then tk σ2 H3 fun y H4 => tv σ2 H4 fun z H5 => ∃ (L : List Ent) (ns : List Int) (b : Addr), y = .ref b ∧ SqT K H5 b (ns.map V.int) ∧ H5 D = some (DGO P w D L) ∧ keysOf K H5 L ∧ L.length < sizeLine ∧ Nx (upd H5 D (DGO P w D (putG L ns b z))) else Nx H3)
section
variable {X : Cx}
theorem dg_nil {P : Program} {w : World} {H : Hp} (h : Heap) (big : sysModules < h.objs.size) : ObjOk P w H (h.push { cls := .type "dict", data := .dict #[] }) h.objs.size (DGO P w h.objs.size []) :=
  dg_new ⟨beq_eq_false_iff_ne.mpr fun z => Nat.lt_irrefl _ (z ▸ big), [], _, #[], 0, Heap.get?_push_size _ rfl, ⟨rfl, rfl, rfl⟩, rfl, rfl, .nil, List.nodup_nil⟩
/-- a rule's premise over the block of a comprehension -/
abbrev InBlk (X : Cx) (scope : Scope) (R : Cx → Prop) : Prop := ∀ (s : Shared) (H : Hp) (C : Addr) (cl : List (Str × Addr)) (fp : List Addr), R (X.blk s H scope (compEnvC scope cl C X.env) fp)
abbrev newD : Obj := { cls := .type "dict", data := .dict #[] }
/-- the walk over the items, within the block Y of the context X -/
theorem dg_walk {kx vx tg iter : Expr} {ifs : List Expr} {scope : Scope} {pos : Pos} {g : TG} {tt : TT} {tk tv : TE} {J : It} {fp : List Addr} {it D : Addr} {tn : Nat → Heap → Prop} {ce : Env} {own : List Nat} {W : Nat → Nat → Hp → Prop}
    {sB : Shared} {HB : Hp} {σ : L2.St} {R : Result → Shared → Prop} {Fin' : Hp → Prop} (hu : X.A.units < cLine) (hc : X.calm = true) (Tn : Turn X.prog X.w X.K tg J fp it tn)
    (pg : PG (X.blk sB HB scope ce fp) tg g) (pt : PTs (X.blk sB HB scope ce fp) ifs tt) (pk : PE (X.blk sB HB scope ce fp) kx tk) (pv : PE (X.blk sB HB scope ce fp) vx tv)
    (turn : ∀ i m H, W i m H → (J.stop i H ∧ Fin' H) ∨ (J.go i H ∧ ∃ Nx : Hp → Prop, (∀ H', Nx H' → ∃ m', m' < m ∧ W (i + 1) m' H') ∧ ∀ x H', J.yld i H x H' → g x (wipe σ own) H' fun σ2 H2 =>
      wipe σ2 own = wipe σ own ∧ tt σ2 H2 fun b H3 => if b = true then tk σ2 H3 fun y H4 => tv σ2 H4 fun z H5 => ∃ (L : List Ent) (ns : List Int) (b : Addr), y = .ref b ∧ SqT X.K H5 b (ns.map V.int) ∧ H5 D = some (DGO X.prog X.w D L) ∧ keysOf X.K H5 L ∧ L.length < sizeLine ∧ Nx (upd H5 D (DGO X.prog X.w D (putG L ns b z))) else Nx H3))
    (out : ∀ sE HE, Inv (X.blk sB HB scope ce fp) [] (wipe σ own) HE sE → Fin' HE → R (.ok .next) sE)
    {n : Nat} {s : Shared} (i0 : ∃ i H', Inv (X.blk sB HB scope ce fp) [] (wipe σ own) H' s ∧ tn i s.heap ∧ (∀ b ∈ fp, H' b = none) ∧ W i n H') :
    codeAny (model X.prog X.w) X.A (.compLoop (.DictComp kx vx [⟨tg, iter, ifs, 0⟩] scope pos) 0 (.ref it) (.ref D) ce) R s := by
  have mine : ∀ {σ' : L2.St} {H' : Hp} {s' : Shared}, Inv (X.blk sB HB scope ce fp) [] σ' H' s' → (∀ b ∈ fp, H' b = none) → ∀ b ∈ fp, FpOk (X.blk sB HB scope ce fp) [] H' b := fun I' free b hb => by
    obtain ⟨x1, x2⟩ := I'.ok.exf b hb
    exact ⟨free b hb, x1, I'.ok.exfs b hb, .inl hb, x2, fun p hp => by cases (show p ∈ ([] : List (Addr × Obj)) ++ [] from hp)⟩
  refine compLoop_anyD (fun m t => ∃ i H', Inv (X.blk sB HB scope ce fp) [] (wipe σ own) H' t ∧ tn i t.heap ∧ (∀ b ∈ fp, H' b = none) ∧ W i m H') (fun m t inv => ?_) n i0
  obtain ⟨i, Ht, It, at_, free, wt⟩ := inv
  rcases turn i m Ht wt with ⟨stop, fin⟩ | ⟨go, Nx, less, step⟩
  · refine thnF (Tn.done (X.blk sB HB scope ce fp) rfl rfl rfl hc i [] t _ Ht (fun _ _ => False) It (mine It free) at_ stop) fun r t2 z => ?_
    obtain ⟨rfl, I2⟩ := z
    exact out t2 Ht I2 fin
  · refine thnF (Tn.item (X.blk sB HB scope ce fp) rfl rfl rfl hc i [] t _ Ht (fun _ _ => False) It (mine It free) at_ go) fun r t2 z => ?_
    obtain ⟨u, rfl, z⟩ := z
    refine thnF z fun _ t3 z => ?_
    obtain ⟨x, H3, I3, rx, yx, at3, free3⟩ := z
    have P3 := I3.pinned (mine I3 free3) (Tn.obj _ _ at3)
    -- back at the head of the walk, one turn less
    have again : ∀ {σ' : L2.St} {t' : Shared} {H' : Hp}, wipe σ' own = wipe σ own → Inv (X.blk sB HB scope ce fp) ([] ++ pinsAt fp t3.heap) σ' H' t' → Nx H' →
        ∃ k, k < m ∧ ∃ i H', Inv (X.blk sB HB scope ce fp) [] (wipe σ own) H' t' ∧ tn i t'.heap ∧ (∀ b ∈ fp, H' b = none) ∧ W i k H' := fun {σ' t' H'} ew I' nx => by
      obtain ⟨k, lt, wk⟩ := less H' nx
      have held : ∀ b ∈ fp, ∀ o, t3.heap.get? b = some o → t'.heap.get? b = some o ∧ H' b = none := fun b hb o e => by
        have z := I'.pin (b, o) (List.mem_append_right _ (List.mem_append_right _ (mem_pinsAt hb e)))
        exact ⟨z.1, z.2.1⟩
      have J' := (I'.unpinned (pins := [])).weak (σ' := wipe σ own) (by rw [← ew, wipe_length]) fun j v e => by
        rw [← ew] at e
        exact (wipe_some e).1
      refine ⟨k, lt, i + 1, H', J', Tn.keep _ _ _ at3 fun b hb o e => (held b hb o e).1, fun b hb => ?_, wk⟩
      have ob := Tn.obj _ _ at3 b hb
      exact (held b hb _ ob.choose_spec.1).2
    refine thnF (pg.run _ t3 _ H3 x u _ P3 rx (step x H3 yx)) fun _ t4 z => ?_
    obtain ⟨σ4, H4, I4, ew, z⟩ := z
    refine thnF (pt.run _ t4 σ4 H4 _ I4 z) fun yes t5 z => ?_
    obtain ⟨H5, I5, z⟩ := z
    cases yes with
    | false => exact again ew I5 z
    | true =>
      refine thnF (pk.run _ t5 σ4 H5 _ I5 z) fun kv t6 z => ?_
      obtain ⟨yk, H6, I6, rk, z⟩ := z
      refine thnF (pv.run _ t6 σ4 H6 _ I6 z) fun vv t7 z => ?_
      obtain ⟨yv, H7, I7, rv, L, ns, b, rfl, hb, hD, keys, few, nx⟩ := z
      cases rk
      exact set_sq (X := X.blk sB HB scope ce fp) hu I7 hD keys few hb rv fun t8 I8 => again ew I8 nx
theorem pe_dcG {kx vx tg iter : Expr} {ifs : List Expr} {scope : Scope} {own : List (Str × Nat)} {pos : Pos} {wi : TI} {g : TG} {tt : TT} {tk tv : TE} (hu : X.A.units < cLine) (hc : X.calm = true) (hN : X.N.Nodup) (hi : PI X tg iter wi) (ok : BlkOk X.N X.env.scope scope own)
    (hg : InBlk X scope fun Y => PG Y tg g) (ht : InBlk X scope fun Y => PTs Y ifs tt) (hk : InBlk X scope fun Y => PE Y kx tk) (hv : InBlk X scope fun Y => PE Y vx tv)
    (hs : ∀ x, foldedSetIterable iter X.env x = pure x := by intro _; rfl) : PE X (.DictComp kx vx [⟨tg, iter, ifs, 0⟩] scope pos) (tDcG X.K X.prog X.w wi g tt tk tv (own.map (·.2))) := by
  constructor
  intro pins s σ H Q I h
  rw [arm_eval_DictComp]
  have fr : ∀ y ∈ scope.names, y.2 = .free → ∃ c, X.env.cells.lookup y.1 = some c := fun y hy e => (ok.free y hy e).elim (fun k => I.ok.has _ (.inl k)) fun k => I.ok.has _ (.inr k)
  refine wpAny_comprehension_free (use := none) rfl hs (closure_ok fr) ok.kind (fun y hy e => by rw [ok.uniq y hy, e]) (thn (hi.run pins s σ H _ I h) fun xv s1 hx => thn hx ?_)
  rintro itv s2 ⟨it, fp, tn, J, H2, rfl, I2, Tn, at2, f2, q⟩
  -- the new dict stands behind all objects
  have Dn : H2 s2.heap.objs.size = none := I2.hok.fresh (Nat.le_refl _)
  obtain ⟨W, ⟨m0, w0⟩, turn⟩ := q s2.heap.objs.size Dn
  have grow : ∀ b o, s2.heap.get? b = some o → (s2.heap.push newD).get? b = some o := fun b o => Heap.get?_push_of_some _
  have I3 : Inv X pins σ (upd H2 s2.heap.objs.size (DGO X.prog X.w s2.heap.objs.size [])) { s2 with heap := s2.heap.push newD } := I2.laid (t' := s2.toks) grow (Nat.le_refl _) (dg_nil s2.heap I2.big)
  have f3 : ∀ b ∈ fp, FpOk X pins (upd H2 s2.heap.objs.size (DGO X.prog X.w s2.heap.objs.size [])) b ∧ b < (s2.heap.push newD).objs.size := fun b hb => by
    have lt := Heap.lt_size (Tn.obj _ _ at2 b hb).choose_spec.1
    obtain ⟨z1, z2⟩ := f2 b hb
    refine ⟨⟨?_, z2⟩, by rw [Heap.size_push]; exact Nat.lt_succ_of_lt lt⟩
    rw [upd_ne (Nat.ne_of_lt lt)]
    exact z1
  have at3 : tn 0 (s2.heap.push newD) := Tn.keep _ _ _ at2 fun b _ => grow b
  have I4 := block_start (X := X) (pins := pins) I3 ok hN f3
  have z1 := hg { s2 with heap := s2.heap.push newD } (upd H2 s2.heap.objs.size (DGO X.prog X.w s2.heap.objs.size [])) (s2.heap.push newD).objs.size (cellsFrom ((s2.heap.push newD).objs.size + 1) scope.names (cloFrom X.env.cells scope.names [])) fp
  have z2 := ht { s2 with heap := s2.heap.push newD } (upd H2 s2.heap.objs.size (DGO X.prog X.w s2.heap.objs.size [])) (s2.heap.push newD).objs.size (cellsFrom ((s2.heap.push newD).objs.size + 1) scope.names (cloFrom X.env.cells scope.names [])) fp
  have z3 := hk { s2 with heap := s2.heap.push newD } (upd H2 s2.heap.objs.size (DGO X.prog X.w s2.heap.objs.size [])) (s2.heap.push newD).objs.size (cellsFrom ((s2.heap.push newD).objs.size + 1) scope.names (cloFrom X.env.cells scope.names [])) fp
  have z4 := hv { s2 with heap := s2.heap.push newD } (upd H2 s2.heap.objs.size (DGO X.prog X.w s2.heap.objs.size [])) (s2.heap.push newD).objs.size (cellsFrom ((s2.heap.push newD).objs.size + 1) scope.names (cloFrom X.env.cells scope.names [])) fp
  refine wpAny_newObj_type (newEnv_comp (show codeAny _ _ (.compStart _ 0 (.ref it) (.ref s2.heap.objs.size) (compEnvC scope (cellsFrom ((s2.heap.push newD).objs.size + 1) scope.names (cloFrom X.env.cells scope.names [])) (s2.heap.push newD).objs.size X.env)) _ _ from ?_))
  have at4 := Tn.keep 0 _ _ at3 fun b _ o e => pushCells_keeps scope.names ((s2.heap.push newD).push newD) b o (Heap.get?_push_of_some _ e)
  have walk := dg_walk (pos := pos) (iter := iter) (D := s2.heap.objs.size) (W := W) (R := compPost (model X.prog X.w) X.A X.xe none (fun v s' => EP X pins σ Q v s') (.ref s2.heap.objs.size) (s2.heap.push newD).objs.size) hu hc Tn z1 z2 z3 z4 turn (fun sE HE IE fin => ?_) ⟨0, _, I4, at4, fun b hb => (f3 b hb).1.1, w0⟩
  · exact codeAny_compStart_dict walk (Tn.self X.A 0 _ _ _ at4 walk)
  -- back in the def
  have IX : Inv X pins σ HE sE := I3.call' (ch := fp) IE.os IE.base IE.hok IE.bare fun b hb => by
    obtain ⟨_, a2, _, a4, a5, a6⟩ := (f3 b hb).1
    exact ⟨a4, a2, a5, a6⟩
  obtain ⟨m, hn, _⟩ := IE.loc
  obtain ⟨c0, c1, _, c3, c4, c5⟩ := I3.fpOk (b := (s2.heap.push newD).objs.size) (Nat.le_refl _) (show HE _ = none from IE.free)
  exact ⟨m, hn, fun h'' sb => ⟨.ref _, HE, IX.turned (t' := sE.toks) (fun b o hb e => (sb.2 b hb).trans e) c0 c1 c3 c4 c5, rfl, fin⟩⟩
end
end Lw

namespace Lw
/-! what hangs together, and its least one; filling by a pile -/
inductive Con (adj : Nat → List Nat) : Nat → Nat → Prop
  | here (i : Nat) : Con adj i i
  | more {i j k : Nat} : Con adj i j → k ∈ adj j → Con adj i k
structure Gph (N : Nat) (adj : Nat → List Nat) : Prop where
  lt : ∀ i, i < N → ∀ j ∈ adj i, j < N
  sym : ∀ i, i < N → ∀ j ∈ adj i, i ∈ adj j
section
variable {N : Nat} {adj : Nat → List Nat}
theorem Con.trans {i j k : Nat} (a : Con adj i j) (b : Con adj j k) : Con adj i k := by
  induction b with
  | here => exact a
  | more _ h ih => exact .more ih h
theorem Con.lt {i j : Nat} (g : Gph N adj) (a : Con adj i j) (hi : i < N) : j < N := by
  induction a with
  | here => exact hi
  | more _ h ih => exact g.lt _ ih _ h
theorem Con.symm {i j : Nat} (g : Gph N adj) (a : Con adj i j) (hi : i < N) : Con adj j i := by
  induction a with
  | here => exact .here _
  | more b h ih => exact Con.trans (.more (.here _) (g.sym _ (b.lt g hi) _ h)) ih
theorem least_ex (p : Nat → Prop) : ∀ n, p n → ∃ m, p m ∧ ∀ k, p k → m ≤ k := fun n => Nat.strongRecOn n fun n ih h => by
  by_cases c : ∃ k, k < n ∧ p k
  · obtain ⟨k, hk, pk⟩ := c
    exact ih k hk pk
  · exact ⟨n, h, fun k pk => Nat.le_of_not_lt fun z => c ⟨k, z, pk⟩⟩
noncomputable def labOf (adj : Nat → List Nat) (i : Nat) : Nat := Classical.choose (least_ex (Con adj i) i (.here i))
theorem labOf_con (i : Nat) : Con adj i (labOf adj i) := (Classical.choose_spec (least_ex (Con adj i) i (.here i))).1
theorem labOf_le {i j : Nat} (h : Con adj i j) : labOf adj i ≤ j := (Classical.choose_spec (least_ex (Con adj i) i (.here i))).2 j h
theorem labOf_eq {i j : Nat} (g : Gph N adj) (hi : i < N) (h : Con adj i j) : labOf adj i = labOf adj j :=
  Nat.le_antisymm (labOf_le (h.trans (labOf_con j))) (labOf_le ((h.symm g hi).trans (labOf_con i)))
theorem labOf_lt {i : Nat} (g : Gph N adj) (hi : i < N) : labOf adj i < N := (labOf_con i).lt g hi
theorem labOf_self {i : Nat} : labOf adj i ≤ i := labOf_le (.here i)
/-- another one that does as labOf -/
theorem labOf_uniq {i m : Nat} (h : Con adj i m) (l : ∀ j, Con adj i j → m ≤ j) : labOf adj i = m := Nat.le_antisymm (labOf_le h) (l _ (labOf_con i))
def below (adj : Nat → List Nat) (q i : Nat) : Int → Prop := fun z => (labOf adj i < q → z = (labOf adj i : Int)) ∧ (¬ labOf adj i < q → z = -1)
/-- all panes whose least one is below q are named -/
structure Nam (N : Nat) (adj : Nat → List Nat) (q : Nat) (F : List Int) : Prop where
  len : F.length = N
  at_ : ∀ i, i < N → ∃ z, F[i]? = some z ∧ below adj q i z
structure Fil (N : Nat) (adj : Nat → List Nat) (r : Nat) (F0 F : List Int) (ws : List Nat) (q : Nat) (dn : List Nat) : Prop where
  len : F.length = N
  ea : ∀ i, i < N → F[i]? = F0[i]? ∨ (F[i]? = some (r : Int) ∧ Con adj r i)
  wk : ∀ i ∈ ws, i < N ∧ F[i]? = some (r : Int)
  pr : ∀ i, i < N → F[i]? = some (r : Int) → i ∉ ws → ∀ j, j ∈ adj i → (i = q → j ∈ dn) → F[j]? = some (r : Int)
  rt : F[r]? = some (r : Int)
theorem Nam.root {q : Nat} {F : List Int} (n : Nam N adj q F) (hq : q < N) (h : F[q]? = some (-1)) : labOf adj q = q := by
  obtain ⟨z, e, b⟩ := n.at_ q hq
  rw [h] at e
  have e := Option.some.inj e
  have l := labOf_self (adj := adj) (i := q)
  by_cases c : labOf adj q < q
  · have := b.1 c
    omega
  · omega
theorem Nam.unset {q i : Nat} {F : List Int} (g : Gph N adj) (n : Nam N adj q F) (hq : q < N) (h : labOf adj q = q) (c : Con adj q i) : F[i]? = some (-1) := by
  have hi := c.lt g hq
  have e := labOf_eq g hq c
  obtain ⟨z, ez, b⟩ := n.at_ i hi
  rw [ez, b.2 (by omega)]
theorem get_set {F : List Int} {i j : Nat} {z : Int} (hj : j < F.length) : (F.set j z)[i]? = if i = j then some z else F[i]? := by
  rw [List.getElem?_set]
  by_cases c : j = i
  · subst c
    rw [if_pos rfl, if_pos hj, if_pos rfl]
  · rw [if_neg c, if_neg (fun e => c e.symm)]
/-- the beginning -/
theorem Fil.start {r : Nat} {F0 : List Int} (g : Gph N adj) (n : Nam N adj r F0) (hr : r < N) (h : F0[r]? = some (-1)) : Fil N adj r F0 (F0.set r (r : Int)) [r] N [] := by
  have hl : r < F0.length := by rw [n.len]; exact hr
  have root := n.root hr h
  have only : ∀ i, i < N → F0[i]? = some (r : Int) → False := fun i hi e => by
    obtain ⟨z, ez, b⟩ := n.at_ i hi
    rw [e] at ez
    have ez := Option.some.inj ez
    by_cases c : labOf adj i < r
    · have := b.1 c
      omega
    · have := b.2 c
      omega
  refine ⟨by rw [List.length_set]; exact n.len, fun i hi => ?_, fun i hi => ?_, fun i hi e ni j hj _ => ?_, ?_⟩
  · rw [get_set hl]
    by_cases c : i = r
    · rw [if_pos c]
      exact .inr ⟨rfl, c ▸ .here i⟩
    · rw [if_neg c]
      exact .inl rfl
  · rw [List.mem_singleton.mp hi, get_set hl, if_pos rfl]
    exact ⟨hr, rfl⟩
  · rw [get_set hl] at e
    by_cases c : i = r
    · exact absurd (by rw [c]; exact List.mem_singleton.mpr rfl) ni
    · rw [if_neg c] at e
      exact (only i hi e).elim
  · rw [get_set hl, if_pos rfl]
theorem Fil.con {r : Nat} {F0 F : List Int} {ws : List Nat} {q : Nat} {dn : List Nat} {i : Nat} (g : Gph N adj) (n : Nam N adj r F0) (f : Fil N adj r F0 F ws q dn) (hi : i < N) (h : F[i]? = some (r : Int)) : Con adj r i := by
  rcases f.ea i hi with e | e
  · obtain ⟨z, ez, b⟩ := n.at_ i hi
    rw [← e, h] at ez
    have ez := Option.some.inj ez
    by_cases c : labOf adj i < r
    · have := b.1 c
      omega
    · have := b.2 c
      omega
  · exact e.2
/-- one is taken off the pile -/
theorem Fil.pop {r : Nat} {F0 F : List Int} {ws : List Nat} {q : Nat} {p : Nat} (f : Fil N adj r F0 F (ws ++ [q]) p (adj p)) : Fil N adj r F0 F ws q [] := by
  refine ⟨f.len, f.ea, fun i hi => f.wk i (List.mem_append_left _ hi), fun i hi e ni j hj d => ?_, f.rt⟩
  by_cases c : i = q
  · cases d c
  · refine f.pr i hi e (fun z => ?_) j hj fun e => e ▸ hj
    rcases List.mem_append.mp z with z | z
    · exact ni z
    · exact c (List.mem_singleton.mp z)
/-- the neighbour is named already -/
theorem Fil.skip {r : Nat} {F0 F : List Int} {ws : List Nat} {q j : Nat} {dn : List Nat} (g : Gph N adj) (n : Nam N adj r F0) (hr : r < N) (root : labOf adj r = r) (f : Fil N adj r F0 F ws q dn) (hq : q < N) (eq : F[q]? = some (r : Int)) (hj : j ∈ adj q) (h : F[j]? ≠ some (-1)) : Fil N adj r F0 F ws q (dn ++ [j]) := by
  have cj : Con adj r j := .more (f.con g n hq eq) hj
  have ej : F[j]? = some (r : Int) := by
    rcases f.ea j (g.lt q hq j hj) with e | e
    · rw [n.unset g hr root cj] at e
      exact absurd e h
    · exact e.1
  refine ⟨f.len, f.ea, f.wk, fun i hi e ni k hk d => ?_, f.rt⟩
  by_cases c : k = j
  · rw [c]
    exact ej
  · refine f.pr i hi e ni k hk fun z => ?_
    rcases List.mem_append.mp (d z) with z | z
    · exact z
    · exact absurd (List.mem_singleton.mp z) c
/-- the neighbour is named now, and laid on the pile -/
theorem Fil.push {r : Nat} {F0 F : List Int} {ws : List Nat} {q j : Nat} {dn : List Nat} (g : Gph N adj) (n : Nam N adj r F0) (f : Fil N adj r F0 F ws q dn) (hq : q < N) (eq : F[q]? = some (r : Int)) (hj : j ∈ adj q) : Fil N adj r F0 (F.set j (r : Int)) (ws ++ [j]) q (dn ++ [j]) := by
  have cj : Con adj r j := .more (f.con g n hq eq) hj
  have jl : j < N := g.lt q hq j hj
  have hl : j < F.length := by rw [f.len]; exact jl
  refine ⟨by rw [List.length_set]; exact f.len, fun i hi => ?_, fun i hi => ?_, fun i hi e ni k hk d => ?_, ?_⟩
  · rw [get_set hl]
    by_cases c : i = j
    · rw [if_pos c]
      exact .inr ⟨rfl, c ▸ cj⟩
    · rw [if_neg c]
      exact f.ea i hi
  · rw [get_set hl]
    rcases List.mem_append.mp hi with z | z
    · have w := f.wk i z
      by_cases c : i = j
      · rw [if_pos c]
        exact ⟨w.1, rfl⟩
      · rw [if_neg c]
        exact w
    · obtain rfl := List.mem_singleton.mp z
      rw [if_pos rfl]
      exact ⟨jl, rfl⟩
  · rw [get_set hl] at e ⊢
    by_cases c : k = j
    · rw [if_pos c]
    · rw [if_neg c]
      have cij : i ≠ j := fun z => ni (by rw [z]; exact List.mem_append_right _ (List.mem_singleton.mpr rfl))
      rw [if_neg cij] at e
      refine f.pr i hi e (fun z => ni (List.mem_append_left _ z)) k hk fun z => ?_
      rcases List.mem_append.mp (d z) with z | z
      · exact z
      · exact absurd (List.mem_singleton.mp z) c
  · rw [get_set hl]
    by_cases c : r = j
    · rw [if_pos c]
    · rw [if_neg c]
      exact f.rt
/-- all neighbours were looked at -/
theorem Fil.turn {r : Nat} {F0 F : List Int} {ws : List Nat} {q : Nat} (f : Fil N adj r F0 F ws q (adj q)) : Fil N adj r F0 F ws q (adj q) := f
/-- the pile is empty -/
theorem Fil.done {r : Nat} {F0 F : List Int} {q : Nat} (g : Gph N adj) (n : Nam N adj r F0) (hr : r < N) (root : labOf adj r = r) (f : Fil N adj r F0 F [] q (adj q)) : Nam N adj (r + 1) F := by
  have all : ∀ i, Con adj r i → F[i]? = some (r : Int) := fun i c => by
    induction c with
    | here => exact f.rt
    | @more j k b h ih => exact f.pr j (b.lt g hr) ih (fun z => nomatch z) k h fun e => e ▸ h
  refine ⟨f.len, fun i hi => ?_⟩
  obtain ⟨z, ez, b⟩ := n.at_ i hi
  by_cases c : labOf adj i < r
  · refine ⟨z, ?_, fun _ => b.1 c, fun d => absurd (Nat.lt_succ_of_lt c) d⟩
    rcases f.ea i hi with e | e
    · rw [e]
      exact ez
    · have := labOf_eq g hr e.2
      omega
  · by_cases d : labOf adj i = r
    · have ci : Con adj r i := (d ▸ labOf_con i : Con adj i r).symm g hi
      exact ⟨r, all i ci, fun _ => by rw [d], fun w => absurd (by omega) w⟩
    · refine ⟨z, ?_, fun w => absurd (by omega) d, fun _ => b.2 c⟩
      rcases f.ea i hi with e | e
      · rw [e]
        exact ez
      · have := labOf_eq g hr e.2
        omega
/-- no new pane begins at q -/
theorem Nam.next {q : Nat} {F : List Int} (g : Gph N adj) (n : Nam N adj q F) (hq : q < N) (h : F[q]? ≠ some (-1)) : Nam N adj (q + 1) F := by
  have lq : labOf adj q < q := by
    obtain ⟨z, e, b⟩ := n.at_ q hq
    by_cases c : labOf adj q < q
    · exact c
    · rw [b.2 c] at e
      exact absurd e h
  refine ⟨n.len, fun i hi => ?_⟩
  obtain ⟨z, e, b⟩ := n.at_ i hi
  refine ⟨z, e, fun c => ?_, fun c => b.2 (by omega)⟩
  by_cases d : labOf adj i < q
  · exact b.1 d
  · have eq : labOf adj i = q := by omega
    have := labOf_eq g hi (labOf_con i)
    rw [eq] at this
    omega
noncomputable def labsOf (N : Nat) (adj : Nat → List Nat) : List Int := (List.range N).map fun i => (labOf adj i : Int)
theorem Nam.all {F : List Int} (g : Gph N adj) (n : Nam N adj N F) : F = labsOf N adj := by
  unfold labsOf
  refine List.ext_getElem? fun i => ?_
  by_cases c : i < N
  · obtain ⟨z, e, b⟩ := n.at_ i c
    rw [e, b.1 (labOf_lt g c), List.getElem?_map, List.getElem?_range c]
    rfl
  · rw [List.getElem?_eq_none (by rw [n.len]; omega), List.getElem?_eq_none (by rw [List.length_map, List.length_range]; omega)]
theorem Nam.begin : Nam N adj 0 (List.replicate N (-1)) := ⟨List.length_replicate, fun i hi => ⟨-1, by rw [List.getElem?_replicate, if_pos hi], fun c => absurd c (Nat.not_lt_zero _), fun _ => rfl⟩⟩
/-- how many have no name -/
def cntM : List Int → Nat
  | [] => 0
  | x :: xs => (if x = -1 then 1 else 0) + cntM xs
theorem cntM_le : ∀ F : List Int, cntM F ≤ F.length
  | [] => Nat.le_refl _
  | x :: xs => by
    have ih := cntM_le xs
    show (if x = -1 then 1 else 0) + cntM xs ≤ xs.length + 1
    split <;> omega
theorem cntM_set : ∀ {F : List Int} {j : Nat} {z : Int}, F[j]? = some (-1) → z ≠ -1 → cntM (F.set j z) + 1 = cntM F
  | [], j, z, h, _ => by cases j <;> cases h
  | x :: xs, 0, z, h, hz => by
    have h : x = -1 := Option.some.inj h
    show (if z = -1 then 1 else 0) + cntM xs + 1 = (if x = -1 then 1 else 0) + cntM xs
    rw [if_neg hz, if_pos h]
    omega
  | x :: xs, j + 1, z, h, hz => by
    have ih := cntM_set (F := xs) (j := j) (z := z) h hz
    show (if x = -1 then 1 else 0) + cntM (xs.set j z) + 1 = (if x = -1 then 1 else 0) + cntM xs
    omega
end
end Lw

namespace Lw
open PySem.Spec PySem L2 PyProof.Rows
open Evl (Ex Ex.refl Ex.trans Ex.new Ex.off ex_rd ex_l ex_t)
/-! tuples of tuples of numbers at the top -/
def tupAt (K : Fg) (a : Addr) : Option (List Value) := match K.lookup a with
  | some ⟨.type c, _, .seq its _, _⟩ => if c = "tuple" ∧ its.size ≤ sizeLine then some its.toList else none
  | _ => none
def rowsB (K : Fg) : List Value → List (List Int) → Bool
  | [], [] => true
  | .ref a :: us, r :: rs => (match tupAt K a with | some its => He.relAll (r.map V.int) its | none => false) && rowsB K us rs
  | _, _ => false
def tup2B (K : Fg) (x : Str) (rs : List (List Int)) : Bool := match tupAt K (He.ga K x) with
  | some us => rowsB K us rs
  | none => false
theorem tupAt_sq {K : Fg} {a : Addr} {us : List Value} {xs : List V} (h : tupAt K a = some us) (r : Vals xs us) (H : Hp) : SqT K H a xs := by
  unfold tupAt at h
  split at h
  · rename_i c d its n sl e
    split at h
    · rename_i z
      cases h
      exact .inr ⟨_, its, n, e, by rw [z.1], rfl, z.2, r⟩
    · cases h
  · cases h
theorem rows_ok {K : Fg} (H : Hp) : ∀ {us : List Value} {rs : List (List Int)}, rowsB K us rs = true → ∃ xs, Vals xs us ∧ DpAll K H xs (rs.map encT)
  | [], [], _ => ⟨[], .nil, .nil⟩
  | .ref a :: us, r :: rs, h => by
    have h : ((match tupAt K a with | some its => He.relAll (r.map V.int) its | none => false) && rowsB K us rs) = true := h
    obtain ⟨h1, h2⟩ := Bool.and_eq_true_iff.mp h
    obtain ⟨xs, vx, dx⟩ := rows_ok H h2
    cases q : tupAt K a with
    | none =>
      rw [q] at h1
      cases h1
    | some its =>
      rw [q] at h1
      exact ⟨.ref a :: xs, .cons rfl vx, .cons (.tup (tupAt_sq q (He.relAll_ok h1) H) (dpAll_ints r)) dx⟩
  | [], _ :: _, h => by cases h
  | .ref _ :: _, [], h => by cases h
  | .none :: _, _, h => by cases h
  | .bool _ :: _, _, h => by cases h
  | .int _ _ :: _, _, h => by cases h
  | .str _ _ :: _, _, h => by cases h
theorem tup2_ok {K : Fg} {x : Str} {rs : List (List Int)} (h : tup2B K x rs = true) (H : Hp) : Dp K H (.ref (He.ga K x)) (.tuple (rs.map encT)) := by
  unfold tup2B at h
  cases q : tupAt K (He.ga K x) with
  | none =>
    rw [q] at h
    cases h
  | some us =>
    rw [q] at h
    obtain ⟨xs, vx, dx⟩ := rows_ok H h
    exact .tup (tupAt_sq q vx H) dx
/-! dicts whose keys are tuples of numbers, told by their keys -/
def DpK (K : Fg) (P : Program) (w : World) (G : Hp) (v : V) (ks : List (List Int)) : Prop := ∃ (a : Addr) (L : List Ent), v = .ref a ∧ G a = some (DGO P w a L) ∧ keysOf K G L ∧ ∀ k, k ∈ L.map (·.1) ↔ k ∈ ks
section
variable {K : Fg} {P : Program} {w : World} {B : Bg} {G G' H : Hp} {σ : L2.St} {te ta tb tk tv : TE} {tr : TA} {tt : TT} {d : PyData} {ds es : List PyData} {D : Ends} {t u : TS} {b : Bool} {v : V} {ks ls : List (List Int)} {i : Nat}
theorem dpK_mono (e : Ex G G') (h : DpK K P w G v ks) : DpK K P w G' v ks := by
  obtain ⟨a, L, rfl, h1, h2, h3⟩ := h
  exact ⟨a, L, rfl, e _ _ h1, keys_mono e h2, h3⟩
def RetJ (K : Fg) (P : Program) (w : World) (B : Bg) (G H : Hp) (Q : VK) (ks : List (List Int)) : Prop := ∀ v G2 H2, Ext K B G H G2 H2 → DpK K P w G2 v ks → Q v H2
def EvJ (K : Fg) (P : Program) (w : World) (B : Bg) (te : TE) (σ : L2.St) (G : Hp) (ks : List (List Int)) : Prop := ∀ H, Ok K B G H → ∀ Q : VK, RetJ K P w B G H Q ks → te σ H Q
theorem RetJ.mono {Q : VK} {G1 H1 : Hp} (X : Ext K B G H G1 H1) (h : RetJ K P w B G H Q ks) : RetJ K P w B G1 H1 Q ks := fun v G2 H2 X2 dv => h v G2 H2 (X.trans X2) dv
theorem ek_call {sp : Sp} {dvs : List V} {E : XK} (ha : EvA K B tr σ G ds) (hs : ∀ vs G2 H2, Ex G G2 → Ok K B G2 H2 → DpAll K G2 vs ds → ∀ Q, RetJ K P w B G2 H2 Q ks → sp (vs ++ dvs) H2 Q E) : EvJ K P w B (tCall sp dvs E tr) σ G ks := fun H e Q q =>
  ha H e _ fun vs G2 H2 X dv => hs vs G2 H2 X.gg X.ok dv Q (q.mono X)
theorem st_retK (h : EvJ K P w B te σ G ks) (e : Ok K B G H) (k : RetJ K P w B G H D.rt ks) : tRet te D σ H := h H e _ k
theorem sq_setK (h : EvJ K P w B te σ G ks) (e : Ok K B G H) (k : ∀ v G2 H2, Ext K B G H G2 H2 → DpK K P w G2 v ks → u D (σ.set i (some v)) H2) : tSeq (tAsg te (gName i)) u D σ H := h H e _ k
theorem ed_inK {neg : Bool} {k : List Int} (h : EvD K B te σ G (encT k)) (hσ : σ[i]? = some (some v)) (d : DpK K P w G v ks) : EvD K B (tOp (rInK K P w neg) te (tVar i)) σ G (.bool (neg ^^ decide (k ∈ ks))) := fun H e Q q =>
  h H e _ fun x G2 H2 X dx => by
    obtain ⟨a, L, rfl, h1, h2, h3⟩ := d
    obtain ⟨p, rfl, sp⟩ := dp_encV dx
    refine ⟨.ref a, hσ, a, p, L, k, rfl, rfl, ex_t X.ok.e sp, X.ok.e _ _ (X.gg _ _ h1), keys_mono (X.gg.trans X.ok.e) h2, ?_⟩
    have e1 : decide (k ∈ L.map (·.1)) = decide (k ∈ ks) := decide_eq_decide.mpr (h3 k)
    rw [e1]
    exact q _ G2 H2 X (.bl _)
theorem dc_it {J : It} {n : Nat} {Gd : Hp → Prop} {Y : Nat → Hp → V → Hp → Prop} (wk : Walk J n Gd Y) {g : TG} {vs : List Nat} {H1 : Hp} {D : Addr} {Qd : Hp → Prop} (Pv : Nat → Hp → Prop) (h0 : Pv 0 (upd H1 D (DGO P w D []))) (hG : ∀ i H, i ≤ n → Pv i H → Gd H)
    (hs : ∀ i x H H', i < n → Pv i H → Y i H x H' → g x (wipe σ vs) H' fun σ2 H2 => wipe σ2 vs = wipe σ vs ∧ tt σ2 H2 fun b H3 => if b = true then tk σ2 H3 fun y H4 => tv σ2 H4 fun z H5 => ∃ (L : List Ent) (ns : List Int) (b : Addr), y = .ref b ∧ SqT K H5 b (ns.map V.int) ∧ H5 D = some (DGO P w D L) ∧ keysOf K H5 L ∧ L.length < sizeLine ∧ Pv (i + 1) (upd H5 D (DGO P w D (putG L ns b z))) else Pv (i + 1) H3)
    (hd : ∀ H, Pv n H → Qd H) :
    ∃ W : Nat → Nat → Hp → Prop, (∃ m, W 0 m (upd H1 D (DGO P w D []))) ∧ ∀ i m H, W i m H → (J.stop i H ∧ Qd H) ∨ (J.go i H ∧ ∃ Nx : Hp → Prop, (∀ H', Nx H' → ∃ m', m' < m ∧ W (i + 1) m' H') ∧ ∀ x H', J.yld i H x H' → g x (wipe σ vs) H' fun σ2 H2 =>
      wipe σ2 vs = wipe σ vs ∧ tt σ2 H2 fun b H3 => if b = true then tk σ2 H3 fun y H4 => tv σ2 H4 fun z H5 => ∃ (L : List Ent) (ns : List Int) (b : Addr), y = .ref b ∧ SqT K H5 b (ns.map V.int) ∧ H5 D = some (DGO P w D L) ∧ keysOf K H5 L ∧ L.length < sizeLine ∧ Nx (upd H5 D (DGO P w D (putG L ns b z))) else Nx H3) := by
  refine ⟨fun i m H => m = n - i ∧ i ≤ n ∧ Pv i H, ⟨n, (Nat.sub_zero n).symm, Nat.zero_le _, h0⟩, ?_⟩
  rintro i m H ⟨rfl, hi, p⟩
  have gd := hG i H hi p
  rcases Nat.lt_or_ge i n with lt | ge
  · exact .inr ⟨wk.goes i H lt gd, Pv (i + 1), fun H' p' => ⟨n - (i + 1), by omega, rfl, lt, p'⟩, fun x H' y => hs i x H H' lt p (wk.yields i H x H' lt gd y)⟩
  · obtain rfl : i = n := Nat.le_antisymm hi ge
    exact .inl ⟨wk.stops H gd, hd H p⟩
theorem of_if {p q : Prop} (h : p) : if true = true then p else q := by
  rw [if_pos rfl]
  exact h
/-- {x: True for x in xs} -/
theorem ek_dcL (ha : EvD K B ta σ G (.list (ls.map encT))) (hn : ls.length < 100000) (hi : ∀ v, ((σ.set i none).set i (some v))[i]? = some (some v)) : EvJ K P w B (tDcG K P w (iList K ta) (gName i) tYes (tVar i) (tC (.bl true)) [i]) σ G ls := fun H e Q q =>
  ha H e _ fun v G1 H1 X dv => by
    obtain ⟨a, xs, rfl, hs, hx⟩ := dp_lst dv
    refine ⟨a, rfl, ⟨xs, ex_l X.ok.e hs⟩, fun D hD => ?_⟩
    have nb := X.ok.b.ne hD
    refine dc_it (walk_list (K := K) (a := a) (xs := xs)) (Qd := fun H => Q (.ref D) H) (fun j H' => ∃ (G' : Hp) (L : List Ent), Ext K B G1 H1 G' H' ∧ G' D = none ∧ H' D = some (DGO P w D L) ∧ keysOf K G' L ∧ L.length ≤ j ∧ ∀ m, m ∈ L.map (·.1) ↔ m ∈ ls.take j)
      ⟨G1, [], Ext.loose X.ok hD, X.ok.e.off hD, upd_same, (fun _ h => by cases h), Nat.le_refl _, fun m => by rw [List.take_zero]; exact Iff.rfl⟩ ?_ ?_ ?_
    · rintro j H' _ ⟨G', L, X', _⟩
      exact ex_l (X'.gg.trans X'.ok.e) hs
    · rintro j x H' H2 hj ⟨G', L, X', g', h', k', l', m'⟩ ⟨rfl, hx'⟩
      obtain ⟨d, hd, dx⟩ := dpAll_at hx hx'
      rw [List.getElem?_map] at hd
      obtain ⟨k, ek, rfl⟩ : ∃ k, ls[j]? = some k ∧ d = encT k := by
        cases z : ls[j]? with
        | none =>
          rw [z] at hd
          cases hd
        | some k =>
          rw [z] at hd
          exact ⟨k, rfl, (Option.some.inj hd).symm⟩
      obtain ⟨p, rfl, sp⟩ := dp_encV dx
      refine ⟨?_, ?_⟩
      · show (((σ.set i none).set i (some (.ref p))).set i none) = σ.set i none
        rw [List.set_set, List.set_set]
      · refine ⟨.ref p, hi _, L, k, p, rfl, ex_t (X'.gg.trans X'.ok.e) sp, h', keys_mono X'.ok.e k', ?_, ?_⟩
        · have := (List.getElem?_eq_some_iff.mp ek).1
          exact szl (by omega)
        · refine ⟨G', _, ⟨X'.gg, fun a u n z => ?_, X'.fr, X'.ok.mut g' nb⟩, g', upd_same, putG_sq k' (ex_t X'.gg sp), Nat.le_trans (putG_len _ _ _ _) (Nat.succ_le_succ l'), fun m => ?_⟩
          · rw [upd_ne (ne_of_none z hD)]
            exact X'.hh a u n z
          · rw [putG_keys, m', List.take_add_one, ek, List.mem_append]
            exact or_congr Iff.rfl List.mem_singleton.symm
    · rintro H' ⟨G', L, X', g', h', k', l', m'⟩
      have len : xs.length = ls.length := (dpAll_len hx).trans (List.length_map _)
      have F := (X.trans X').freeze (X.old nb hD) g' nb h'
      refine q _ _ _ F ⟨D, L, rfl, upd_same, keys_mono (Ex.new g') k', fun m => ?_⟩
      rw [m', len, List.take_length]
/-! a list that another def fills -/
theorem Ok.hit {H2 : Hp} {f : Addr} (e : Ok K B G H) (g : G f = none) (nb : ¬ isB B f) (k : ∀ a o, a ≠ f → H a = some o → H2 a = some o) : Ok K B G H2 :=
  ⟨fun a o h => k a o (ne_of_none h g) (e.e a o h), e.c, e.b.keep (fun _ _ z => z) fun a o z h => k a o (fun w => nb (w ▸ z)) h⟩
theorem Loo.hit {G0 H0 H2 : Hp} {f : Addr} {xs : List V} (l : Loo K B G0 H0 G H f ds) (k : ∀ a o, a ≠ f → H a = some o → H2 a = some o) (h : H2 f = some (.lst xs)) (a : DpAll K G xs es) : Loo K B G0 H0 G H2 f es :=
  ⟨⟨l.x.gg, fun a o n z => k a o (ne_of_none z l.h0) (l.x.hh a o n z), l.x.fr, l.x.ok.hit l.g l.nb k⟩, l.h0, l.g, l.nb, xs, h, a⟩
theorem ok_nil (H : Hp) : Ok K none H H := ⟨Ex.refl H, fun _ _ z => (by cases z), fun _ _ z => (by cases z)⟩
theorem Ext.nilE {G2 H2 : Hp} (X : Ext K none G H G2 H2) : Ex H H2 := fun a o h => X.hh a o (fun ⟨_, q⟩ => by cases q) h
end
end Lw

namespace Lw
open PySem.Spec PySem L2 PyProof.Rows
open Evl (Ex Ex.refl Ex.trans Ex.new Ex.off ex_rd ex_l ex_t)
section
variable {K : Fg} {B : Bg} {G G' H : Hp} {σ : L2.St} {te ta tb : TE} {tr : TA} {tt : TT} {d : PyData} {ds es : List PyData} {D : Ends} {t u : TS} {b : Bool}
theorem sq_par3 {i j l : Nat} {a b c : Int} (h : EvA K B tr σ G [.int a, .int b, .int c]) (e : Ok K B G H) (k : ∀ G2 H2, Ext K B G H G2 H2 → u D (((σ.set i (some (.int a))).set j (some (.int b))).set l (some (.int c))) H2) : tSeq (tPar3 i j l tr) u D σ H :=
  h H e _ fun vs G2 H2 X dv => by
    obtain rfl := dpAll_intsV (bs := [a, b, c]) dv
    exact ⟨_, _, _, rfl, k G2 H2 X⟩
theorem at_int {F : List Int} {j : Nat} {z : Int} (h : F[j]? = some z) : atI (F.map PyData.int) (j : Int) = some (.int z) := by
  refine atI_nat ?_
  rw [List.getElem?_map, h]
  rfl
end
end Lw

namespace Lw
open PySem.Spec PySem L2 PyProof.Rows
open Evl (Ex Ex.refl Ex.trans Ex.new Ex.off ex_rd ex_l ex_t)
/-! sorted(set(numbers)) -/
def insI (x : Int) (l : List Int) : List Int := match l with
  | [] => [x]
  | y :: ys => if x < y then x :: y :: ys else if x = y then y :: ys else y :: insI x ys
def sset (ns : List Int) : List Int := ns.foldr insI []
theorem insI_mem {x z : Int} : ∀ {ys : List Int}, z ∈ insI x ys ↔ z = x ∨ z ∈ ys
  | [] => by
    show z ∈ [x] ↔ _
    rw [List.mem_singleton]
    exact ⟨.inl, fun h => h.resolve_right fun q => by cases q⟩
  | y :: ys => by
    unfold insI
    split
    · rw [List.mem_cons]
    · split
      · rename_i h
        rw [h]
        exact ⟨.inr, fun h => h.elim (fun e => e ▸ List.mem_cons_self) id⟩
      · rw [List.mem_cons, insI_mem, List.mem_cons]
        exact ⟨fun h => h.elim (fun e => .inr (.inl e)) fun h => h.elim .inl fun q => .inr (.inr q), fun h => h.elim (fun e => .inr (.inl e)) fun h => h.elim .inl fun q => .inr (.inr q)⟩
theorem insI_srt {x : Int} : ∀ {ys : List Int}, ys.Pairwise (· < ·) → (insI x ys).Pairwise (· < ·)
  | [], _ => List.pairwise_singleton _ _
  | y :: ys, h => by
    have h2 := List.pairwise_cons.mp h
    unfold insI
    split
    · rename_i c
      refine List.pairwise_cons.mpr ⟨fun z hz => ?_, h⟩
      cases hz with
      | head => exact c
      | tail _ hz =>
        have := h2.1 z hz
        omega
    · split
      · exact h
      · refine List.pairwise_cons.mpr ⟨fun z hz => ?_, insI_srt h2.2⟩
        rcases insI_mem.mp hz with rfl | hz
        · omega
        · exact h2.1 z hz
theorem sset_mem {ns : List Int} {z : Int} : z ∈ sset ns ↔ z ∈ ns := by
  unfold sset
  induction ns with
  | nil => exact Iff.rfl
  | cons n ns ih => rw [List.foldr_cons, insI_mem, ih, List.mem_cons]
theorem sset_srt (ns : List Int) : (sset ns).Pairwise (· < ·) := by
  unfold sset
  induction ns with
  | nil => exact List.Pairwise.nil
  | cons n ns ih => exact insI_srt ih
theorem srt_uniq : ∀ {l m : List Int}, l.Pairwise (· < ·) → m.Pairwise (· < ·) → (∀ z, z ∈ l ↔ z ∈ m) → l = m
  | [], [], _, _, _ => rfl
  | [], y :: ys, _, _, h => by cases (h y).mpr List.mem_cons_self
  | x :: xs, [], _, _, h => by cases (h x).mp List.mem_cons_self
  | x :: xs, y :: ys, hl, hm, h => by
    have l2 := List.pairwise_cons.mp hl
    have m2 := List.pairwise_cons.mp hm
    have e : x = y := by
      rcases List.mem_cons.mp ((h x).mp List.mem_cons_self) with e | hx
      · exact e
      · rcases List.mem_cons.mp ((h y).mpr List.mem_cons_self) with e | hy
        · exact e.symm
        · have := l2.1 y hy
          have := m2.1 x hx
          omega
    subst e
    refine congrArg _ (srt_uniq l2.2 m2.2 fun z => ⟨fun hz => ?_, fun hz => ?_⟩)
    · rcases List.mem_cons.mp ((h z).mp (List.mem_cons_of_mem _ hz)) with rfl | q
      · exact absurd (l2.1 z hz) (Int.lt_irrefl z)
      · exact q
    · rcases List.mem_cons.mp ((h z).mpr (List.mem_cons_of_mem _ hz)) with rfl | q
      · exact absurd (m2.1 z hz) (Int.lt_irrefl z)
      · exact q
theorem sset_len (ns : List Int) : (sset ns).length ≤ ns.length := nd_len _ _ ((sset_srt ns).imp fun h e => by omega) fun x hx => sset_mem.mp hx
section
variable {K : Fg} {w : World} {B : Bg} {G G' H : Hp} {σ : L2.St} {te ta tb : TE} {tr : TA} {tt : TT} {d : PyData} {ds es : List PyData} {D : Ends} {t u : TS} {b : Bool}
theorem ef_sset {ns : List Int} (h : EvD K B ta σ G (.list (ns.map PyData.int))) (hl : ns.length < 4000) : EvF K B (tCB (rSortI1 w) (tCons (tCB (rSetI K w) (tCons ta tNil)) tNil)) σ G ((sset ns).map PyData.int) := fun H e Q q =>
  h H e _ fun v G1 H1 X dv => by
    obtain ⟨a, xs, rfl, hs, hx⟩ := dp_lst dv
    obtain rfl := dpAll_intsV hx
    refine ⟨a, ns, rfl, ex_l X.ok.e hs, hl, fun p n hp hn => ⟨p, _, n, rfl, upd_same, by omega, fun ms r srt mem len hr => ?_⟩⟩
    have em : ms = sset ns := srt_uniq srt (sset_srt ns) fun z => by rw [mem, sset_mem, decide_eq_true_eq]
    subst em
    have X2 := X.trans (Ext.loose (o := SetO w p (fun j => decide (j ∈ ns)) n) X.ok hp)
    have nr := X2.ok.b.ne hr
    exact q r _ G1 _ (X2.trans (Ext.loose X2.ok hr)) (X2.old nr hr) (X2.ok.e.off hr) nr upd_same (dpAll_ints _)
/-- [e for x in xs if t], xs a tuple -/
theorem ef_lcT {i : Nat} {f : PyData → Option PyData} (ha : EvD K B ta σ G (.tuple ds)) (hn : ds.length ≤ 100000)
    (ht : ∀ d v G', d ∈ ds → Ex G G' → Cel K B G' → Dp K G' v d → EvB K B tt ((σ.set i none).set i (some v)) G' (f d).isSome)
    (he : ∀ d v y G', d ∈ ds → Ex G G' → Cel K B G' → Dp K G' v d → f d = some y → EvD K B te ((σ.set i none).set i (some v)) G' y) :
    EvF K B (tLc (iTup K ta) (gName i) tt te [i]) σ G (ds.filterMap f) := fun H e Q q =>
  ha H e _ fun v G1 H1 X dv => by
    obtain ⟨a, xs, rfl, hs, hx⟩ := dp_tup dv
    refine ⟨a, rfl, ⟨xs, ex_t X.ok.e hs⟩, fun D hD => ?_⟩
    have nb := X.ok.b.ne hD
    show ∃ W, _
    refine lc_tup (K := K) (a := a) (xs := xs) (Qd := fun H => Q (.ref D) H) (fun j H' => ∃ G' ys, Ext K B G1 H1 G' H' ∧ G' D = none ∧ H' D = some (.lst ys) ∧ DpAll K G' ys ((ds.take j).filterMap f))
      ⟨G1, [], Ext.loose X.ok hD, X.ok.e.off hD, upd_same, .nil⟩ ?_ ?_ ?_
    · rintro j H' _ ⟨G', ys, X', _⟩
      exact ex_t (X'.gg.trans X'.ok.e) hs
    · rintro j x H' hj ⟨G', ys, X', g', h', a'⟩
      obtain ⟨d, hd, dx⟩ := dpAll_at hx hj
      have md : d ∈ ds := List.mem_of_getElem? hd
      have jl : j < ds.length := (List.getElem?_eq_some_iff.mp hd).1
      refine ⟨?_, ?_⟩
      · show (((σ.set i none).set i (some x)).set i none) = σ.set i none
        rw [List.set_set, List.set_set]
      · have hlen : ((ds.take j).filterMap f).length < 100000 := by
          have z := List.length_filterMap_le f (ds.take j)
          rw [List.length_take] at z
          omega
        have c' := (e.c.mono X.gg).mono X'.gg
        refine lc_turn (o := f d) hD nb X' g' h' a' hlen (ht d x G' md (X.gg.trans X'.gg) c' (dp_mono X'.gg dx)) (fun y ey => he d x y G' md (X.gg.trans X'.gg) c' (dp_mono X'.gg dx) ey) fun G4 H4 ys X4 g4 h4 a4 => ⟨G4, ys, X4, g4, h4, ?_⟩
        rw [take_filterMap hd]
        exact a4
    · rintro H' ⟨G', ys, X', g', h', a'⟩
      have z : xs.length = ds.length := dpAll_len hx
      rw [z, List.take_length] at a'
      exact q D ys G' H' (X.trans X') (X.old nb hD) g' nb h' a'
/-! lists of drawn items -/
def RetFS (K : Fg) (B : Bg) (G H : Hp) (Q : VK) (S : List PyData → Prop) : Prop := ∀ p xs ds G2 H2, S ds → Ext K B G H G2 H2 → H p = none → G2 p = none → ¬ isB B p → H2 p = some (.lst xs) → DpAll K G2 xs ds → Q (.ref p) H2
def EvFS (K : Fg) (B : Bg) (te : TE) (σ : L2.St) (G : Hp) (S : List PyData → Prop) : Prop := ∀ H, Ok K B G H → ∀ Q : VK, RetFS K B G H Q S → te σ H Q
theorem efs_lcR {i : Nat} {n : Nat} {S : PyData → Prop} (ha : EvA K B tr σ G [.int (n : Int)]) (hn : n ≤ 100000) (he : ∀ j : Nat, j < n → EvS K B te ((σ.set i none).set i (some (.int (j : Int)))) G S) :
    EvFS K B (tLc (iRng1 tr) (gName i) tYes te [i]) σ G (fun ds => ds.length = n ∧ ∀ x ∈ ds, S x) := fun H e Q q =>
  ha H e _ fun vs G1 H1 X dv => by
    have ev : vs = [.int (n : Int)] := dpAll_intsV (bs := [(n : Int)]) dv
    refine ⟨(n : Int), ev, by omega, by omega, fun D hD => ?_⟩
    have nb := X.ok.b.ne hD
    refine lc_range (lo := 0) (n := (n : Int).toNat) (Qd := fun H => Q (.ref D) H) (fun j H' => ∃ (G' : Hp) (xs : List V) (ds : List PyData), Ext K B G1 H1 G' H' ∧ G' D = none ∧ H' D = some (.lst xs) ∧ DpAll K G' xs ds ∧ ds.length = j ∧ ∀ x ∈ ds, S x)
      ⟨G1, [], [], Ext.loose X.ok hD, X.ok.e.off hD, upd_same, .nil, rfl, fun _ h => by cases h⟩ ?_ ?_
    · rintro j H' hj ⟨G', xs, ds, X', g', h', a', l', s'⟩
      have ez : (0 : Int) + (j : Int) = (j : Int) := by omega
      refine ⟨?_, ?_⟩
      · show (((σ.set i none).set i (some (.int (0 + (j : Int))))).set i none) = σ.set i none
        rw [List.set_set, List.set_set]
      · rw [ez]
        refine (he j (by omega)).mono (X.gg.trans X'.gg) e.c H' X'.ok _ fun d y G5 H5 sd X5 dy => ?_
        have h5 := X5.hh D _ nb h'
        have g5 := X5.fr D _ h' g'
        have Y := X'.trans X5
        refine ⟨xs, h5, by rw [dpAll_len a', l']; exact szl (by omega), G5, xs ++ [y], ds ++ [d], ⟨Y.gg, fun a u n q => ?_, Y.fr, Y.ok.mut g5 nb⟩, g5, upd_same, dpAll_app (dpAll_mono X5.gg a') (.cons dy .nil), by rw [List.length_append, l']; rfl, fun x hx => ?_⟩
        · rw [upd_ne (ne_of_none q hD)]
          exact Y.hh a u n q
        · refine (List.mem_append.mp hx).elim (s' x) fun one => ?_
          exact List.mem_singleton.mp one ▸ sd
    · rintro H' ⟨G', xs, ds, X', g', h', a', l', s'⟩
      rw [Int.toNat_natCast] at l'
      exact q D xs ds G' H' ⟨l', s'⟩ (X.trans X') (X.old nb hD) g' nb h' a'
theorem efs_cat {S : List PyData → Prop} (ha : EvFS K B ta σ G S) (hb : EvF K B tb σ G es) (hl : ∀ ds, S ds → ds.length + es.length ≤ 100000) : EvFS K B (tOp rCat ta tb) σ G (fun ds => ∃ a, S a ∧ ds = a ++ es) := fun H e Q q =>
  ha H e _ fun p xs ds G1 H1 s X1 hp g1 nb h1 a1 => hb.mono X1.gg e.c H1 X1.ok _ fun o ys G2 H2 X2 ho g2 nb2 h2 a2 => by
    refine ⟨p, o, xs, ys, rfl, rfl, X2.hh p _ nb h1, h2, ?_, fun r hr => ?_⟩
    · rw [dpAll_len a1, dpAll_len a2]
      exact sz (hl ds s)
    · have n3 := X2.ok.b.ne hr
      exact q r _ _ G2 _ ⟨ds, s, rfl⟩ ((X1.trans X2).trans (Ext.loose X2.ok hr)) ((X1.trans X2).old n3 hr) (X2.ok.e.off hr) n3 upd_same (dpAll_app (dpAll_mono X2.gg a1) a2)
theorem sq_forFS {i : Nat} {S : List PyData → Prop} (h : EvFS K B te σ G S) (e : Ok K B G H) (k : ∀ ds v G1 H1, S ds → Ext K B G H G1 H1 → Dp K G1 v (.list ds) → tSeq (tFor (iList K (tC v)) (gName i) t) u D σ H1) : tSeq (tFor (iList K te) (gName i) t) u D σ H :=
  h H e _ fun p xs ds G1 H1 s X hp hg nb h1 a1 => k ds (.ref p) _ H1 s (X.freeze hp hg nb h1) (.lst (SqL.of upd_same) (dpAll_mono (Ex.new hg) a1))
/-- xs[0].reverse(); xs[1].append(0) -/
theorem Two.bend2 {G0 H0 : Hp} {p0 p1 pf : Addr} {i : Nat} (hσ : σ[i]? = some (some (.ref pf))) (l : Two K B G0 H0 G H p0 p1 pf ds es) (hl : es.length < 100000) (k : ∀ H2, Ext K B G0 H0 G H2 → D.nx σ H2) :
    tSeq (tDrop (tBM0 K "list" rReverse (tOp (rIxL K) (tVar i) (tC (.int 0))))) (tDrop (tBM K "list" rAppend (tOp (rIxL K) (tVar i) (tC (.int 1))) (tCons (tC (.int 0)) tNil))) D σ H := by
  obtain ⟨xs, ys, a0, a1, af, d0, d1⟩ := l.a
  refine ⟨.ref pf, hσ, pf, [.ref p0, .ref p1], 0, .ref p0, rfl, rfl, SqL.of af, rfl, .inl ⟨rfl, xs, SqL.of a0⟩, p0, xs, rfl, rfl, a0, ?_⟩
  have b1 : upd H p0 (.lst xs.reverse) p1 = some (.lst ys) := by
    rw [upd_ne (Ne.symm l.ne.1)]
    exact a1
  have bf : upd H p0 (.lst xs.reverse) pf = some (.lst [.ref p0, .ref p1]) := by
    rw [upd_ne (Ne.symm l.ne.2.1)]
    exact af
  refine ⟨.ref pf, hσ, pf, [.ref p0, .ref p1], 1, .ref p1, rfl, rfl, SqL.of bf, rfl, .inl ⟨rfl, ys, SqL.of b1⟩, p1, ys, .int 0, rfl, rfl, b1, by rw [dpAll_len d1]; exact szl hl, ?_⟩
  refine k _ ⟨l.x.gg, fun a o n z => ?_, l.x.fr, (l.x.ok.mut l.g.1 l.nb.1).mut l.g.2.1 l.nb.2.1⟩
  rw [upd_ne (ne_of_none z l.h0.2.1), upd_ne (ne_of_none z l.h0.1)]
  exact l.x.hh a o n z
end
end Lw

namespace Lw
open PySem.Spec PySem L2 PyProof.Rows
open Evl (Ex Ex.refl Ex.trans Ex.new Ex.off ex_rd ex_l ex_t)
theorem shp_int (i : Int) : SeqAt.shaped (.int i) = true := by rfl
theorem shp_ints (ns : List Int) : SeqAt.shaped (.list (ns.map PyData.int)) = true := by
  obtain ⟨k1, k2⟩ := lay_ints ns
  exact shp (by simp [PyData.canLay0, k1]) (by simp [PyData.depth, k2])
theorem any_int (ns : List Int) (a : Int) : ((ns.map PyData.int).any fun z => PyData.eqv z (.int a)) = decide (a ∈ ns) := by
  induction ns with
  | nil => simp
  | cons n ns ih =>
    have e : PyData.eqv (.int n) (.int a) = decide (n = a) := by
      simp only [PyData.eqv]
      by_cases c : n = a <;> simp [c]
    rw [List.map_cons, List.any_cons, ih, e, Bool.eq_iff_iff, Bool.or_eq_true, decide_eq_true_eq, decide_eq_true_eq, decide_eq_true_eq, List.mem_cons]
    exact ⟨fun h => h.imp Eq.symm id, fun h => h.imp Eq.symm id⟩
section
variable {K : Fg} {w : World} {B : Bg} {G G' H : Hp} {σ : L2.St} {te ta tb : TE} {tr : TA} {tt : TT} {d : PyData} {ds es : List PyData} {D : Ends} {t u : TS} {b : Bool}
theorem rd_notInI {ns : List Int} {a : Int} : RvD K B (rNotInD K) G (.int a) (.list (ns.map PyData.int)) (.bool (!decide (a ∈ ns))) := fun u v G2 H2 _ e du dv Q q =>
  ⟨.int a, ns.map PyData.int, dp_mono e.e du, dp_mono e.e dv, shp_int a, shp_ints ns, by rw [any_int]; exact q.here e (.bl _)⟩
theorem rd_inI {ns : List Int} {a : Int} : RvD K B (rInD K) G (.int a) (.list (ns.map PyData.int)) (.bool (decide (a ∈ ns))) := fun u v G2 H2 _ e du dv Q q =>
  ⟨.int a, ns.map PyData.int, dp_mono e.e du, dp_mono e.e dv, shp_int a, shp_ints ns, by rw [any_int]; exact q.here e (.bl _)⟩
theorem eqvI_nil (ns : List Int) : PyData.eqv (.list (ns.map PyData.int)) (.list []) = decide (ns = []) := by
  cases ns with
  | nil => simp [PyData.eqv, PyData.eqvAll]
  | cons l ls => simp [PyData.eqv, PyData.eqvAll]
/-! a list made meanwhile, and a list of it and a number -/
structure One (K : Fg) (B : Bg) (G0 H0 G H : Hp) (p0 pf : Addr) (ds : List PyData) (k : Int) : Prop where
  x : Ext K B G0 H0 G H
  h0 : H0 p0 = none ∧ H0 pf = none
  g : G p0 = none ∧ G pf = none
  nb : ¬ isB B p0 ∧ ¬ isB B pf
  ne : p0 ≠ pf
  a : ∃ xs, H p0 = some (.lst xs) ∧ H pf = some (.lst [.ref p0, .int k]) ∧ DpAll K G xs ds
theorem One.step {G0 H0 G2 H2 : Hp} {p0 pf : Addr} {k : Int} (l : One K B G0 H0 G H p0 pf ds k) (X : Ext K B G H G2 H2) : One K B G0 H0 G2 H2 p0 pf ds k := by
  obtain ⟨xs, a0, af, d0⟩ := l.a
  exact ⟨l.x.trans X, l.h0, ⟨X.fr _ _ a0 l.g.1, X.fr _ _ af l.g.2⟩, l.nb, l.ne, xs, X.hh _ _ l.nb.1 a0, X.hh _ _ l.nb.2 af, dpAll_mono X.gg d0⟩
/-- xs = [f(i) for i in range(2)], f(0) a new list, f(1) a number -/
theorem sq_one {i j : Nat} {k : Int} (ha : EvA K B tr σ G [.int 2]) (h0 : EvF K B te ((σ.set i none).set i (some (.int 0))) G ds) (h1 : EvD K B te ((σ.set i none).set i (some (.int 1))) G (.int k)) (e : Ok K B G H)
    (kk : ∀ p0 pf G2 H2, One K B G H G2 H2 p0 pf ds k → u D (σ.set j (some (.ref pf))) H2) : tSeq (tAsg (tLc (iRng1 tr) (gName i) tYes te [i]) (gName j)) u D σ H :=
  ha H e _ fun vs G1 H1 X dv => by
    have ev : vs = [.int 2] := dpAll_intsV (bs := [2]) dv
    refine ⟨2, ev, by omega, by omega, fun pf hf => ?_⟩
    have nf := X.ok.b.ne hf
    refine lc_range (lo := 0) (n := (2 : Int).toNat) (Qd := fun H => u D (σ.set j (some (.ref pf))) H) (fun j H' => match j with
      | 0 => Ext K B G1 H1 G1 H' ∧ H' pf = some (.lst [])
      | 1 => ∃ G' p0 xs, Ext K B G1 H1 G' H' ∧ H1 p0 = none ∧ G' p0 = none ∧ G' pf = none ∧ ¬ isB B p0 ∧ p0 ≠ pf ∧ H' p0 = some (.lst xs) ∧ DpAll K G' xs ds ∧ H' pf = some (.lst [.ref p0])
      | _ => ∃ G' p0, One K B G H G' H' p0 pf ds k) ⟨Ext.loose X.ok hf, upd_same⟩ ?_ ?_
    · rintro m H' hm pv
      have hm : m = 0 ∨ m = 1 := by
        have : (2 : Int).toNat = 2 := rfl
        omega
      refine ⟨?_, ?_⟩
      · show (((σ.set i none).set i (some (.int (0 + (m : Int))))).set i none) = σ.set i none
        rw [List.set_set, List.set_set]
      · rcases hm with rfl | rfl
        · obtain ⟨X', h'⟩ := pv
          refine h0.mono X.gg e.c H' X'.ok _ fun p0 xs G2 H2 X2 hp gp nb h2 a2 => ?_
          have hf2 := X2.hh pf _ nf h'
          have g2 := X2.fr pf _ h' (X.ok.e.off hf)
          have ne : p0 ≠ pf := fun z => by
            rw [z, h'] at hp
            cases hp
          refine ⟨[], hf2, szl (by decide), G2, p0, xs, ?_, X'.old nb hp, gp, g2, nb, ne, ?_, a2, upd_same⟩
          · have Y := X'.trans X2
            refine ⟨Y.gg, fun a o n q => ?_, Y.fr, Y.ok.mut g2 nf⟩
            rw [upd_ne (ne_of_none q hf)]
            exact Y.hh a o n q
          · rw [upd_ne ne]
            exact h2
        · obtain ⟨G', p0, xs, X', hp, gp, gf, nb, ne, h2, a2, hf2⟩ := pv
          refine h1.mono (X.gg.trans X'.gg) e.c H' X'.ok _ fun y G3 H3 X3 dy => ?_
          obtain rfl := dp_int dy
          have h3 := X3.hh p0 _ nb h2
          have hf3 := X3.hh pf _ nf hf2
          have g3 := X3.fr pf _ hf2 gf
          have Y := X.trans (X'.trans X3)
          refine ⟨[.ref p0], hf3, szl (Nat.le_of_ble_eq_true rfl), G3, p0, ⟨Y.gg, fun a o n q => ?_, Y.fr, Y.ok.mut g3 nf⟩, ⟨X.old nb hp, X.old nf hf⟩, ⟨X3.fr p0 _ h2 gp, g3⟩, ⟨nb, nf⟩, ne, xs, ?_, upd_same, dpAll_mono X3.gg a2⟩
          · rw [upd_ne (ne_of_none q (X.old nf hf))]
            exact Y.hh a o n q
          · rw [upd_ne ne]
            exact h3
    · rintro H' ⟨G', p0, o⟩
      exact kk p0 pf G' H' o
/-- all of it, frozen for a test -/
theorem One.see {G0 H0 : Hp} {p0 pf : Addr} {k : Int} (l : One K B G0 H0 G H p0 pf ds k) : ∃ G1, Ex G G1 ∧ Ok K B G1 H ∧ Dp K G1 (.ref pf) (.list [.list ds, .int k]) := by
  obtain ⟨xs, a0, af, d0⟩ := l.a
  have gf : upd G p0 (.lst xs) pf = none := by
    rw [upd_ne (Ne.symm l.ne)]
    exact l.g.2
  have e0 : Ex G (upd G p0 (.lst xs)) := Ex.new l.g.1
  have ef : Ex (upd G p0 (.lst xs)) (upd (upd G p0 (.lst xs)) pf (.lst [.ref p0, .int k])) := Ex.new gf
  have F := (l.x.freeze l.h0.1 l.g.1 l.nb.1 a0).freeze l.h0.2 gf l.nb.2 af
  exact ⟨_, e0.trans ef, F.ok, .lst (SqL.of upd_same) (.cons (dp_mono ef (.lst (SqL.of upd_same) (dpAll_mono e0 d0))) (.cons (.int k) .nil))⟩
theorem One.ifN {G0 H0 : Hp} {p0 pf : Addr} {k : Int} (l : One K B G0 H0 G H p0 pf ds k) (kt : ∀ G1, Ex G G1 → Dp K G1 (.ref pf) (.list [.list ds, .int k]) → EvB K B tt σ G1 b) (k1 : b = true → ∀ H2, One K B G0 H0 G H2 p0 pf ds k → t { D with nx := u D } σ H2)
    (k2 : b = false → ∀ H2, One K B G0 H0 G H2 p0 pf ds k → u D σ H2) : tSeq (tIfS tt t tNext) u D σ H := by
  obtain ⟨G1, E, o, dd⟩ := l.see
  exact sq_ifN (kt G1 E dd) o (fun c G2 H2 X => k1 c H2 (l.step (X.back E l.x.ok.c))) (fun c G2 H2 X => k2 c H2 (l.step (X.back E l.x.ok.c)))
theorem One.ifD {G0 H0 : Hp} {p0 pf : Addr} {k : Int} (l : One K B G0 H0 G H p0 pf ds k) (kt : ∀ G1, Ex G G1 → Dp K G1 (.ref pf) (.list [.list ds, .int k]) → EvB K B tt σ G1 b) (k1 : b = true → ∀ H2, One K B G0 H0 G H2 p0 pf ds k → t D σ H2)
    (k2 : b = false → ∀ H2, One K B G0 H0 G H2 p0 pf ds k → D.nx σ H2) : tIfS tt t tNext D σ H := by
  obtain ⟨G1, E, o, dd⟩ := l.see
  exact st_ifD (kt G1 E dd) o (fun c G2 H2 X => k1 c H2 (l.step (X.back E l.x.ok.c))) (fun c G2 H2 X => k2 c H2 (l.step (X.back E l.x.ok.c)))
/-- xs[0].append(0), at the end -/
theorem One.bend {G0 H0 : Hp} {p0 pf : Addr} {i : Nat} {k : Int} (hσ : σ[i]? = some (some (.ref pf))) (l : One K B G0 H0 G H p0 pf ds k) (hl : ds.length < 100000) (kk : ∀ H2, Ext K B G0 H0 G H2 → D.nx σ H2) :
    tDrop (tBM K "list" rAppend (tOp (rIxL K) (tVar i) (tC (.int 0))) (tCons (tC (.int 0)) tNil)) D σ H := by
  obtain ⟨xs, a0, af, d0⟩ := l.a
  refine ⟨.ref pf, hσ, pf, [.ref p0, .int k], 0, .ref p0, rfl, rfl, SqL.of af, rfl, .inl ⟨rfl, xs, SqL.of a0⟩, p0, xs, .int 0, rfl, rfl, a0, by rw [dpAll_len d0]; exact szl hl, ?_⟩
  refine kk _ ⟨l.x.gg, fun a o n z => ?_, l.x.fr, l.x.ok.mut l.g.1 l.nb.1⟩
  rw [upd_ne (ne_of_none z l.h0.1)]
  exact l.x.hh a o n z
/-- a list of drawn items, kept as it is -/
theorem sq_setFS {i : Nat} {S : List PyData → Prop} (h : EvFS K B te σ G S) (e : Ok K B G H) (k : ∀ p xs ds G1 H1, S ds → Ext K B G H G1 H1 → G1 p = some (.lst xs) → DpAll K G1 xs ds → u D (σ.set i (some (.ref p))) H1) : tSeq (tAsg te (gName i)) u D σ H :=
  h H e _ fun p xs ds G1 H1 s X hp hg nb h1 a1 => k p xs ds _ H1 s (X.freeze hp hg nb h1) upd_same (dpAll_mono (Ex.new hg) a1)
/-- xs + e, xs a name of a list that is kept -/
theorem ef_catN {i : Nat} {p : Addr} {xs : List V} (hσ : σ[i]? = some (some (.ref p))) (hp : G p = some (.lst xs)) (a : DpAll K G xs ds) (hb : EvF K B tb σ G es) (hl : ds.length + es.length ≤ 100000) : EvF K B (tOp rCat (tVar i) tb) σ G (ds ++ es) := fun H e Q q =>
  ⟨.ref p, hσ, hb H e _ fun o ys G2 H2 X2 ho g2 nb2 h2 a2 => by
    refine ⟨p, o, xs, ys, rfl, rfl, X2.ok.e _ _ (X2.gg _ _ hp), h2, ?_, fun r hr => ?_⟩
    · rw [dpAll_len a, dpAll_len a2]
      exact sz hl
    · have n3 := X2.ok.b.ne hr
      exact q r _ G2 _ (X2.trans (Ext.loose X2.ok hr)) (X2.old n3 hr) (X2.ok.e.off hr) n3 upd_same (dpAll_app (dpAll_mono X2.gg a) a2)⟩
end
end Lw

namespace Lw
open PySem.Spec PySem L2 PyProof.Rows
open Evl (Ex Ex.refl Ex.trans Ex.new Ex.off ex_rd ex_l ex_t)
/-! try .. except (X, Y) as n -/
theorem traced_up {h h' base : Heap} {e : Addr} {Z : Obj → Prop} {fl : Value} (k : ∀ b o, h.get? b = some o → h'.get? b = some o) (x : HandSPX.TracedZ h base e Z fl) : HandSPX.TracedZ h' base e Z fl := by
  obtain ⟨oe, vs, T, oT, ts, a1, a2, a3, a4, a5, a6, a7, a8⟩ := x
  exact ⟨oe, vs, T, oT, ts, k _ _ a1, a2, a3, a4, a5, a6, k _ _ a7, a8⟩
theorem flying_up {h h' base : Heap} {l : List Env} {e : Addr} {Z : Obj → Prop} (k : ∀ b o, h.get? b = some o → h'.get? b = some o) (x : HandSPX.FlyingZ base l e Z h) : HandSPX.FlyingZ base l e Z h' := by
  obtain ⟨f1, f2, f3, f4⟩ := x
  exact ⟨fun b o z => k _ _ (f1 b o z), f2, Heap.FunFrames.of_keeps (fun b o z _ => ⟨o, k b o z, rfl⟩) f3, traced_up k f4⟩
/-- what the clause wishes of an exception of the body -/
def wAs2 (K : Fg) (c1 c2 : Value) (i : Nat) (ts : Addr → Value → Option Addr → TS) (Wout : WX) (D : Ends) : WX := fun cls d σ H =>
  ∃ b, PySem.W.exmAny K cls [c1, c2] = some b ∧ (b = true → ∀ a, H a = none → ts a cls d { nx := fun σ' H' => D.nx (σ'.set i none) H', rt := D.rt, bk := fun σ' H' => D.bk (σ'.set i none) H', ct := fun σ' H' => D.ct (σ'.set i none) H' } (σ.set i (some (.ref a))) H) ∧
    (b = false → Wout cls d σ H)
section
variable {X : Cx} {x y n : Str} {c1 c2 : Value} {i : Nat} {body suite : List Stmt} {b₀ : Stmt} {np np2 tp pos pos' : Pos} {kk : Nat} {tb : WX → TS} {ts : Addr → Value → Option Addr → TS} {Wout : WX}
theorem name_at {pins : List (Addr × Obj)} {σ : L2.St} {H : Hp} {s : Shared} {Q : Value → Shared → Prop} {E : Value → Shared → Prop} {c : Value} (I : Inv X pins σ H s) (hc : Names X x c) (q : Q c s) : wpAny (model X.prog X.w) X.A (eval (.Name x np) X.env) Q E s := by
  obtain ⟨g1, g2, g3 | ⟨g3, g4, g5⟩⟩ := hc
  · exact ld_glob I g1 g3 q g2
  · exact ld_blt I g1 g3 g4 q g5 g2
/-- the body of a try, whatever is wished of its exceptions -/
abbrev BodyOk (X : Cx) (body : List Stmt) (tb : WX → TS) : Prop := ∀ (W : WX) (pn : List (Addr × Obj)) (xe : Value → Shared → Prop), Takes (X.tr pn xe) W → PassesOwn (model X.prog X.w) X.A X.env xe → PSs (X.tr pn xe) body (tb W)
/-- the suite of a clause, the exception at a -/
abbrev SuiteOk (X : Cx) (sts : List Stmt) (ts : Addr → Value → Option Addr → TS) : Prop := ∀ (a : Addr) (oe : Obj) (cls : Value) (d : Option Addr) (pn : List (Addr × Obj)), Zc cls d oe → (∃ vs, oe.data = .fields vs) → PSs (X.suite a ((a, oe) :: pn)) sts (ts a cls d)
/-- how a flow of the suite ends, the name gone -/
theorem suite_end {pins : List (Addr × Obj)} {a : Addr} {q : Addr × Obj} {D : Ends} {f : Flow} {s7 : Shared} (ok : X.Ok) (hN : X.N.Nodup) (hi : X.N[i]? = some n) (hln : X.env.kindOf n = some .local)
    (sp : SP (X.suite a (q :: (X.pn ++ pins))) [] { nx := fun σ' H' => D.nx (σ'.set i none) H', rt := D.rt, bk := fun σ' H' => D.bk (σ'.set i none) H', ct := fun σ' H' => D.ct (σ'.set i none) H' } f s7) :
    wpAny (model X.prog X.w) X.A (do bindName X.env n .none; unbindBehindTheSuite X.env n pos') (fun _ s8 => SP X pins D f s8) X.xe s7 := by
  cases f with
  | ret u =>
    rcases sp with ⟨v, σ7, H7, S7, rv, q7⟩
    exact gone_ok (S7.unsuite ok) hN hi hln fun s8 J8 => ⟨v, _, _, J8, rv, q7⟩
  | next =>
    rcases sp with ⟨σ7, H7, S7, q7⟩
    exact gone_ok (S7.unsuite ok) hN hi hln fun s8 J8 => ⟨_, _, J8, q7⟩
  | brk =>
    rcases sp with ⟨σ7, H7, S7, q7⟩
    exact gone_ok (S7.unsuite ok) hN hi hln fun s8 J8 => ⟨_, _, J8, q7⟩
  | cont =>
    rcases sp with ⟨σ7, H7, S7, q7⟩
    exact gone_ok (S7.unsuite ok) hN hi hln fun s8 J8 => ⟨_, _, J8, q7⟩
theorem ps_try2 (hs : X.stack = X.env :: X.outer) (hf : X.env.frame = some X.env.locals) (hN : X.N.Nodup) (hi : X.N[i]? = some n) (hln : X.env.kindOf n = some .local) (h1 : Names X x c1) (h2 : Names X y c2) (tk : Takes X Wout)
    (hb : BodyOk X body tb) (hsu : SuiteOk X (b₀ :: suite) ts) :
    PS X (.Try body [.ExceptHandler (some (.Tuple [.Name x np, .Name y np2] kk tp)) (some n) (b₀ :: suite) pos'] [] [] pos) (fun D σ H => tb (wAs2 X.K c1 c2 i ts Wout D) D σ H) := by
  refine ⟨fun pins s σ H D I h => wpAny_Try_except ?_⟩
  have frm : X.A.frames = some (X.env :: X.outer) := by rw [I.ok.frames, hs]
  have okX := I.ok
  refine wpAny_mono ((hb (wAs2 X.K c1 c2 i ts Wout D) (X.pn ++ pins) (fun e t1 => wpAny (model X.prog X.w) X.A (noteFrame e X.env) (fun _ t2 => wpAny (model X.prog X.w) X.A (setFlight e none) (fun _ t3 =>
    wpAny (model X.prog X.w) X.A (handleBy e X.env [.ExceptHandler (some (.Tuple [.Name x np, .Name y np2] kk tp)) (some n) (b₀ :: suite) pos']) (SP X pins D) X.xe t3) X.xe t2) X.xe t1) (fun u s' xx => ?_) PassesOwn.looking).run [] s σ H D (I.toTry _) h) (fun f s1 sp => ?_) fun e s1 he => he
  · rcases xx with ⟨a, B, sI, pins', σ', H', cls, d, rfl, J', nb, up, sky, na, os, ag, b, hb1, yes, no⟩
    have JX := J'.ofTry okX
    rw [show (X.tr (X.pn ++ pins) _).stack = X.env :: X.outer from hs] at sky
    refine Sky.land Zc.steady frm hf sky fun h3 fl3 up3 => ?_
    have at3 := JX.landed (s' := { s' with heap := h3 }) nb fl3.1 (up.trans up3) os ag
    obtain ⟨ob, vs, ga, gz, gd⟩ := fl3.there
    -- the exception is no frame of the stack
    have off : a ∉ frs (X.env :: X.outer) := fun hm => by
      obtain ⟨_, o', e', hnf⟩ := fl3.2.2.1.mem hm
      rw [ga] at e'
      cases e'
      exact hnf _ gd
    have apart : a ≠ X.env.locals ∧ a ∉ X.fs := by
      refine ⟨fun z => off (List.mem_filterMap.mpr ⟨X.env, List.mem_cons_self, by rw [hf, z]⟩), fun hm => ?_⟩
      rcases List.mem_filterMap.mp hm with ⟨e, he, q⟩
      exact off (List.mem_filterMap.mpr ⟨e, List.mem_cons_of_mem _ he, q⟩)
    have in3 := at3.suite ga gd na apart.1 apart.2
    refine wpAny_handleBy_cons (codeAny_handlers_test (wpAny_Tuple ?_)) fun q => by cases q
    -- the tuple of classes
    refine wpAny_items_cons (name_at (X := X.suite a ((a, ob) :: (X.pn ++ pins))) in3 h1 (wpAny_items_cons (name_at (X := X.suite a ((a, ob) :: (X.pn ++ pins))) in3 h2 (wpAny_items_nil ⟨by size_fits, ?_⟩))))
    have kp : ∀ q o, h3.get? q = some o → (h3.push { cls := .type "tuple", data := .seq [c1, c2].toArray }).get? q = some o := fun q o z => Heap.get?_push_of_some _ z
    have its : PySem.W.Looks (model X.prog X.w) h3 (typeOf (.ref a)) cls := fun A Q E s k q => wpAny_typeOf_ref (k a ob ga) (gz.1 ▸ q)
    refine (PySem.W.exm_tup2 (at3.kIn.keeps kp) (its.keeps kp) (Heap.get?_push_size h3 rfl) hb1).here ?_
    have fl4 := flying_up kp fl3
    have up4 := (up.trans up3).trans (Heap.UpToSlots.of_keeps kp)
    generalize h3.push { cls := .type "tuple", data := .seq [c1, c2].toArray } = h4 at fl4 up4
    cases b with
    | true =>
      refine codeAny_handlers_suite_as (HandSPX.lands_againZ (s := { s' with heap := h4 }) fl4 fun h5 fl5 up5 => ?_)
      have at5 := JX.landed (s' := { s' with heap := h5 }) nb fl5.1 (up4.trans up5) os ag
      rcases fl5.there with ⟨o5, v5, g5, z5, d5⟩
      refine store_ok (X := X.suite a ((a, o5) :: (X.pn ++ pins))) (v := .ref a) (at5.suite g5 d5 na apart.1 apart.2) hN hi (.inl hln) rfl (fun s6 S6 => ?_) (.inr hln)
      exact wpAny_mono ((hsu a o5 cls d (X.pn ++ pins) z5 ⟨_, d5⟩).run [] s6 _ H' _ S6 (yes rfl a na)) (fun f s7 sp => suite_end okX hN hi hln sp) fun _ _ z => z.elim
    | false =>
      refine (show wpAny _ X.A (handleBy (.ref a) X.env []) _ _ _ from wpAny_handleBy_nil ?_)
      rcases id fl4 with ⟨_, _, _, oe, ve, T, oT, ts', he, hz, hd, e1, _⟩
      have known : ¬ ((Value.ref T == Value.none) = true) := by simp
      unfold PySem.passOn
      refine wpAny_bind (wpAny_field he hd e1 ?_)
      rw [if_neg known]
      have on : wpAny (model X.prog X.w) X.A (setFlight (.ref a) X.env.frame) (fun _ t4 => wpAny (model X.prog X.w) X.A (throw (.ref a) : Sem Flow) (SP X pins D) X.xe t4) X.xe { s' with heap := h4 } := by
        rw [hf]
        refine HandSPX.setFlight_upZ (s := { s' with heap := h4 }) fl4 fun h5 hh5 up5 => wpAny_throw (tk _ _ ?_)
        exact ⟨a, B, sI, pins, σ', H', cls, d, rfl, JX, nb, up4.trans up5, .inr (.inr (by rw [hs]; exact hh5)), na, os, ag, no rfl⟩
      first
        | exact wpAny_bind <| wpAny_pure <| wpAny_bind on
        | exact wpAny_bind on
  · cases f with
    | ret u =>
      rcases sp with ⟨v, σ1, H1, J1, rv, q1⟩
      exact ⟨v, σ1, H1, J1.ofTry okX, rv, q1⟩
    | next =>
      rcases sp with ⟨σ1, H1, J1, q1⟩
      exact wpAny_execs_nil ⟨σ1, H1, J1.ofTry okX, q1⟩
    | brk =>
      rcases sp with ⟨σ1, H1, J1, q1⟩
      exact ⟨σ1, H1, J1.ofTry okX, q1⟩
    | cont =>
      rcases sp with ⟨σ1, H1, J1, q1⟩
      exact ⟨σ1, H1, J1.ofTry okX, q1⟩
end
end Lw

namespace Lw
open PySem.Spec PySem L2 PyProof.Rows
open Evl (Ex Ex.refl Ex.trans Ex.new Ex.off ex_rd ex_l ex_t)
/-! texts; first, *others = a list; dicts of the top with texts for keys -/
section
variable {s : Shared} {prog : Program} {w : World} {A : Around} {E : Value → Shared → Prop}
/-- what a list is parted into by «first, *others» -/
theorem part_list {l : Addr} {x : Value} {xs : List Value} {Q : List Value → Shared → Prop} (hl : s.heap.IsList l (x :: xs).toArray) (hh : A.handled = none) (few : xs.length ≤ 10000)
    (k : ∀ (h2 : Heap) (tk : Nat), (∀ b o, s.heap.get? b = some o → h2.get? b = some o) → Q [x, .ref h2.objs.size] { s with heap := h2.push { cls := .type "list", data := .seq xs.toArray }, toks := tk }) :
    wpAny (model prog w) A (unpackItems (.ref l) 2 (some 1)) Q E s := by
  obtain ⟨ol, gl, _⟩ := id hl
  have ne := Nat.ne_of_lt (Heap.lt_size gl)
  have sz1 : (x :: xs).toArray.size = xs.length + 1 := by simp
  unfold unpackItems notIterableAtAll
  refine wpAny_bind (wpAny_bind (wpAny_specialOf hl.typeIs slot_list_iter.lookup (wpAny_pure ?_)))
  simp only [Bool.false_eq_true, if_false, ite_false]
  refine wpAny_bind (wpAny_holding (wpAny_pyIter_list hl (wpAny_bind (wpAny_holding (PySem.W.kun_draw ne 1 0 _ _ ⟨_, Heap.get?_push_size _ rfl, rfl, rfl⟩ (hl.push _) (by omega) fun h1 it1 sb => ?_)))))
  have it1 : h1.IsListIter s.heap.objs.size l 1 := it1
  have l1 : h1.IsList l (x :: xs).toArray := (hl.push _).extBut sb.extBut ne
  obtain ⟨oi, gi, _⟩ := id it1
  obtain ⟨o2, g2, _⟩ := id l1
  have e1 : ((x :: xs).toArray.toList.drop 0).take 1 = [x] := by simp
  rw [e1]
  show wpAny _ _ (if 1 < 1 then _ else _) _ _ _
  rw [if_neg (Nat.lt_irrefl 1)]
  refine wpAny_bind (wpAny_holding (PySem.W.kun_collect (s := { s with heap := h1 }) (T := "list_iterator") (.inr (.inr (.inl rfl))) (Walks.list (A := A.in1) hh s.heap.objs.size l ne (x :: xs).toArray) (fun j u st => st.1.typeIs) (k := 1) (by omega) ⟨it1, l1⟩ (Heap.lt_size gi) (Heap.lt_size g2) (fun h2 tk hk => ?_) (by rw [sz1, sizeLine_eq]; omega)))
  have e2 : (x :: xs).toArray.toList.drop 1 = xs := by simp
  rw [e2]
  show wpAny _ _ (if xs.length < 0 then _ else _) _ _ _
  rw [if_neg (Nat.not_lt_zero _)]
  show wpAny _ _ (newList (xs.take (xs.length - 0)) >>= fun d => pure ([x] ++ [d] ++ xs.drop (xs.length - 0))) _ _ _
  rw [Nat.sub_zero, List.take_length, List.drop_length]
  have kp : ∀ b o, s.heap.get? b = some o → h2.get? b = some o := fun b o q => by
    have nb : b ≠ s.heap.objs.size := Nat.ne_of_lt (Heap.lt_size q)
    exact hk b o nb (sb.extBut b o nb (Heap.get?_push_of_some _ q))
  exact wpAny_bind (wpAny_newList (wpAny_pure (k h2 tk kp)) (by rw [sizeLine_eq]; omega))
end
section
variable {X : Cx} {pos : Pos}
def gStar (K : Fg) (t : TGs) : TG := fun v σ H Q => ∃ a x xs, v = .ref a ∧ SqL K H a (x :: xs) ∧ xs.length ≤ 10000 ∧ ∀ p, H p = none → t [x, .ref p] σ (upd H p (.lst xs)) Q
theorem pg_star {e1 e2 : Expr} {g1 g2 : TG} {p2 : Pos} {kk : Nat} (hc : X.calm = true) (pg1 : PG X e1 g1) (pg2 : PG X e2 g2)
    (hn : assignEach [e1, .Starred e2 p2] X.env = [(false, assign e1 X.env), (true, assign e2 X.env)] := by rfl) : PG X (.Tuple [e1, .Starred e2 p2] kk pos) (gStar X.K (gCons g1 (gCons g2 gNil))) := by
  constructor
  rintro pins s σ H v u Q I r ⟨a, x, xs, rfl, hq, few, hw⟩
  cases r
  obtain ⟨us, rv, pl, hz⟩ := I.list hq
  cases rv with
  | @cons _ y _ ys ry rys =>
    have il : s.heap.IsList a (y :: ys).toArray := pl.isList
    have ly : ys.length = xs.length := rys.length.symm
    rw [PyProof.Rows.assign_Tuple, show ∀ v T, unpack v T = (do assignInOrder (T.map (·.2)) (← holding [v] (unpackItems v T.length (T.findIdx? (·.1))))) from fun _ _ => rfl, hn]
    refine (wpAny_bind (wpAny_standAt ?_))
    refine wpAny_bind (wpAny_holding (part_list il (I.ok.hd hc) (by omega) fun h2 tk kp => ?_))
    have I0 : Inv X pins σ H { s with heap := h2, toks := tk } := I.kept kp
    have fr : H h2.objs.size = none := I0.hok.fresh (Nat.le_refl _)
    have I1 := I0.laid (t' := tk) (o := .lst xs) (fun b o q => Heap.get?_push_of_some _ q) (Nat.le_refl _) (show ObjOk X.prog X.w _ (h2.push { cls := .type "list", data := .seq ys.toArray }) _ (.lst xs) from ⟨by rw [sizeLine_eq]; omega, ys, 0, rys, Heap.get?_push_size _ rfl⟩)
    obtain ⟨v1, r1, e1', w1⟩ := hw _ fr
    injection e1' with q1 q2
    subst q1 q2
    refine assignInOrder_cons (thn (pg1.run pins _ σ _ _ _ _ I1 ry w1) ?_)
    rintro _ s1 ⟨σ1, H1, I2, v2, r2, e2', w2⟩
    injection e2' with q1 q2
    subst q1 q2
    refine assignInOrder_cons (thn (pg2.run pins s1 σ1 H1 (.ref h2.objs.size) _ _ I2 (show RelV (.ref h2.objs.size) (Value.ref h2.objs.size) from rfl) w2) ?_)
    rintro _ s2 ⟨σ2, H2, I3, _, w3⟩
    exact assignInOrder_nil ⟨σ2, H2, I3, w3⟩
end
/-! ### texts -/
abbrev rDec : V → List V → Hp → VK → Prop := fun x xs H Q => ∃ a, x = .str a ∧ xs = [] ∧ True ∧ Q (.bl (Txt.isdecimal a)) H
abbrev rLenT : List V → Hp → VK → Prop := fun xs H Q => ∃ z, xs = [.str z] ∧ z.length ≤ sizeLine ∧ Q (.int z.length) H
abbrev rIntT : List V → Hp → VK → Prop := fun xs H Q => ∃ a n, xs = [.str a] ∧ PySem.intText? a = some n ∧ a.length ≤ 640 ∧ Q (.int n) H
abbrev rStrV : List V → Hp → VK → Prop := fun xs H Q => (∃ i, xs = [.int i] ∧ i.natAbs.log2 < 1920 ∧ Q (.str (toString i)) H) ∨ (∃ a, xs = [.str a] ∧ Q (.str a) H)
theorem cr_str {X : Cx} : CallR X (.type "str") rStrV := CallR.or call_str_int SkE.call_str_str
abbrev rSplit : V → List V → Hp → VK → Prop := fun x xs H Q => ∃ a b, x = .str a ∧ xs = [.str b] ∧ (b.length == 0) = false ∧ a.length + 2 ≤ sizeLine ∧ rNewStrs (Txt.split a b) H Q
abbrev rJoin (K : Fg) : V → List V → Hp → VK → Prop := fun x xs H Q => ∃ a p, ∃ ys : List Str, x = .str a ∧ xs = [.ref p] ∧ (SqL K H p (ys.map V.str) ∨ SqT K H p (ys.map V.str)) ∧ (ys.map (·.length)).sum + ys.length * a.length ≤ 16777216 ∧ Q (.str (Txt.join a ys)) H
section
variable {K : Fg} {B : Bg} {G G' H : Hp} {σ : L2.St} {te ta tb : TE} {tr : TA} {d : PyData} {ds es : List PyData} {D : Ends} {t u : TS} {a b : Str} {ys : List Str}
theorem dpAll_strs : ∀ {vs : List V} {ys : List Str}, DpAll K H vs (ys.map PyData.str) → vs = ys.map V.str
  | _, [], .nil => rfl
  | _, _ :: _, .cons h r => by rw [dp_str h, dpAll_strs r]; rfl
theorem strs_dp : ∀ (ys : List Str), DpAll K H (ys.map V.str) (ys.map PyData.str)
  | [] => .nil
  | y :: ys => .cons (.str y) (strs_dp ys)
theorem ed_dec (h : EvD K B ta σ G (.str a)) : EvD K B (tM0 rDec ta) σ G (.bool (Txt.isdecimal a)) := fun H e Q q =>
  h H e _ fun v G2 H2 X dv => by
    obtain rfl := dp_str dv
    exact ⟨⟨a, rfl⟩, a, rfl, rfl, trivial, q _ G2 H2 X (.bl _)⟩
theorem ed_lenT (h : EvD K B ta σ G (.str a)) (hl : a.length ≤ 100000) : EvD K B (tCB rLenT (tCons ta tNil)) σ G (.int (a.length : Int)) := fun H e Q q =>
  h H e _ fun v G2 H2 X dv => by
    obtain rfl := dp_str dv
    exact ⟨a, rfl, sz hl, q _ G2 H2 X (.int _)⟩
theorem ed_intT {n : Int} (h : EvD K B ta σ G (.str a)) (hn : PySem.intText? a = some n) (hl : a.length ≤ 640) : EvD K B (tCB rIntT (tCons ta tNil)) σ G (.int n) := fun H e Q q =>
  h H e _ fun v G2 H2 X dv => by
    obtain rfl := dp_str dv
    exact ⟨a, n, rfl, hn, hl, q _ G2 H2 X (.int _)⟩
def txtOf (i : Int) : Str := Str.ofString (toString i)
theorem ed_strI {i : Int} (h : EvD K B ta σ G (.int i)) (hl : i.natAbs.log2 < 1920) : EvD K B (tCB rStrV (tCons ta tNil)) σ G (.str (txtOf i)) := fun H e Q q =>
  h H e _ fun v G2 H2 X dv => by
    obtain rfl := dp_int dv
    exact .inl ⟨i, rfl, hl, q _ G2 H2 X (.str _)⟩
theorem ed_strS (h : EvD K B ta σ G (.str a)) : EvD K B (tCB rStrV (tCons ta tNil)) σ G (.str a) := fun H e Q q =>
  h H e _ fun v G2 H2 X dv => by
    obtain rfl := dp_str dv
    exact .inr ⟨a, rfl, q _ G2 H2 X (.str _)⟩
theorem ed_join (ho : EvD K B ta σ G (.str a)) (h : EvD K B te σ G (.list (ys.map .str))) (hl : (ys.map (·.length)).sum + ys.length * a.length ≤ 16777216) : EvD K B (tM1 (rJoin K) ta te) σ G (.str (Txt.join a ys)) := fun H e Q q =>
  ho H e _ fun v G2 H2 X dv => by
    obtain rfl := dp_str dv
    refine ⟨⟨a, rfl⟩, h.mono X.gg e.c H2 X.ok _ fun u G3 H3 X3 du => ?_⟩
    obtain ⟨p, xs, rfl, hs, hx⟩ := dp_lst du
    obtain rfl := dpAll_strs hx
    exact ⟨a, p, ys, rfl, rfl, .inl (ex_l X3.ok.e hs), hl, q _ G3 H3 (X.trans X3) (.str _)⟩
theorem ef_split (ho : EvD K B ta σ G (.str a)) (h : EvD K B te σ G (.str b)) (h0 : (b.length == 0) = false) (hl : a.length ≤ 100000) : EvF K B (tM1 rSplit ta te) σ G ((Txt.split a b).map .str) := fun H e Q q =>
  ho H e _ fun v G2 H2 X dv => by
    obtain rfl := dp_str dv
    refine ⟨⟨a, rfl⟩, h.mono X.gg e.c H2 X.ok _ fun u G3 H3 X3 du => ?_⟩
    obtain rfl := dp_str du
    refine ⟨a, b, rfl, rfl, h0, Nat.le_trans (Nat.add_le_add_right hl 2) (by decide), fun p hp => ?_⟩
    have Y := X.trans X3
    have nb := Y.ok.b.ne hp
    exact q p _ G3 _ (Y.trans (Ext.loose Y.ok hp)) (Y.old nb hp) (Y.ok.e.off hp) nb upd_same (strs_dp _)
theorem dsB : decide (vOf (.str a) = vOf (.str b)) = decide (a = b) := by
  by_cases c : a = b
  · subst c
    simp
  · rw [decide_eq_false c, decide_eq_false]
    intro z
    injection z with z
    exact c z
theorem rd_addS (hl : a.length + b.length ≤ 100000) : RvD K B (fun x y H Q => ∃ i j, x = .str i ∧ y = .str j ∧ i.length + j.length ≤ sizeLine ∧ Q (.str (i ++ j)) H) G (.str a) (.str b) (.str (a ++ b)) := fun u v G2 H2 _ e du dv Q q => ⟨a, b, dp_str du, dp_str dv, sz hl, q.here e (.str _)⟩
/-- first, *others = a list of texts made meanwhile -/
theorem sq_star {i j : Nat} {x : PyData} {xs : List PyData} (h : EvD K B te σ G (.list (x :: xs))) (hl : xs.length ≤ 10000) (e : Ok K B G H)
    (k : ∀ v p G2 H2, Ext K B G H G2 H2 → Dp K G2 v x → Dp K G2 (.ref p) (.list xs) → u D ((σ.set i (some v)).set j (some (.ref p))) H2) : tSeq (tAsg te (gStar K (gCons (gName i) (gCons (gName j) gNil)))) u D σ H :=
  h H e _ fun v G2 H2 X dv => by
    obtain ⟨a, vs, rfl, hs, hx⟩ := dp_lst dv
    match vs, hx with
    | y :: ys, .cons dy dys =>
      refine ⟨a, y, ys, rfl, ex_l X.ok.e hs, by rw [dpAll_len dys]; exact hl, fun p hp => ⟨_, _, rfl, _, _, rfl, rfl, ?_⟩⟩
      have en := Ex.new (o := .lst ys) (X.ok.e.off hp)
      exact k y p _ _ (X.trans (Ext.new X.ok hp)) (dp_mono en dy) (.lst (SqL.of upd_same) (dpAll_mono en dys))
/-- (.., *xs) -/
theorem ea_star (h : EvD K B te σ G (.list ds)) (hr : EvA K B tr σ G es) : EvA K B (StX.tStar K te tr) σ G (ds ++ es) := fun H e Q q =>
  h H e _ fun v G2 H2 X dv => by
    obtain ⟨a, xs, rfl, hs, hx⟩ := dp_lst dv
    refine ⟨a, xs, rfl, .inr (ex_l X.ok.e hs), hr.mono X.gg e.c H2 X.ok _ fun vs G3 H3 X3 dvs => ?_⟩
    exact q _ G3 H3 (X.trans X3) (dpAll_app (dpAll_mono X3.gg hx) dvs)
end
/-! ### dicts of the top -/
/-- what the dict at p, of the top, holds -/
structure WDct (K : Fg) (w : World) (p : Addr) (kvs : List (Str × V)) : Prop where
  ex : ∃ es n, K.lookup p = some ⟨.type "dict", none, .dict es n, #[]⟩ ∧ PySem.W.KeysLit w.params es.toList
  low : (p == sysModules) = false
  is : ∀ q ∈ kvs, ∃ u, PySem.W.nsIn K p q.1 = some (some u) ∧ RelV q.2 u
  no : ∀ z, (∀ q ∈ kvs, q.1 ≠ z) → PySem.W.nsIn K p z = some none
def rInW (K : Fg) (w : World) (neg : Bool) : R2 := fun x y H Q => ∃ (z : Str) (p : Addr) (kvs : List (Str × V)), x = .str z ∧ y = .ref p ∧ WDct K w p kvs ∧ Q (.bl (neg ^^ decide (z ∈ kvs.map (·.1)))) H
section
variable {X : Cx}
theorem WDct.some_ {K : Fg} {w : World} {p : Addr} {kvs : List (Str × V)} {es : Array DictEntry} {n : Nat} (W : WDct K w p kvs) (hl : K.lookup p = some ⟨.type "dict", none, .dict es n, #[]⟩) (z : Str) : (findBy Value.isStrOf es z).isSome = decide (z ∈ kvs.map (·.1)) := by
  by_cases c : z ∈ kvs.map (·.1)
  · obtain ⟨r, hr, rfl⟩ := List.mem_map.mp c
    obtain ⟨u, h1, _⟩ := W.is r hr
    rw [PySem.W.find_K hl h1, decide_eq_true c]
    rfl
  · rw [PySem.W.find_K hl (W.no z fun r hr e => c (List.mem_map.mpr ⟨r, hr, e⟩)), decide_eq_false c]
    rfl
theorem op_inW : OpR X (compareOp .In) (rInW X.K X.w false) := fun pins s σ H x y v u Q I rx ry h => by
  obtain ⟨z, p, kvs, rfl, rfl, W, q⟩ := h
  obtain ⟨t, rfl⟩ := (show ∃ t, v = Value.str z t from rx)
  obtain rfl : u = Value.ref p := ry
  obtain ⟨es, n, hl, hk⟩ := W.ex
  refine wpAny_in_of (strKind_is X.prog X.w z t) W.low (PySem.W.mapOf_K (prog := X.prog) (w := X.w) I.kIn hl hk) ⟨.bl _, H, I.tok _, rfl, ?_⟩
  rw [W.some_ hl]
  rw [Bool.false_xor] at q
  exact q
theorem op_notInW : OpR X (compareOp .NotIn) (rInW X.K X.w true) := fun pins s σ H x y v u Q I rx ry h => by
  obtain ⟨z, p, kvs, rfl, rfl, W, q⟩ := h
  obtain ⟨t, rfl⟩ := (show ∃ t, v = Value.str z t from rx)
  obtain rfl : u = Value.ref p := ry
  obtain ⟨es, n, hl, hk⟩ := W.ex
  refine wpAny_notIn_of (strKind_is X.prog X.w z t) W.low (PySem.W.mapOf_K (prog := X.prog) (w := X.w) I.kIn hl hk) ⟨.bl _, H, I.tok _, rfl, ?_⟩
  rw [W.some_ hl]
  rw [Bool.true_xor] at q
  exact q
theorem WDct.get {K : Fg} {w : World} {p : Addr} {kvs : List (Str × V)} {q : Str × V} (W : WDct K w p kvs) (h : q ∈ kvs) : KDct K w p q.1 q.2 := by
  obtain ⟨es, n, hl, hk⟩ := W.ex
  obtain ⟨u, h1, h2⟩ := W.is q h
  exact ⟨es, n, u, hl, hk, h1, h2⟩
end
/-- a dict of the top, by what the head tells -/
theorem tabW {fa : List He.Fa} {fn : List He.DefD} {ts : List He.Tab} {w : World} {K : Fg} (c : He.SaysT fa fn ts w K) (i : Nat) {t : He.Tab} (h : ts[i]? = some t) : He.dicW K (t.1 K) = some (He.keysIn w.params t.2) := by
  have e : ts.map (fun t => He.dicW K (t.1 K)) = ts.map fun t => some (He.keysIn w.params t.2) := congrArg (fun z => z.2) c
  have e2 := congrArg (fun l => l[i]?) e
  simp only [List.getElem?_map, h, Option.map_some] at e2
  exact Option.some.inj e2
theorem keys_in {P : Params} : ∀ {l : List DictEntry} {ks : List Str}, l.map He.keyOf = He.keysIn P ks → (∀ e ∈ l, ∃ k ∈ ks, ∃ t, e.key = .str k t)
  | [], _, _ => fun _ h => by cases h
  | e :: r, [], h => by cases h
  | e :: r, k :: ks, h => fun e' he' => by
    have h1 : He.keyOf e :: r.map He.keyOf = some (k, PyData.keyHash P k) :: He.keysIn P ks := h
    injection h1 with h2 h3
    rcases mem_c he' with rfl | he'
    · unfold He.keyOf at h2
      split at h2
      · next x t q =>
        obtain ⟨h5, _⟩ := Prod.mk.inj (Option.some.inj h2)
        exact ⟨k, List.mem_cons_self, t, by rw [q, h5]⟩
      · cases h2
    · obtain ⟨k', m, z⟩ := keys_in h3 e' he'
      exact ⟨k', List.mem_cons_of_mem _ m, z⟩
theorem wdct_of {K : Fg} {w : World} {a : Addr} {kvs : List (Str × He.Dv)} (h : He.dicW K a = some (He.keysIn w.params (kvs.map (·.1)))) (hv : He.valsB K a kvs = true) : WDct K w a (kvs.map fun q => (q.1, q.2.v K)) := by
  obtain ⟨es, n, q, hk, low⟩ := He.dicW_ok h
  refine ⟨⟨es, n, q, hk⟩, low, fun r hr => ?_, fun z hz => ?_⟩
  · obtain ⟨r0, h0, rfl⟩ := List.mem_map.mp hr
    exact He.valsB_ok hv h0
  · have hm : es.toList.map He.keyOf = He.keysIn w.params (kvs.map (·.1)) := by
      unfold He.dicW at h
      rw [q] at h
      have h1 : (match decide ("dict" = "dict") && ((#[] : Array (Option Value)).isEmpty && !(a == sysModules)) with
        | true => some (es.toList.map He.keyOf)
        | false => none) = some (He.keysIn w.params (kvs.map (·.1))) := h
      rw [low] at h1
      exact Option.some.inj h1
    have ks := keys_in hm
    unfold PySem.W.nsIn
    rw [q]
    have nf : es.toList.find? (·.key.isStr z) = none := List.find?_eq_none.mpr fun e he c => by
      obtain ⟨k, mk, t, ek⟩ := ks e he
      obtain ⟨r, hr, rfl⟩ := List.mem_map.mp mk
      rw [ek] at c
      refine hz (r.1, r.2.v K) (List.mem_map.mpr ⟨r, hr, rfl⟩) ?_
      simpa [Value.isStr] using c
    have nr : es.toList.any (·.refKey) = false := List.any_eq_false.mpr fun e he c => by
      obtain ⟨k, mk, t, ek⟩ := ks e he
      simp [DictEntry.refKey, ek] at c
    show (match es.toList.find? (·.key.isStr z) with
      | some e => some (some e.val)
      | none => if es.toList.any (·.refKey) then none else some none) = some none
    rw [nf, nr]
    rfl
end Lw

namespace Lw
open PySem.Spec PySem L2 PyProof.Rows
open Evl (Ex Ex.refl Ex.trans Ex.new Ex.off ex_rd ex_l ex_t)
/-! numbers as texts, words -/
theorem diI {a b : Int} : decide (vOf (.int a) = vOf (.int b)) = decide (a = b) := decide_eq_decide.mpr ⟨fun h => V.int.inj h, fun h => congrArg V.int h⟩
/-- a text of signs below 128 -/
def Asc (a : Str) : Prop := ∀ c ∈ TL.tl a, c < 128
theorem dec_at : ∀ c, c < 128 → Unicode.isDecimal c = (decide (48 ≤ c) && decide (c ≤ 57)) := by decide +kernel
theorem dec_digits {a : Str} (h : Txt.isdecimal a = true) (ha : Asc a) : NumText.AllDigits (TL.tl a) ∧ TL.tl a ≠ [] := by
  have h0 : (decide (a.length > 0) && a.cps.all Unicode.isDecimal) = true := h
  obtain ⟨h1, h2⟩ := Bool.and_eq_true_iff.mp h0
  have h1 := of_decide_eq_true h1
  rw [← Array.all_toList] at h2
  refine ⟨fun c hc => ?_, fun z => ?_⟩
  · have q := List.all_eq_true.mp h2 c hc
    rw [dec_at c (ha c hc)] at q
    have q := Bool.and_eq_true_iff.mp q
    exact ⟨of_decide_eq_true q.1, of_decide_eq_true q.2⟩
  · rw [TL.len_tl, z] at h1
    exact absurd h1 (Nat.lt_irrefl 0)
theorem digits_dec {a : Str} (h : NumText.AllDigits (TL.tl a)) (h0 : TL.tl a ≠ []) : Txt.isdecimal a = true := by
  show (decide (a.length > 0) && a.cps.all Unicode.isDecimal) = true
  have l : a.length > 0 := by
    rw [TL.len_tl]
    exact List.length_pos_iff.mpr h0
  rw [decide_eq_true l, Bool.true_and, ← Array.all_toList]
  refine List.all_eq_true.mpr fun c hc => ?_
  have r := h c hc
  rw [dec_at c (by omega), decide_eq_true r.1, decide_eq_true r.2]
  rfl
/-- the number that a text of figures writes -/
def valT (a : Str) : Int := ((NumText.digitsVal (TL.tl a) : Nat) : Int)
theorem digits_lt : ∀ (l : List Nat) (n : Nat), NumText.AllDigits l → l.foldl (fun acc c => acc * 10 + (c - 48)) n < (n + 1) * 10 ^ l.length
  | [], n, _ => by simp
  | c :: r, n, h => by
    have hc := h.head
    have ih := digits_lt r (n * 10 + (c - 48)) h.tail
    rw [List.foldl_cons, show (c :: r).length = r.length + 1 from rfl, Nat.pow_succ]
    refine Nat.lt_of_lt_of_le ih ?_
    rw [Nat.mul_comm (10 ^ r.length) 10, ← Nat.mul_assoc]
    have le : n * 10 + (c - 48) + 1 ≤ (n + 1) * 10 := by omega
    exact Nat.mul_le_mul_right _ le
theorem val_lt {a : Str} {k : Nat} (h : NumText.AllDigits (TL.tl a)) (hl : a.length ≤ k) : 0 ≤ valT a ∧ valT a < 10 ^ k := by
  have z := digits_lt (TL.tl a) 0 h
  rw [Nat.zero_add, Nat.one_mul, ← TL.len_tl] at z
  have p : 10 ^ a.length ≤ 10 ^ k := Nat.pow_le_pow_right (by decide) hl
  have q : NumText.digitsVal (TL.tl a) < 10 ^ k := Nat.lt_of_lt_of_le z p
  have e : ((10 : Int) ^ k) = ((10 ^ k : Nat) : Int) := by simp
  unfold valT
  rw [e]
  exact ⟨Int.natCast_nonneg _, Int.ofNat_lt.mpr q⟩
theorem int_of {a : Str} (h : NumText.AllDigits (TL.tl a)) (h0 : TL.tl a ≠ []) (hl : a.length ≤ 4300) : PySem.intText? a = some (valT a) := PySem.intText_digits h h0 hl
theorem log_lt {i : Int} (h0 : 0 ≤ i) (h : i < 2 ^ 250) : i.natAbs.log2 < 1920 := by
  by_cases c : i = 0
  · subst c
    decide
  · exact Nat.lt_of_lt_of_le (PySem.Flt.log2_lt_of (k := 250) (by decide) (by omega)) (by decide)
/-- whether a word writes a number of at most three figures -/
def numB (a : Str) : Bool := Txt.isdecimal a && (decide ((a.length : Int) ≤ 3) && decide (txtOf (valT a) = a))
theorem tl_txt (n : Nat) : TL.tl (txtOf (n : Int)) = TL.numL n := TL.tl_num n
theorem val_txt (n : Nat) : valT (txtOf (n : Int)) = (n : Int) := by
  unfold valT
  rw [tl_txt, TL.numL_val]
theorem txt_len {n : Nat} (h : n < 1000) : (txtOf (n : Int)).length ≤ 3 := by
  rw [TL.len_tl, tl_txt]
  exact TL.numL_len (k := 3) (by decide) h
theorem num_txt {n : Nat} (h : n < 1000) : numB (txtOf (n : Int)) = true := by
  unfold numB
  have l := txt_len h
  rw [digits_dec (by rw [tl_txt]; exact TL.numL_digits n) (by rw [tl_txt]; exact TL.numL_ne n), decide_eq_true (show ((txtOf (n : Int)).length : Int) ≤ 3 by omega), val_txt, decide_eq_true rfl]
  rfl
theorem txt_asc (n : Nat) : Asc (txtOf (n : Int)) := fun c hc => by
  rw [tl_txt] at hc
  have := TL.numL_digits n c hc
  omega
theorem txt_free {n s : Nat} (h : s < 48 ∨ 57 < s) : s ∉ TL.tl (txtOf (n : Int)) := by
  rw [tl_txt]
  exact TL.numL_free h
theorem split_parts {parts : List Str} (hne : parts ≠ []) (hp : ∀ p ∈ parts, 32 ∉ TL.tl p) : Txt.split (Txt.join " " parts) " " = parts := TL.split_join (s := 32) (S := []) (by rfl) (by decide +kernel) hne hp
section
variable {K : Fg} {B : Bg} {G G' H : Hp} {σ : L2.St} {te ta tb : TE} {tr : TA} {d : PyData} {ds : List PyData} {D : Ends} {t u : TS} {w : World} {p : Addr} {kvs : List (Str × V)}
theorem ed_inW {neg : Bool} {z : Str} (h : EvD K B ta σ G (.str z)) (W : WDct K w p kvs) : EvD K B (tOp (rInW K w neg) ta (tC (.ref p))) σ G (.bool (neg ^^ decide (z ∈ kvs.map (·.1)))) := fun H e Q q =>
  h H e _ fun v G2 H2 X dv => by
    obtain rfl := dp_str dv
    exact ⟨z, p, kvs, rfl, rfl, W, q _ G2 H2 X (.bl _)⟩
theorem ed_getW {z : Str} {v : V} (h : EvD K B tb σ G (.str z)) (W : WDct K w p kvs) (hq : (z, v) ∈ kvs) (dv : ∀ G2, Dp K G2 v d) : EvD K B (tOp (rIxD K w) (tC (.ref p)) tb) σ G d := fun H e Q q =>
  h H e _ fun u G2 H2 X du => by
    obtain rfl := dp_str du
    exact ⟨p, z, v, rfl, rfl, W.get hq, q _ G2 H2 X (dv G2)⟩
theorem es_tupOf {S : List PyData → Prop} (h : EvFS K B ta σ G S) : EvS K B (tCB (rTupS K) (tCons ta tNil)) σ G (fun d => ∃ ds, d = .tuple ds ∧ S ds) := fun H e Q q =>
  h H e _ fun l xs ds G2 H2 s X h0 hg nb h2 a => by
    refine ⟨l, xs, rfl, .inl ⟨SqL.of h2, fun p hp => ?_⟩⟩
    have Y := X.trans (Ext.new (o := .tup xs) X.ok hp)
    exact q (.tuple ds) (.ref p) _ _ ⟨ds, rfl, s⟩ Y (.tup (SqT.of upd_same) (dpAll_mono (Ex.new (X.ok.e.off hp)) a))
end
/-- the line of a word and numbers -/
def lineS (wd : Str) (ns : List Nat) : Str := Txt.join " " (wd :: ns.map fun n : Nat => txtOf (n : Int))
theorem split_line {wd : Str} {ns : List Nat} (h : 32 ∉ TL.tl wd) : Txt.split (lineS wd ns) " " = wd :: ns.map fun n : Nat => txtOf (n : Int) := split_parts (List.cons_ne_nil _ _) fun p hp => by
  rcases mem_c hp with rfl | hp
  · exact h
  · obtain ⟨n, _, rfl⟩ := List.mem_map.mp hp
    exact txt_free (s := 32) (.inl (by decide))
theorem num_all {ns : List Nat} (h : ∀ n ∈ ns, n < 1000) : ((ns.map fun n : Nat => txtOf (n : Int)).map numB).all id = true := List.all_eq_true.mpr fun b hb => by
  obtain ⟨a, ha, rfl⟩ := List.mem_map.mp hb
  obtain ⟨n, hn, rfl⟩ := List.mem_map.mp ha
  exact num_txt (h n hn)
theorem val_all (ns : List Nat) : (ns.map fun n : Nat => txtOf (n : Int)).map valT = ns.map fun n : Nat => (n : Int) := by
  rw [List.map_map]
  exact List.map_congr_left fun n _ => val_txt n
theorem sum_le {k : Nat} : ∀ {l : List Nat}, (∀ x ∈ l, x ≤ k) → l.sum ≤ l.length * k
  | [], _ => by simp
  | x :: l, h => by
    have := sum_le (l := l) fun y hy => h y (List.mem_cons_of_mem _ hy)
    have := h x List.mem_cons_self
    rw [List.sum_cons, List.length_cons, Nat.add_mul]
    omega
theorem join_small {parts : List Str} {n k : Nat} (hn : parts.length ≤ n) (hk : ∀ p ∈ parts, p.length ≤ k) (h : n * (k + 1) ≤ 16777216) : (parts.map (·.length)).sum + parts.length * (" " : Str).length ≤ 16777216 := by
  have z := sum_le (l := parts.map (·.length)) (k := k) fun x hx => by
    obtain ⟨p, hp, rfl⟩ := List.mem_map.mp hx
    exact hk p hp
  rw [List.length_map] at z
  have e : (" " : Str).length = 1 := by rfl
  have m := Nat.mul_le_mul_right (k + 1) hn
  rw [Nat.mul_add, Nat.mul_one] at m
  rw [e]
  omega
theorem tl_joinL_len : ∀ (S : List Nat) (ps : List (List Nat)), (TL.joinL S ps).length ≤ (ps.map List.length).sum + ps.length * S.length
  | S, [] => by simp [TL.joinL]
  | S, [p] => by
    show p.length ≤ _
    simp
  | S, p :: q :: r => by
    have ih := tl_joinL_len S (q :: r)
    show (p ++ (S ++ TL.joinL S (q :: r))).length ≤ _
    rw [List.length_append, List.length_append, List.map_cons, List.sum_cons, List.length_cons (a := p), Nat.add_mul, Nat.one_mul]
    omega
theorem line_len {wd : Str} {ns : List Nat} (h : wd.length ≤ 10) (hn : ns.length ≤ 10) (hs : ∀ n ∈ ns, n < 1000) : (lineS wd ns).length ≤ 1000 := by
  unfold lineS
  rw [TL.join_eq, TL.len_tl, TL.tl_join]
  have z := tl_joinL_len (TL.tl " ") ((wd :: ns.map fun n : Nat => txtOf (n : Int)).map TL.tl)
  have y := sum_le (k := 10) (l := ((wd :: ns.map fun n : Nat => txtOf (n : Int)).map TL.tl).map List.length) fun x hx => by
    obtain ⟨q, hq, rfl⟩ := List.mem_map.mp hx
    obtain ⟨a, ha, rfl⟩ := List.mem_map.mp hq
    rw [← TL.len_tl]
    rcases mem_c ha with rfl | ha
    · exact h
    · obtain ⟨n, hn', rfl⟩ := List.mem_map.mp ha
      have := txt_len (hs n hn')
      omega
  have e1 : (TL.tl " ").length = 1 := by rfl
  simp only [List.length_map, List.length_cons] at z y
  rw [e1] at z
  omega
end Lw

namespace Lw
open PySem.Spec PySem L2 PyProof.Rows
open Evl (Ex Ex.refl Ex.trans Ex.new Ex.off ex_rd ex_l ex_t)
/-! own errors over ValueError with one field, laid by an __init__ -/
/-- the j-th statement of a class of the top -/
def mth (s : Stmt) (j : Nat) : Stmt := match s with
  | .ClassDef _ _ _ b _ _ _ _ _ _ _ => b.getD j (.Pass ⟨0, 0, 0, 0⟩)
  | _ => .Pass ⟨0, 0, 0, 0⟩
def oexL (C : Addr) : Obj → Bool
  | ⟨.type t, _, .cls cd, sl⟩ => (match cd.mro, sl.toList with
    | .ref C' :: bm, [_, _, _, _, some (.builtin n), _] => decide (t = "type") && (decide (C' = C) && (decide (n = "ValueError.__new__") && (!cd.hasDel && (cd.hasDict && PySem.HandSPX.refsVE bm))))
    | _, _ => false)
  | _ => false
def oexB (K : Fg) (C : Addr) : Bool := (match K.lookup C with
  | some o => oexL C o
  | none => false) && (decide (PySem.W.findIn K (.ref C) "__setattr__" = some (some (.builtin "object.__setattr__"))) && (decide (PySem.W.subIn K (.ref C) (.type "BaseException") = some true) && (decide (PySem.W.typeIn K (.ref C) = some (.type "type")) && PySem.W.keepIn K (.ref C))))
theorem oexL_ok {C : Addr} {o : Obj} (h : oexL C o = true) : ∃ nm q N bs bm sn sub ab col dd k0 k1 k2 k3 k5, o = excClassObj nm q C N bs bm true sn sub ab col dd k0 k1 k2 k3 k5 "ValueError.__new__" ∧ PySem.HandSPX.refsVE bm = true := by
  obtain ⟨oc, od, dt, sl⟩ := o
  cases oc with
  | type t =>
    cases dt with
    | cls cd =>
      obtain ⟨nm, bs, mr, N, qn, hd, sn, sub, ab, col, del⟩ := cd
      obtain ⟨l⟩ := sl
      unfold oexL at h
      dsimp only at h
      split at h
      · next _ _ C' bm k0 k1 k2 k3 n k5 =>
        obtain ⟨h1, h⟩ := He.ba h
        obtain ⟨h2, h⟩ := He.ba h
        obtain ⟨h3, h⟩ := He.ba h
        obtain ⟨h4, h⟩ := He.ba h
        obtain ⟨h5, h6⟩ := He.ba h
        obtain rfl := of_decide_eq_true h1
        obtain rfl := of_decide_eq_true h2
        obtain rfl := of_decide_eq_true h3
        have h4 : del = false := by simpa using h4
        subst h4 h5
        exact ⟨_, _, _, _, _, _, _, _, _, _, _, _, _, _, _, rfl, h6⟩
      · cases h
    | _ => cases h
  | _ => cases h
theorem oexB_ok {K : Fg} {C : Addr} (h : oexB K C = true) : OexC K C := by
  obtain ⟨h0, h⟩ := He.ba h
  obtain ⟨h1, h⟩ := He.ba h
  obtain ⟨h2, h⟩ := He.ba h
  obtain ⟨h3, h4⟩ := He.ba h
  refine ⟨?_, of_decide_eq_true h1, of_decide_eq_true h2, of_decide_eq_true h3, h4⟩
  cases q : K.lookup C with
  | none =>
    rw [q] at h0
    cases h0
  | some o =>
    rw [q] at h0
    obtain ⟨nm, qn, N, bs, bm, sn, sub, ab, col, dd, k0, k1, k2, k3, k5, rfl, hb⟩ := oexL_ok h0
    exact ⟨nm, qn, N, bs, bm, sn, sub, ab, col, dd, k0, k1, k2, k3, k5, rfl, hb⟩
/-- what is to be known of such a class: its __init__ at fI, the field at -/
structure AtC (K : Fg) (C fI : Addr) : Prop where
  o : OexC K C
  x : XfC K C
  no : PySem.W.findIn K (.ref C) "at" = some none
  i : PySem.W.findIn K (.ref C) "__init__" = some (some (.ref fI))
  t : PySem.W.typeIn K (.ref fI) = some (.type "function")
def atB (K : Fg) (C fI : Addr) : Bool := oexB K C && (xfB K C && (He.eqO (PySem.W.findIn K (.ref C) "at") (some none) && (He.eqO (PySem.W.findIn K (.ref C) "__init__") (some (some (.ref fI))) && decide (PySem.W.typeIn K (.ref fI) = some (.type "function")))))
theorem atB_ok {K : Fg} {C fI : Addr} (h : atB K C fI = true) : AtC K C fI := by
  obtain ⟨h1, h⟩ := He.ba h
  obtain ⟨h2, h⟩ := He.ba h
  obtain ⟨h3, h⟩ := He.ba h
  obtain ⟨h4, h5⟩ := He.ba h
  exact ⟨oexB_ok h1, xfB_ok h2, He.eqO_ok h3, He.eqO_ok h4, of_decide_eq_true h5⟩
/-- what such an __init__ does -/
def sp_at (K : Fg) : Sp := fun vs H Q E => ∃ (a C : Addr) (v : V), vs = [.ref a, v] ∧ OexC K C ∧ PySem.W.findIn K (.ref C) "at" = some none ∧ H a = some (exo a C none) ∧ ∀ dx, H dx = none → dx ≠ a → Q .non (upd (upd H dx (exd dx [("at", v)])) a (exo a C (some dx)))
/-- the __init__ of such a class, by its promise -/
structure GoodI (P : Program) (w : World) (K : Fg) (mg : Str → Option Value) (base : Heap) (CX : CXT) (k : Nat) (f : Addr) : Prop where
  ex : ∃ fd, FnOk P w K mg base CX k f fd ["self", "at"] (sp_at K) ∧ Binds K fd ["self", "at"] []
theorem mkA_eq {H : Hp} {a d C : Addr} {v : V} (ha : H a = none) (ne : d ≠ a) : upd (del (upd (upd (upd H a (exo a C none)) d (exd d [("at", v)])) a (exo a C (some d))) a) d (.xd [("at", v)]) = upd H d (.xd [("at", v)]) := by
  funext b
  by_cases c : b = d
  · subst c
    rw [upd_same, upd_same]
  · rw [upd_ne c, upd_ne c]
    by_cases c2 : b = a
    · subst c2
      rw [del_same, ha]
    · rw [del_ne c2, upd_ne c2, upd_ne c, upd_ne c2]
theorem pmk_at {X : Cx} {k : Nat} {x : Str} {C fI : Addr} {e : Expr} {te : TE} {p pos : Pos} (T : AtC X.K C fI) (F : GoodI X.prog X.w X.K X.mg X.base CX0 k fI) (hr : Room (k + 1) X.A) (hg : Gl X x) (hm : X.mg x = some (.ref C)) (he : PE X e te)
    (hdb : (x == ("__debug__" : Str)) = false := by decide) (hs : starEach [e] X.env = (false, eval e X.env) :: starEach [] X.env := by rfl) : PMk X (.Call (.Name x p) [e] [] pos) (tMkO C (sp_at X.K) [] (tCons te tNil)) := by
  obtain ⟨fd, F1, b⟩ := F.ex
  exact pmk_oex T.o T.i T.t F1 hr b .nil pass0 hg hm (pa_cons he pa_nil hs) hdb hs rfl
/-- a refusal at a step: the class, and the number at the field -/
def RaiA (K : Fg) (B : Bg) (G H : Hp) (E : XK) (C : Addr) (n : Int) : Prop := ∀ G2 H2 d, Ext K B G H G2 H2 → H2 d = some (.xd [("at", .int n)]) → E (.ref C) (some d) H2
section
variable {K : Fg} {B : Bg} {G G1 H H1 : Hp} {σ : L2.St} {te : TE} {C fI : Addr} {n : Int} {Q : XK}
theorem RaiA.mono (X : Ext K B G H G1 H1) (h : RaiA K B G H Q C n) : RaiA K B G1 H1 Q C n := fun G2 H2 d X2 hd => h G2 H2 d (X.trans X2) hd
theorem mk_at (h : EvD K B te σ G (.int n)) (e : Ok K B G H) (T : AtC K C fI) (k : RaiA K B G H Q C n) : tMkO C (sp_at K) [] (tCons te tNil) σ H Q :=
  h H e _ fun v G1 H1 X1 dv => by
    obtain rfl := dp_int dv
    refine ⟨Nat.le_of_ble_eq_true rfl, fun a ha => ⟨a, C, .int n, rfl, T.o, T.no, upd_same, fun d hd ne => ?_⟩⟩
    rw [upd_ne ne] at hd
    refine ⟨rfl, d, [("at", .int n)], upd_same, ?_, hd, ?_⟩
    · rw [upd_ne ne, upd_same]
    · rw [mkA_eq ha ne]
      exact k G1 _ d (X1.trans (Ext.loose X1.ok hd)) upd_same
end
end Lw

namespace Lw
open PySem.Spec PySem L2 PyProof.Rows
open Evl (Ex Ex.refl Ex.trans Ex.new Ex.off ex_rd ex_l ex_t)
/-! texts: items, parts, sign by sign; dicts of one's own with texts for keys; what is drawn -/
section
variable {K : Fg} {B : Bg} {G G' H : Hp} {σ : L2.St} {te ta tb : TE} {tr : TA} {d : PyData} {ds es : List PyData} {D : Ends} {t u : TS} {a b : Str} {ys : List Str}
theorem rd_ixS {i : Int} {c : Nat} (h : atI (TL.tl a) i = some c) (hl : a.length ≤ 100000) : RvD K B rIxS G (.str a) (.int i) (.str ⟨#[c]⟩) := fun u v G2 H2 _ e du dv Q q => ⟨a, i, c, dp_str du, dp_int dv, sz hl, h, q.here e (.str _)⟩
theorem ed_slS {tl th : TO} {lo hi : Option Int} (h : EvD K B te σ G (.str a)) (h1 : EvO K B tl σ G lo) (h2 : EvO K B th σ G hi) (hl : a.length ≤ 100000) : EvD K B (tSl rSlS te tl th) σ G (.str (cutS a lo hi)) := fun H e Q q =>
  h H e _ fun v G2 H2 X dv => h1.mono X.gg e.c H2 X.ok _ fun G3 H3 X3 => h2.mono (X.gg.trans X3.gg) e.c H3 X3.ok _ fun G4 H4 X4 => by
    obtain rfl := dp_str dv
    exact ⟨a, rfl, sz hl, q _ G4 H4 (X.trans (X3.trans X4)) (.str _)⟩
theorem rd_sign {c : Nat} {z : Str} : RvD K B (fun x y H Q => ∃ (c : Nat) (z : Str), x = .str ⟨#[c]⟩ ∧ y = .str z ∧ Q (.bl (!decide (c ∈ z.cps.toList))) H) G (.str ⟨#[c]⟩) (.str z) (.bool (!decide (c ∈ TL.tl z))) := fun u v G2 H2 _ e du dv Q q => ⟨c, z, dp_str du, dp_str dv, q.here e (.bl _)⟩
/-- for c in s -/
theorem sq_forS {i : Nat} {Pv : Nat → L2.St → Hp → Hp → Prop} (h : EvD K B te σ G (.str a)) (e : Ok K B G H) (h0 : ∀ G2 H2, Ext K B G H G2 H2 → Pv 0 σ G2 H2)
    (hs : ∀ G1 H1, Ext K B G H G1 H1 → ∀ (j c : Nat) σ' G' H', (TL.tl a)[j]? = some c → Ext K B G1 H1 G' H' → Pv j σ' G' H' →
      t (lpE D u fun σ2 H2 => ∃ G2, Ext K B G1 H1 G2 H2 ∧ Pv (j + 1) σ2 G2 H2) (σ'.set i (some (.str ⟨#[c]⟩))) H')
    (hd : ∀ σ' G' H', Ext K B G H G' H' → Pv (TL.tl a).length σ' G' H' → u D σ' H') : tSeq (tFor (iStr te) (gName i) t) u D σ H :=
  h H e _ fun v G1 H1 X dv => by
    obtain rfl := dp_str dv
    refine ⟨a, rfl, for_it walk_str (fun j σ' H' => ∃ G', Ext K B G1 H1 G' H' ∧ Pv j σ' G' H') ⟨G1, Ext.refl X.ok, h0 G1 H1 X⟩ (fun _ _ _ _ _ => trivial) ?_ ?_⟩
    · rintro j x σ' H' H2 hj ⟨G', X', p⟩ ⟨rfl, c, hc, rfl⟩
      exact hs G1 H1 X j c σ' G' _ (by rw [← hc]; exact Array.getElem?_toList) X' p
    · rintro σ' H' ⟨G', X', p⟩
      exact hd σ' G' H' (X.trans X') (by rw [show (TL.tl a).length = a.cps.size from Array.length_toList]; exact p)
theorem rd_notInTI {ns : List Int} {n : Int} : RvD K B (rNotInTD K) G (.int n) (.tuple (ns.map PyData.int)) (.bool (!decide (n ∈ ns))) := fun u v G2 H2 _ e du dv Q q =>
  ⟨.int n, ns.map PyData.int, dp_mono e.e du, dp_mono e.e dv, shp_int n, shp_enc ns, by rw [any_int]; exact q.here e (.bl _)⟩
/-! ### a dict of one's own, texts for keys, numbers for values -/
def kvS (kvs : List (Str × Int)) : List (Key × V) := kvs.map fun q => (Sum.inr q.1, V.int q.2)
theorem valS_no : ∀ {kvs : List (Str × Int)} {z : Str}, z ∉ kvs.map (·.1) → valV (kvS kvs) (Sum.inr z) = none
  | [], _, _ => rfl
  | q :: r, z, h => by
    have h1 : q.1 ≠ z := fun e => h (by rw [← e]; exact List.mem_cons_self)
    have h2 : z ∉ r.map (·.1) := fun m => h (List.mem_cons_of_mem _ m)
    have ih := valS_no h2
    unfold valV kvS at ih ⊢
    rw [List.map_cons, List.find?_cons, show decide ((Sum.inr q.1 : Key) = Sum.inr z) = false from decide_eq_false fun e => h1 (Sum.inr.inj e)]
    exact ih
theorem valS_is : ∀ {kvs : List (Str × Int)} {z : Str} {n : Int}, (kvs.map (·.1)).Nodup → (z, n) ∈ kvs → valV (kvS kvs) (Sum.inr z) = some (.int n)
  | q :: r, z, n, nd, h => by
    have nd := List.nodup_cons.mp nd
    rcases mem_c h with rfl | h
    · unfold valV kvS
      rw [List.map_cons, List.find?_cons, show decide ((Sum.inr z : Key) = Sum.inr z) = true from decide_eq_true rfl]
      rfl
    · have h1 : q.1 ≠ z := fun e => nd.1 (show q.1 ∈ _ from e ▸ List.mem_map.mpr ⟨(z, n), h, rfl⟩)
      have ih := valS_is nd.2 h
      unfold valV kvS at ih ⊢
      rw [List.map_cons, List.find?_cons, show decide ((Sum.inr q.1 : Key) = Sum.inr z) = false from decide_eq_false fun e => h1 (Sum.inr.inj e)]
      exact ih
theorem ed_notInD {p : Addr} {kvs : List (Str × Int)} {i : Nat} {z : Str} (h : EvD K B ta σ G (.str z)) (hσ : σ[i]? = some (some (.ref p))) (hp : G p = some (.dK (kvS kvs))) (nd : (kvs.map (·.1)).Nodup) : EvD K B (tDNotIn ta (tVar i)) σ G (.bool (!decide (z ∈ kvs.map (·.1)))) := fun H e Q q =>
  h H e _ fun v G2 H2 X dv => by
    obtain rfl := dp_str dv
    refine ⟨.ref p, hσ, p, valV (kvS kvs) (Sum.inr z), rfl, DGet.k (k := Sum.inr z) (X.ok.e _ _ (X.gg _ _ hp)), ?_⟩
    have e1 : (valV (kvS kvs) (Sum.inr z)).isSome = decide (z ∈ kvs.map (·.1)) := by
      by_cases c : z ∈ kvs.map (·.1)
      · obtain ⟨⟨z', n⟩, hr, rfl⟩ := List.mem_map.mp c
        rw [valS_is nd hr, decide_eq_true c]
        rfl
      · rw [valS_no c, decide_eq_false c]
        rfl
    rw [e1]
    exact q _ G2 H2 X (.bl _)
theorem ed_getD {p : Addr} {kvs : List (Str × Int)} {i : Nat} {z : Str} {n : Int} (h : EvD K B ta σ G (.str z)) (hσ : σ[i]? = some (some (.ref p))) (hp : G p = some (.dK (kvS kvs))) (nd : (kvs.map (·.1)).Nodup) (hz : (z, n) ∈ kvs) : EvD K B (tDGet (tVar i) ta) σ G (.int n) := fun H e Q q =>
  ⟨.ref p, hσ, h H e _ fun v G2 H2 X dv => by
    obtain rfl := dp_str dv
    refine ⟨p, .int n, rfl, ?_, q _ G2 H2 X (.int _)⟩
    rw [← valS_is nd hz]
    exact DGet.k (k := Sum.inr z) (X.ok.e _ _ (X.gg _ _ hp))⟩
/-! ### texts that are drawn -/
def isT (n : Nat) (d : PyData) : Prop := ∃ a : Str, d = .str a ∧ a.length ≤ n ∧ Asc a
theorem asc_app {a b : Str} (ha : Asc a) (hb : Asc b) : Asc (a ++ b) := fun c hc => by
  rw [TL.tl_append] at hc
  rcases mem_or hc with h | h
  · exact ha c h
  · exact hb c h
theorem tl_cut (a : Str) (lo hi : Option Int) : TL.tl (cutS a lo hi) = ((TL.tl a).drop (HT.sIx a.length 0 lo)).take (HT.sIx a.length a.length hi - HT.sIx a.length 0 lo) := rfl
theorem asc_cut {a : Str} {lo hi : Option Int} (ha : Asc a) : Asc (cutS a lo hi) := fun c hc => by
  rw [tl_cut] at hc
  exact ha c (List.mem_of_mem_drop (List.mem_of_mem_take hc))
theorem len_app (a b : Str) : (a ++ b).length = a.length + b.length := by
  rw [TL.len_tl, TL.tl_append, List.length_append, ← TL.len_tl, ← TL.len_tl]
/-- a text in two parts, some signs between left out -/
theorem len_cut2 (a : Str) {i k : Int} (h0 : 0 ≤ i) (h1 : i ≤ k) : (cutS a none (some i)).length + (cutS a (some k) none).length ≤ a.length := by
  rw [TL.len_tl, TL.len_tl, tl_cut, tl_cut, TL.len_tl a]
  generalize TL.tl a = l
  have e1 : HT.sIx l.length l.length (some i) = min i.toNat l.length := by
    unfold HT.sIx
    simp only
    split <;> omega
  have e2 : HT.sIx l.length 0 (some k) = min k.toNat l.length := by
    unfold HT.sIx
    simp only
    split <;> omega
  rw [e1, e2]
  simp only [List.length_take, List.length_drop]
  omega
end
/-! ### joined parts by their lengths -/
theorem joinL_len {S : List Nat} : ∀ {ps : List (List Nat)}, ps ≠ [] → (TL.joinL S ps).length + S.length = (ps.map List.length).sum + ps.length * S.length
  | [], h => absurd rfl h
  | [p], _ => by
    show p.length + S.length = _
    simp
  | p :: q :: r, _ => by
    have ih := joinL_len (S := S) (ps := q :: r) (List.cons_ne_nil _ _)
    show (p ++ (S ++ TL.joinL S (q :: r))).length + S.length = _
    rw [List.length_append, List.length_append, List.map_cons, List.sum_cons, show (p :: q :: r).length = (q :: r).length + 1 from rfl, Nat.add_mul, Nat.one_mul]
    omega
theorem joinL_mem {S : List Nat} {c : Nat} {p : List Nat} (hc : c ∈ p) : ∀ {ps : List (List Nat)}, p ∈ ps → c ∈ TL.joinL S ps
  | [q], h => by
    rw [mem_1 h] at hc
    exact hc
  | q :: r :: t, h => by
    show c ∈ q ++ (S ++ TL.joinL S (r :: t))
    rcases mem_c h with rfl | h
    · exact List.mem_append_left _ hc
    · exact List.mem_append_right _ (List.mem_append_right _ (joinL_mem hc h))
theorem joinL_asc {S : List Nat} (hS : ∀ c ∈ S, c < 128) : ∀ {ps : List (List Nat)}, (∀ p ∈ ps, ∀ c ∈ p, c < 128) → ∀ c ∈ TL.joinL S ps, c < 128
  | [], _, c, h => by cases h
  | [q], hp, c, h => hp q List.mem_cons_self c h
  | q :: r :: t, hp, c, h => by
    have h : c ∈ q ++ (S ++ TL.joinL S (r :: t)) := h
    rcases mem_or h with h | h
    · exact hp q List.mem_cons_self c h
    · rcases mem_or h with h | h
      · exact hS c h
      · exact joinL_asc hS (fun p m => hp p (List.mem_cons_of_mem _ m)) c h
theorem join_asc {ps : List Str} (h : ∀ p ∈ ps, Asc p) : Asc (Txt.join " " ps) := fun c hc => by
  rw [TL.join_eq, TL.tl_join] at hc
  refine joinL_asc (S := TL.tl " ") (by decide) (fun p hp c hc => ?_) c hc
  obtain ⟨s0, hs0, rfl⟩ := List.mem_map.mp hp
  exact h s0 hs0 c hc
theorem join_len_eq {ps : List Str} (h : ps ≠ []) : (Txt.join " " ps).length + 1 = (ps.map (·.length)).sum + ps.length := by
  have z := joinL_len (S := TL.tl " ") (ps := ps.map TL.tl) (fun e => h (List.map_eq_nil_iff.mp e))
  have e1 : (TL.tl " ").length = 1 := by rfl
  rw [e1, List.length_map, Nat.mul_one, List.map_map] at z
  rw [TL.len_tl, TL.join_eq, TL.tl_join]
  have e2 : ps.map (List.length ∘ TL.tl) = ps.map (·.length) := List.map_congr_left fun p _ => (TL.len_tl p).symm
  rw [e2] at z
  exact z
/-- a text's words: what they come to -/
theorem split_words (a : Str) : ∃ w r, Txt.split a " " = w :: r ∧ ((Txt.split a " ").map (·.length)).sum + (Txt.split a " ").length = a.length + 1 := by
  have j := PySem.StrLaws.join_split a " "
  cases h : Txt.split a " " with
  | nil =>
    exfalso
    have z := TL.split_spl a " " (by decide +kernel) (TL.kind_ok (by decide +kernel))
    rw [h] at z
    have : ∀ (S : List Nat) (k : Nat) (acc l : List Nat), TL.spl S k acc l ≠ [] := fun S k acc l => by
      induction l generalizing k acc with
      | nil => rw [TL.spl_nil]; exact List.cons_ne_nil _ _
      | cons c l ih =>
        cases k with
        | zero =>
          by_cases q : TL.pre S (c :: l) = true
          · rw [TL.spl_hit q]; exact List.cons_ne_nil _ _
          · rw [TL.spl_miss (Bool.eq_false_iff.mpr q)]; exact ih _ _
        | succ k => exact ih k acc
    exact this _ _ _ _ z.symm
  | cons w r =>
    refine ⟨w, r, rfl, ?_⟩
    rw [h] at j
    have z := join_len_eq (ps := w :: r) (List.cons_ne_nil _ _)
    rw [TL.join_eq, j] at z
    exact z.symm
theorem split_asc {a : Str} (ha : Asc a) : ∀ w ∈ Txt.split a " ", Asc w := fun w hw c hc => by
  have j := PySem.StrLaws.join_split a " "
  refine ha c ?_
  rw [← j, TL.tl_join]
  exact joinL_mem hc (List.mem_map.mpr ⟨w, hw, rfl⟩)
theorem le_sum {x : Nat} : ∀ {l : List Nat}, x ∈ l → x ≤ l.sum
  | y :: l, h => by
    rw [List.sum_cons]
    rcases mem_c h with rfl | h
    · exact Nat.le_add_right _ _
    · exact Nat.le_trans (le_sum h) (Nat.le_add_left _ _)
theorem split_small (a : Str) : (Txt.split a " ").length ≤ a.length + 1 ∧ ∀ w ∈ Txt.split a " ", w.length ≤ a.length + 1 := by
  obtain ⟨_, _, _, z⟩ := split_words a
  refine ⟨by omega, fun w hw => ?_⟩
  have := le_sum (List.mem_map.mpr ⟨w, hw, rfl⟩ : w.length ∈ (Txt.split a " ").map (·.length))
  omega
/-! ### figures -/
theorem figs3 : ∀ a b c : Fin 10, (TL.numL (a.val * 100 + b.val * 10 + c.val) = [48 + a.val, 48 + b.val, 48 + c.val]) ↔ a.val ≠ 0 := by decide +kernel
theorem figs2 : ∀ b c : Fin 10, (TL.numL (b.val * 10 + c.val) = [48 + b.val, 48 + c.val]) ↔ b.val ≠ 0 := by decide +kernel
theorem figs1 : ∀ c : Fin 10, TL.numL c.val = [48 + c.val] := by decide +kernel
/-- one to three figures are a number's text just where no nought stands ahead of others -/
theorem canon {a : Str} (h : NumText.AllDigits (TL.tl a)) (h0 : TL.tl a ≠ []) (h3 : a.length ≤ 3) : txtOf (valT a) = a ↔ (a.length ≤ 1 ∨ atI (TL.tl a) 0 ≠ some 48) := by
  have key : txtOf (valT a) = a ↔ TL.numL (NumText.digitsVal (TL.tl a)) = TL.tl a := by
    unfold valT
    constructor
    · intro e
      have := congrArg TL.tl e
      rw [tl_txt] at this
      exact this
    · intro e
      exact TL.ext_tl (by rw [tl_txt]; exact e)
  rw [key]
  rw [TL.len_tl] at h3 ⊢
  generalize TL.tl a = l at h h0 h3
  match l, h, h0, h3 with
  | [], _, h0, _ => exact absurd rfl h0
  | [c], h, _, _ =>
    have hc := h c List.mem_cons_self
    have z := figs1 ⟨c - 48, by omega⟩
    have e : NumText.digitsVal [c] = c - 48 := by
      show 0 * 10 + (c - 48) = c - 48
      omega
    rw [e]
    have e2 : 48 + (c - 48) = c := by omega
    have z : TL.numL (c - 48) = [48 + (c - 48)] := z
    rw [e2] at z
    exact ⟨fun _ => .inl (Nat.le_refl 1), fun _ => z⟩
  | [b, c], h, _, _ =>
    have hb := h b List.mem_cons_self
    have hc := h c (List.mem_cons_of_mem _ List.mem_cons_self)
    have z := figs2 ⟨b - 48, by omega⟩ ⟨c - 48, by omega⟩
    have e : NumText.digitsVal [b, c] = (b - 48) * 10 + (c - 48) := by
      show (0 * 10 + (b - 48)) * 10 + (c - 48) = _
      omega
    rw [e]
    have e2 : 48 + (b - 48) = b := by omega
    have e3 : 48 + (c - 48) = c := by omega
    have z : TL.numL ((b - 48) * 10 + (c - 48)) = [48 + (b - 48), 48 + (c - 48)] ↔ b - 48 ≠ 0 := z
    rw [e2, e3] at z
    rw [z]
    have at0 : atI [b, c] 0 = some b := by rfl
    rw [at0]
    constructor
    · intro n
      exact .inr fun q => n (by have := Option.some.inj q; omega)
    · rintro (n | n)
      · exact absurd n (by show ¬ 2 ≤ 1; decide)
      · exact fun q => n (congrArg some (by omega))
  | [a', b, c], h, _, _ =>
    have ha := h a' List.mem_cons_self
    have hb := h b (List.mem_cons_of_mem _ List.mem_cons_self)
    have hc := h c (List.mem_cons_of_mem _ (List.mem_cons_of_mem _ List.mem_cons_self))
    have z := figs3 ⟨a' - 48, by omega⟩ ⟨b - 48, by omega⟩ ⟨c - 48, by omega⟩
    have e : NumText.digitsVal [a', b, c] = (a' - 48) * 100 + (b - 48) * 10 + (c - 48) := by
      show ((0 * 10 + (a' - 48)) * 10 + (b - 48)) * 10 + (c - 48) = _
      omega
    rw [e]
    have e1 : 48 + (a' - 48) = a' := by omega
    have e2 : 48 + (b - 48) = b := by omega
    have e3 : 48 + (c - 48) = c := by omega
    have z : TL.numL ((a' - 48) * 100 + (b - 48) * 10 + (c - 48)) = [48 + (a' - 48), 48 + (b - 48), 48 + (c - 48)] ↔ a' - 48 ≠ 0 := z
    rw [e1, e2, e3] at z
    rw [z]
    have at0 : atI [a', b, c] 0 = some a' := by rfl
    rw [at0]
    constructor
    · intro n
      exact .inr fun q => n (by have := Option.some.inj q; omega)
    · rintro (n | n)
      · exact absurd n (by show ¬ 3 ≤ 1; decide)
      · exact fun q => n (congrArg some (by omega))
  | _ :: _ :: _ :: _ :: r, _, _, h3 =>
    simp only [List.length_cons] at h3
    omega
/-- whether a word is one to three figures, no nought ahead of others -/
def figB (a : Str) : Bool := (decide ((a.length : Int) ∈ [1, 2, 3]) && !(decide ((1 : Int) < (a.length : Int)) && decide (atI (TL.tl a) 0 = some 48))) && (TL.tl a).all fun c => decide (c ∈ TL.tl "0123456789")
theorem sign_dig : ∀ c, c ∈ TL.tl "0123456789" ↔ (48 ≤ c ∧ c ≤ 57) := fun c => by
  have e : TL.tl "0123456789" = [48, 49, 50, 51, 52, 53, 54, 55, 56, 57] := by rfl
  rw [e]
  simp only [List.mem_cons, List.not_mem_nil, or_false]
  omega
theorem fig_num {a : Str} (ha : Asc a) : figB a = numB a := by
  by_cases hd : NumText.AllDigits (TL.tl a)
  · by_cases h0 : TL.tl a = []
    · have l0 : a.length = 0 := by rw [TL.len_tl, h0]; rfl
      have e1 : figB a = false := by
        unfold figB
        rw [l0]
        rfl
      have e2 : numB a = false := by
        unfold numB
        have : Txt.isdecimal a = false := by
          show (decide (a.length > 0) && _) = false
          rw [l0]
          rfl
        rw [this]
        rfl
      rw [e1, e2]
    · have al : ((TL.tl a).all fun c => decide (c ∈ TL.tl "0123456789")) = true := List.all_eq_true.mpr fun c hc => decide_eq_true ((sign_dig c).mpr (hd c hc))
      have l1 : 1 ≤ a.length := by
        rw [TL.len_tl]
        exact List.length_pos_iff.mpr h0
      unfold figB numB
      rw [al, digits_dec hd h0, Bool.and_true, Bool.true_and]
      by_cases l3 : a.length ≤ 3
      · have cn := canon hd h0 l3
        have m : (a.length : Int) ∈ ([1, 2, 3] : List Int) := by
          simp only [List.mem_cons, List.not_mem_nil, or_false]
          omega
        rw [decide_eq_true m, decide_eq_true (show (a.length : Int) ≤ 3 by omega), Bool.true_and, Bool.true_and]
        by_cases c : txtOf (valT a) = a
        · rw [decide_eq_true c]
          rcases cn.mp c with q | q
          · rw [decide_eq_false (show ¬ (1 : Int) < (a.length : Int) by omega)]
            rfl
          · rw [decide_eq_false q, Bool.and_false]
            rfl
        · rw [decide_eq_false c]
          have nq : ¬ (a.length ≤ 1 ∨ atI (TL.tl a) 0 ≠ some 48) := fun z => c (cn.mpr z)
          have q1 : ¬ a.length ≤ 1 := fun z => nq (.inl z)
          have q2 : atI (TL.tl a) 0 = some 48 := Classical.byContradiction fun z => nq (.inr z)
          rw [decide_eq_true (show (1 : Int) < (a.length : Int) by omega), decide_eq_true q2]
          rfl
      · rw [decide_eq_false (show ¬ (a.length : Int) ≤ 3 by omega), decide_eq_false]
        · rfl
        · simp only [List.mem_cons, List.not_mem_nil, or_false]
          omega
  · have e1 : ((TL.tl a).all fun c => decide (c ∈ TL.tl "0123456789")) = false := by
      cases q : (TL.tl a).all fun c => decide (c ∈ TL.tl "0123456789") with
      | false => rfl
      | true => exact absurd (fun c hc => (sign_dig c).mp (of_decide_eq_true (List.all_eq_true.mp q c hc))) hd
    have e2 : Txt.isdecimal a = false := by
      cases q : Txt.isdecimal a with
      | false => rfl
      | true => exact absurd (dec_digits q ha).1 hd
    unfold figB numB
    rw [e1, e2, Bool.and_false]
    rfl
end Lw

namespace Lw
open PySem.Spec PySem L2 PyProof.Rows
open Evl (Ex Ex.refl Ex.trans Ex.new Ex.off ex_rd ex_l ex_t)
/-! lists made anew of drawn items: put together, cut, joined to texts -/
section
variable {K : Fg} {B : Bg} {G G' H : Hp} {σ : L2.St} {te ta tb ti : TE} {tr : TA} {d : PyData} {ds es : List PyData} {D : Ends} {t u : TS} {S S1 S2 : List PyData → Prop}
theorem EvFS.mono (e : Ex G G') (c : Cel K B G) (h : EvFS K B te σ G S) : EvFS K B te σ G' S := fun H eH Q q =>
  h H (eH.less e c) Q fun p xs ds G2 H2 s X hp hg nb h2 a => by
    obtain ⟨X2, e2⟩ := X.wide e eH
    exact q p xs ds _ H2 s X2 hp (join_none (eH.e.off hp) hg) nb h2 (dpAll_mono e2 a)
theorem EvF.toFS (h : EvF K B te σ G ds) (hs : S ds) : EvFS K B te σ G S := fun H e Q q => h H e Q fun p xs G2 H2 X hp hg nb h2 a => q p xs ds G2 H2 hs X hp hg nb h2 a
theorem ef_slL {tl th : TO} {lo hi : Option Int} (h : EvD K B te σ G (.list ds)) (h1 : EvO K B tl σ G lo) (h2 : EvO K B th σ G hi) : EvF K B (tSl (rSlL K) te tl th) σ G (Lw.cutD ds lo hi) := fun H e Q q =>
  h H e _ fun v G2 H2 X dv => h1.mono X.gg e.c H2 X.ok _ fun G3 H3 X3 => h2.mono (X.gg.trans X3.gg) e.c H3 X3.ok _ fun G4 H4 X4 => by
    obtain ⟨a, xs, rfl, hs, hx⟩ := dp_lst (dp_mono (X3.gg.trans X4.gg) dv)
    have Y := X.trans (X3.trans X4)
    refine ⟨a, xs, rfl, ex_l X4.ok.e hs, fun p hp => ?_⟩
    have nb := Y.ok.b.ne hp
    exact q p _ G4 _ (Y.trans (Ext.loose Y.ok hp)) (Y.old nb hp) (Y.ok.e.off hp) nb upd_same (dpAll_cut hx)
theorem efs_slL {P : Int → Prop} (h : EvD K B te σ G (.list ds)) (hi : EvS K B ti σ G (fun d => ∃ i : Int, d = .int i ∧ P i)) : EvFS K B (tSl (rSlL K) te (tPart ti) tNoPart) σ G (fun l => ∃ i, P i ∧ l = Lw.cutD ds (some i) none) := fun H e Q q =>
  h H e _ fun v G2 H2 X dv => hi.mono X.gg e.c H2 X.ok _ fun d w G3 H3 s X3 dw => by
    obtain ⟨i, rfl, pi⟩ := s
    obtain rfl := dp_int dw
    refine ⟨i, rfl, ?_⟩
    obtain ⟨a, xs, rfl, hs, hx⟩ := dp_lst (dp_mono X3.gg dv)
    have Y := X.trans X3
    refine ⟨a, xs, rfl, ex_l X3.ok.e hs, fun p hp => ?_⟩
    have nb := Y.ok.b.ne hp
    exact q p _ _ G3 _ ⟨i, pi, rfl⟩ (Y.trans (Ext.loose Y.ok hp)) (Y.old nb hp) (Y.ok.e.off hp) nb upd_same (dpAll_cut hx)
theorem efs_lst1 {S0 : PyData → Prop} (h : EvS K B te σ G S0) : EvFS K B (tLst (tCons te tNil)) σ G (fun l => ∃ x, S0 x ∧ l = [x]) := fun H e Q q =>
  h H e _ fun d v G2 H2 s X dv => ⟨Nat.le_of_ble_eq_true rfl, fun p hp => by
    have nb := X.ok.b.ne hp
    exact q p [v] [d] G2 _ ⟨d, s, rfl⟩ (X.trans (Ext.loose X.ok hp)) (X.old nb hp) (X.ok.e.off hp) nb upd_same (.cons dv .nil)⟩
theorem efs_cat2 (ha : EvFS K B ta σ G S1) (hb : EvFS K B tb σ G S2) (hl : ∀ x y, S1 x → S2 y → x.length + y.length ≤ 100000) : EvFS K B (tOp rCat ta tb) σ G (fun l => ∃ x y, S1 x ∧ S2 y ∧ l = x ++ y) := fun H e Q q =>
  ha H e _ fun p xs d1 G1 H1 s1 X1 hp g1 nb h1 a1 => hb.mono X1.gg e.c H1 X1.ok _ fun o ys d2 G2 H2 s2 X2 ho g2 nb2 h2 a2 => by
    refine ⟨p, o, xs, ys, rfl, rfl, X2.hh p _ nb h1, h2, ?_, fun r hr => ?_⟩
    · rw [dpAll_len a1, dpAll_len a2]
      exact sz (hl _ _ s1 s2)
    · have n3 := X2.ok.b.ne hr
      have Y := X1.trans X2
      exact q r _ _ G2 _ ⟨_, _, s1, s2, rfl⟩ (Y.trans (Ext.loose Y.ok hr)) (Y.old n3 hr) (Y.ok.e.off hr) n3 upd_same (dpAll_app (dpAll_mono X2.gg a1) a2)
theorem es_joinFS {a : Str} (h : EvFS K B te σ G S) (hS : ∀ l, S l → ∃ ys : List Str, l = ys.map PyData.str ∧ (ys.map (·.length)).sum + ys.length * a.length ≤ 16777216) : EvS K B (tM1 (rJoin K) (tC (.str a)) te) σ G (fun d => ∃ ys : List Str, S (ys.map PyData.str) ∧ d = .str (Txt.join a ys)) := fun H e Q q =>
  ⟨⟨a, rfl⟩, h H e _ fun p xs ds G2 H2 s X hp hg nb h2 ax => by
    obtain ⟨ys, rfl, sm⟩ := hS ds s
    obtain rfl := dpAll_strs ax
    exact ⟨a, p, ys, rfl, rfl, .inl (SqL.of h2), sm, q _ _ G2 H2 ⟨ys, s, rfl⟩ X (.str _)⟩⟩
/-- for x in range(n), n drawn -/
theorem st_drawnR {i : Nat} {S0 : PyData → Prop} (h : EvS K B te σ G S0) (e : Ok K B G H) (k : ∀ d v G1 H1, S0 d → Ext K B G H G1 H1 → Dp K G1 v d → tSeq (tFor (iRng1 (tCons (tC v) tNil)) (gName i) t) u D σ H1) : tSeq (tFor (iRng1 (tCons te tNil)) (gName i) t) u D σ H :=
  h H e _ fun d v G1 H1 s X dv => k d v G1 H1 s X dv
end
end Lw


namespace K47
open PySem.Spec PySem L2 PyProof.Rows Lw
open Evl (Ex Ex.refl Ex.trans Ex.new Ex.off ex_rd ex_l ex_t)
set_option maxHeartbeats 0
def top (i : Nat) : Stmt := PySem.Challenge.pw_leadlight_k47_lines_read_or_refused.main.body.getD i (.Pass ⟨0, 0, 0, 0⟩)
abbrev s_is_number : Stmt := top 7
def d_is_number : He.DefD := ⟨("is_number", none), "is_number", "is_number", defArgs s_is_number, defBody s_is_number, defScope s_is_number, [], []⟩
abbrev s_are_numbers : Stmt := top 8
def d_are_numbers : He.DefD := ⟨("are_numbers", none), "are_numbers", "are_numbers", defArgs s_are_numbers, defBody s_are_numbers, defScope s_are_numbers, [], []⟩
abbrev s_read_deed : Stmt := top 9
def d_read_deed : He.DefD := ⟨("read_deed", none), "read_deed", "read_deed", defArgs s_read_deed, defBody s_read_deed, defScope s_read_deed, [], []⟩
abbrev s__law_bag : Stmt := top 11
def d__law_bag : He.DefD := ⟨("_law_bag", none), "_law_bag", "_law_bag", defArgs s__law_bag, defBody s__law_bag, defScope s__law_bag, [], []⟩
abbrev s__law_pull : Stmt := top 12
def d__law_pull : He.DefD := ⟨("_law_pull", none), "_law_pull", "_law_pull", defArgs s__law_pull, defBody s__law_pull, defScope s__law_pull, [], []⟩
abbrev s__law_whole : Stmt := top 13
def d__law_whole : He.DefD := ⟨("_law_whole", none), "_law_whole", "_law_whole", defArgs s__law_whole, defBody s__law_whole, defScope s__law_whole, [], []⟩
abbrev s__law_same : Stmt := top 14
def d__law_same : He.DefD := ⟨("_law_same", none), "_law_same", "_law_same", defArgs s__law_same, defBody s__law_same, defScope s__law_same, [], []⟩
abbrev s__law_figures : Stmt := top 15
def d__law_figures : He.DefD := ⟨("_law_figures", none), "_law_figures", "_law_figures", defArgs s__law_figures, defBody s__law_figures, defScope s__law_figures, [], []⟩
abbrev s__law_deed_in : Stmt := top 16
def d__law_deed_in : He.DefD := ⟨("_law_deed_in", none), "_law_deed_in", "_law_deed_in", defArgs s__law_deed_in, defBody s__law_deed_in, defScope s__law_deed_in, [], []⟩
abbrev s__law_line : Stmt := top 17
def d__law_line : He.DefD := ⟨("_law_line", none), "_law_line", "_law_line", defArgs s__law_line, defBody s__law_line, defScope s__law_line, [], []⟩
abbrev s__law_plain : Stmt := top 18
def d__law_plain : He.DefD := ⟨("_law_plain", none), "_law_plain", "_law_plain", defArgs s__law_plain, defBody s__law_plain, defScope s__law_plain, [], []⟩
abbrev s__law_spoilt : Stmt := top 19
def d__law_spoilt : He.DefD := ⟨("_law_spoilt", none), "_law_spoilt", "_law_spoilt", defArgs s__law_spoilt, defBody s__law_spoilt, defScope s__law_spoilt, [], []⟩
abbrev s__law_told : Stmt := top 20
def d__law_told : He.DefD := ⟨("_law_told", none), "_law_told", "_law_told", defArgs s__law_told, defBody s__law_told, defScope s__law_told, [], []⟩
abbrev s_law : Stmt := top 21
def d_law : He.DefD := ⟨("law", none), "law", "law", defArgs s_law, defBody s_law, defScope s_law, [], []⟩
abbrev s_AtStep_init : Stmt := mth (top 2) 0
def d_AtStep_init : He.DefD := ⟨("AtStep", some "__init__"), "__init__", "AtStep.__init__", defArgs s_AtStep_init, defBody s_AtStep_init, defScope s_AtStep_init, [], []⟩
def fn : List He.DefD := [d_is_number, d_are_numbers, d_read_deed, d__law_bag, d__law_pull, d__law_whole, d__law_same, d__law_figures, d__law_deed_in, d__law_line, d__law_plain, d__law_spoilt, d__law_told, d_law, d_AtStep_init]
def fa0 : List He.Fa := [.glo "LeadError", .glo "AtStep", .glo "BadText", .glo "COUNTS", .glo "is_number", .glo "are_numbers", .glo "read_deed", .glo "_law_bag", .glo "_law_pull", .glo "_law_whole", .glo "_law_same", .glo "_law_figures", .glo "_law_deed_in", .glo "_law_line", .glo "_law_plain", .glo "_law_spoilt", .glo "_law_told", .glo "law", .free "ValueError", .free "all", .free "bool", .free "int", .free "isinstance", .free "len", .free "list", .free "range", .free "str", .free "tuple", .int "MOST_FIGURES" 3, .exc "LeadError"]
def fa : List He.Fa := fa0
def ts : List He.Tab := [(fun K => He.ga K "COUNTS", ["lay", "pull", "glaze", "shatter"])]
def exL (K : PySem.W.Frag) : List Bool := [He.valsB K (He.ga K "COUNTS") [("lay", .int 4), ("pull", .int 4), ("glaze", .int 2), ("shatter", .int 1)],
  decide (PySem.W.exmOne K (.ref (He.ga K "BadText")) (.ref (He.ga K "BadText")) = some true),
  decide (PySem.W.kitOne K (.ref (He.ga K "BadText")) (.ref (He.ga K "BadText")) = some true),
  decide (PySem.W.kitOne K (.ref (He.ga K "BadText")) (.type "ValueError") = some true),
  excCB K (He.ga K "BadText"),
  atB K (He.ga K "BadText") (He.ma K (He.ga K "AtStep") "__init__")]
def exB (K : PySem.W.Frag) : Bool := (exL K).all id
structure Txt (w : World) (K : PySem.W.Frag) (mg : Str → Option Value) : Prop where
  ex : ∃ h : Heap, K.In h ∧ h.Ns mainGlobals mg
  c : He.SaysD fa fn K
  more : exB K = true
  tb : He.SaysT fa fn ts w K
theorem Txt.of {w : World} {K : PySem.W.Frag} {mg : Str → Option Value} {h : Heap} (X : K.In h) (G : h.Ns mainGlobals mg) (c : He.SaysT fa fn ts w K) (m : exB K = true) : Txt w K mg := ⟨⟨h, X, G⟩, c.d, m, c⟩
theorem Txt.at_ {w : World} {K : PySem.W.Frag} {mg : Str → Option Value} (T : Txt w K mg) (i : Nat) {b : Bool} (h : (exL K)[i]? = some b) : b = true := by
  have z := List.all_eq_true.mp (show (exL K).all id = true from T.more) b (List.mem_of_getElem? h)
  exact z
section
variable {w : World} {K : PySem.W.Frag} {mg : Str → Option Value} (T : Txt w K mg)
include T
theorem Txt.g_LeadError : mg "LeadError" = some (.ref (He.ga K "LeadError")) := by
  obtain ⟨h, X, G⟩ := T.ex
  exact He.glo_ok X G (T.c.fact 0 (f := .glo "LeadError") rfl)
theorem Txt.g_AtStep : mg "AtStep" = some (.ref (He.ga K "AtStep")) := by
  obtain ⟨h, X, G⟩ := T.ex
  exact He.glo_ok X G (T.c.fact 1 (f := .glo "AtStep") rfl)
theorem Txt.g_BadText : mg "BadText" = some (.ref (He.ga K "BadText")) := by
  obtain ⟨h, X, G⟩ := T.ex
  exact He.glo_ok X G (T.c.fact 2 (f := .glo "BadText") rfl)
theorem Txt.g_COUNTS : mg "COUNTS" = some (.ref (He.ga K "COUNTS")) := by
  obtain ⟨h, X, G⟩ := T.ex
  exact He.glo_ok X G (T.c.fact 3 (f := .glo "COUNTS") rfl)
theorem Txt.g_is_number : mg "is_number" = some (.ref (He.ga K "is_number")) := by
  obtain ⟨h, X, G⟩ := T.ex
  exact He.glo_ok X G (T.c.fact 4 (f := .glo "is_number") rfl)
theorem Txt.g_are_numbers : mg "are_numbers" = some (.ref (He.ga K "are_numbers")) := by
  obtain ⟨h, X, G⟩ := T.ex
  exact He.glo_ok X G (T.c.fact 5 (f := .glo "are_numbers") rfl)
theorem Txt.g_read_deed : mg "read_deed" = some (.ref (He.ga K "read_deed")) := by
  obtain ⟨h, X, G⟩ := T.ex
  exact He.glo_ok X G (T.c.fact 6 (f := .glo "read_deed") rfl)
theorem Txt.g__law_bag : mg "_law_bag" = some (.ref (He.ga K "_law_bag")) := by
  obtain ⟨h, X, G⟩ := T.ex
  exact He.glo_ok X G (T.c.fact 7 (f := .glo "_law_bag") rfl)
theorem Txt.g__law_pull : mg "_law_pull" = some (.ref (He.ga K "_law_pull")) := by
  obtain ⟨h, X, G⟩ := T.ex
  exact He.glo_ok X G (T.c.fact 8 (f := .glo "_law_pull") rfl)
theorem Txt.g__law_whole : mg "_law_whole" = some (.ref (He.ga K "_law_whole")) := by
  obtain ⟨h, X, G⟩ := T.ex
  exact He.glo_ok X G (T.c.fact 9 (f := .glo "_law_whole") rfl)
theorem Txt.g__law_same : mg "_law_same" = some (.ref (He.ga K "_law_same")) := by
  obtain ⟨h, X, G⟩ := T.ex
  exact He.glo_ok X G (T.c.fact 10 (f := .glo "_law_same") rfl)
theorem Txt.g__law_figures : mg "_law_figures" = some (.ref (He.ga K "_law_figures")) := by
  obtain ⟨h, X, G⟩ := T.ex
  exact He.glo_ok X G (T.c.fact 11 (f := .glo "_law_figures") rfl)
theorem Txt.g__law_deed_in : mg "_law_deed_in" = some (.ref (He.ga K "_law_deed_in")) := by
  obtain ⟨h, X, G⟩ := T.ex
  exact He.glo_ok X G (T.c.fact 12 (f := .glo "_law_deed_in") rfl)
theorem Txt.g__law_line : mg "_law_line" = some (.ref (He.ga K "_law_line")) := by
  obtain ⟨h, X, G⟩ := T.ex
  exact He.glo_ok X G (T.c.fact 13 (f := .glo "_law_line") rfl)
theorem Txt.g__law_plain : mg "_law_plain" = some (.ref (He.ga K "_law_plain")) := by
  obtain ⟨h, X, G⟩ := T.ex
  exact He.glo_ok X G (T.c.fact 14 (f := .glo "_law_plain") rfl)
theorem Txt.g__law_spoilt : mg "_law_spoilt" = some (.ref (He.ga K "_law_spoilt")) := by
  obtain ⟨h, X, G⟩ := T.ex
  exact He.glo_ok X G (T.c.fact 15 (f := .glo "_law_spoilt") rfl)
theorem Txt.g__law_told : mg "_law_told" = some (.ref (He.ga K "_law_told")) := by
  obtain ⟨h, X, G⟩ := T.ex
  exact He.glo_ok X G (T.c.fact 16 (f := .glo "_law_told") rfl)
theorem Txt.g_law : mg "law" = some (.ref (He.ga K "law")) := by
  obtain ⟨h, X, G⟩ := T.ex
  exact He.glo_ok X G (T.c.fact 17 (f := .glo "law") rfl)
theorem Txt.f_ValueError : mg "ValueError" = none := by
  obtain ⟨h, X, G⟩ := T.ex
  exact He.free_ok X G (T.c.fact 18 (f := .free "ValueError") rfl)
theorem Txt.f_all : mg "all" = none := by
  obtain ⟨h, X, G⟩ := T.ex
  exact He.free_ok X G (T.c.fact 19 (f := .free "all") rfl)
theorem Txt.f_bool : mg "bool" = none := by
  obtain ⟨h, X, G⟩ := T.ex
  exact He.free_ok X G (T.c.fact 20 (f := .free "bool") rfl)
theorem Txt.f_int : mg "int" = none := by
  obtain ⟨h, X, G⟩ := T.ex
  exact He.free_ok X G (T.c.fact 21 (f := .free "int") rfl)
theorem Txt.f_isinstance : mg "isinstance" = none := by
  obtain ⟨h, X, G⟩ := T.ex
  exact He.free_ok X G (T.c.fact 22 (f := .free "isinstance") rfl)
theorem Txt.f_len : mg "len" = none := by
  obtain ⟨h, X, G⟩ := T.ex
  exact He.free_ok X G (T.c.fact 23 (f := .free "len") rfl)
theorem Txt.f_list : mg "list" = none := by
  obtain ⟨h, X, G⟩ := T.ex
  exact He.free_ok X G (T.c.fact 24 (f := .free "list") rfl)
theorem Txt.f_range : mg "range" = none := by
  obtain ⟨h, X, G⟩ := T.ex
  exact He.free_ok X G (T.c.fact 25 (f := .free "range") rfl)
theorem Txt.f_str : mg "str" = none := by
  obtain ⟨h, X, G⟩ := T.ex
  exact He.free_ok X G (T.c.fact 26 (f := .free "str") rfl)
theorem Txt.f_tuple : mg "tuple" = none := by
  obtain ⟨h, X, G⟩ := T.ex
  exact He.free_ok X G (T.c.fact 27 (f := .free "tuple") rfl)
theorem Txt.i_MOST_FIGURES : ∃ t, mg "MOST_FIGURES" = some (.int 3 t) := by
  obtain ⟨h, X, G⟩ := T.ex
  exact He.int_ok X G (T.c.fact 28 (f := .int "MOST_FIGURES" 3) rfl)
theorem Txt.x_LeadError : PySem.W.excIn K (He.ga K "LeadError") He.veBase "ValueError.__new__" = true := (He.exc_ok (T.c.fact 29 (f := .exc "LeadError") rfl)).1
theorem Txt.k_LeadError : PySem.W.keepIn K (.ref (He.ga K "LeadError")) = true := (He.exc_ok (T.c.fact 29 (f := .exc "LeadError") rfl)).2.1
theorem Txt.b_LeadError : PySem.W.subIn K (.ref (He.ga K "LeadError")) (.type "BaseException") = some true := (He.exc_ok (T.c.fact 29 (f := .exc "LeadError") rfl)).2.2.1
theorem Txt.t_LeadError : PySem.W.typeIn K (.ref (He.ga K "LeadError")) = some (.type "type") := (He.exc_ok (T.c.fact 29 (f := .exc "LeadError") rfl)).2.2.2
theorem Txt.wd_COUNTS : WDct K w (He.ga K "COUNTS") (([("lay", .int 4), ("pull", .int 4), ("glaze", .int 2), ("shatter", .int 1)] : List (Str × He.Dv)).map fun q => (q.1, q.2.v K)) := wdct_of (tabW T.tb 0 (t := (fun K => He.ga K "COUNTS", ["lay", "pull", "glaze", "shatter"])) rfl) (T.at_ 0 rfl)
theorem Txt.exm_BadText_BadText : PySem.W.exmOne K (.ref (He.ga K "BadText")) (.ref (He.ga K "BadText")) = some true := of_decide_eq_true (T.at_ 1 rfl)
theorem Txt.kit_BadText_BadText : PySem.W.kitOne K (.ref (He.ga K "BadText")) (.ref (He.ga K "BadText")) = some true := of_decide_eq_true (T.at_ 2 rfl)
theorem Txt.kit_BadText_ValueError : PySem.W.kitOne K (.ref (He.ga K "BadText")) (.type "ValueError") = some true := of_decide_eq_true (T.at_ 3 rfl)
theorem Txt.ec_BadText : ExcC K (He.ga K "BadText") := excC_of (T.at_ 4 rfl)
theorem Txt.at_BadText : AtC K (He.ga K "BadText") (He.ma K (He.ga K "AtStep") "__init__") := atB_ok (T.at_ 5 rfl)
end
def loose0 : List PySem.Str := ["LeadError", "AtStep", "BadText", "COUNTS", "MOST_FIGURES", "is_number", "are_numbers", "read_deed", "_law_bag", "_law_pull", "_law_whole", "_law_same", "_law_figures", "_law_deed_in", "_law_line", "_law_plain", "_law_spoilt", "_law_told"]
def loose : List PySem.Str := loose0
abbrev R : PySem.W.OpenRow := PySem.W.OpenLaw.row PySem.Challenge.rw_leadlight_k47_lines_read_or_refused
abbrev hk : PySem.W.Hook := He.hookX 5 fa fn ts [] exB
def ob (s : PySem.W.SharedT) : He.AlX := He.obsX 5 fa fn ts [] exB (HandSHeadRun.getT s)
theorem ob_eq (s : PySem.W.SharedT) : ob s = hk.obs s.abs := He.obsX_eq (HandSHeadRun.getT_eq s)
theorem run (w : World) : HandSHeadRun.RunEq R (PySem.W.view R.prog [21]) hk ob 3000 loose w := PySem.W.byRow2 "special-get-raises" (P := fun w => HandSHeadRun.RunEq R (PySem.W.view R.prog [21]) hk ob 3000 loose w) (fun w os => by kernel_rfl) (fun w os => by kernel_rfl) w
set_option maxHeartbeats 4400000
section
variable {mg : Str → Option Value} {base : Heap} {P : Program} {w : World} {K : PySem.W.Frag}
abbrev N_AtStep_init : List Str := ["self", "at"]
theorem sc_AtStep_init : FnScope N_AtStep_init ["self", "at"] (defScope s_AtStep_init) := ⟨rfl, rfl, rfl, by decide +kernel, rfl, by decide +kernel, by decide +kernel⟩
theorem ok_AtStep_init (T : Txt w K mg) : GoodI P w K mg base CX0 1 (He.ma K (He.ga K "AtStep") "__init__") := by
  obtain ⟨fd, F⟩ := T.c.def_ 14 (d := d_AtStep_init) rfl
  have b : Binds K fd ["self", "at"] [] := F.bindsN fun _ _ _ _ _ _ us hl => match us, hl with | [_, _], _ => rfl
  refine ⟨⟨fd, F.ok sc_AtStep_init (fun vs H Q E h => ?_) (fun cdv A outer s H vs Q E hr h => ?_), b⟩⟩
  · obtain ⟨a, C, v, rfl, _⟩ := h
    rfl
  · obtain ⟨a, C, v, rfl, oc, no, ha, q⟩ := h
    refine ⟨_, PSs.nox (pss_one (ps_ost (pv 0) (pv 1))), ?_⟩
    exact ⟨v, rfl, .ref a, rfl, a, C, rfl, oc, no, .inl ⟨ha, fun dx h1 h2 => q dx h1 h2⟩⟩
/-! is_number -/
def sp_is_number (K : Fg) : Sp := fun vs H Q E => ∃ (B : Bg) (G : Hp) (a : Str), Ok K B G H ∧ vs = [.str a] ∧ a.length ≤ 10000 ∧ Asc a ∧ Ret K B G H Q (.bool (numB a))
abbrev N_is_number : List Str := ["word"]
theorem sc_is_number : FnScope N_is_number ["word"] (defScope s_is_number) := ⟨rfl, rfl, rfl, by decide +kernel, rfl, by decide +kernel, by decide +kernel⟩
theorem ok_is_number (T : Txt w K mg)  : Good P w K mg base (L2.CX P w) 1 "is_number" ["word"] [] (sp_is_number K) := by
  obtain ⟨fd, F⟩ := T.c.def_ 0 (d := d_is_number) rfl
  have b : Binds K fd ["word"] [] := F.bindsN fun _ _ _ _ _ _ us hl => match us, hl with | [_], _ => rfl
  refine ⟨⟨fd, [], F.ok sc_is_number (fun vs H Q E h => ?_) (fun cdv A outer s H vs Q E hr h => ?_), .nil, b⟩, T.g_is_number, F.kp⟩
  · obtain ⟨B, G, a, e, rfl, _⟩ := h
    all_goals rfl
  · obtain ⟨B, G, a, e, rfl, hl, ha, q⟩ := h
    obtain ⟨tk_MOST_FIGURES, h_MOST_FIGURES⟩ := T.i_MOST_FIGURES
    all_goals refine ⟨_, PSs.nox (pss_one (ps_ret (pe_and (pe_m0 PySem.F.slot_str_isdecimal PySem.F.type_str_isdecimal mt_isdecimal (pv 0)) (pe_and (pe_cmpR op_le (pe_callB (r := rLenT) call_len_str (by rfl) T.f_len (by decide +kernel) (pa_cons (pv 0) pa_nil)) (pe_glob (v := .int 3) (by rfl) h_MOST_FIGURES ⟨_, rfl⟩) (nomark _)) (pe_one (pe_cmpR op_eq (pe_callTy (r := rStrV) cr_str (by rfl) T.f_str (by decide +kernel) (pa_cons (pe_callTy (r := rIntT) call_int_str (by rfl) T.f_int (by decide +kernel) (pa_cons (pv 0) pa_nil)) pa_nil)) (pv 0) (nomark _))))))), ?_⟩
    refine st_ret (ed_andV (b := Txt.isdecimal a) (ed_dec (ed_var rfl (.str a))) (fun h1 => ed_andV (b := decide ((a.length : Int) ≤ 3)) (c := decide (txtOf (valT a) = a)) (ed_op (ed_lenT (ed_var rfl (.str a)) (by omega)) ed_int rd_B0) (fun h2 => ?_))) e q
    obtain ⟨d1, d2⟩ := dec_digits h1 ha
    have l3 : a.length ≤ 3 := by
      have := of_decide_eq_true h2
      omega
    have v := val_lt (k := 3) d1 l3
    exact ed_is (ed_op (ed_strI (ed_intT (ed_var rfl (.str a)) (int_of d1 d2 (by omega)) (by omega)) (log_lt v.1 (by omega))) (ed_var rfl (.str a)) (rd_eq rfl)) (by rw [dsB])
theorem ed_is_number {B : Bg} {G : Hp} {σ : L2.St} {tr : TA} {E : XK} {a : Str} (h : EvA K B tr σ G [.str a]) (hl : a.length ≤ 10000) (ha : Asc a) : EvD K B (tCall (sp_is_number K) [] E tr) σ G (.bool (numB a)) :=
  ed_call h fun vs G2 H2 _ e dv Q q => by
    obtain rfl := dpAll_strs (ys := [a]) dv
    exact ⟨B, G2, a, e, rfl, hl, ha, q⟩
/-! are_numbers -/
def numsB (ws : List Str) (n : Int) : Bool := decide ((ws.length : Int) = n) && (ws.map numB).all id
def sp_are_numbers (K : Fg) : Sp := fun vs H Q E => ∃ (B : Bg) (G : Hp) (v : V) (ws : List Str) (n : Int), Ok K B G H ∧ vs = [v, .int n] ∧ Dp K G v (.list (ws.map .str)) ∧ ws.length ≤ 10000 ∧ (∀ a ∈ ws, a.length ≤ 10000 ∧ Asc a) ∧ Ret K B G H Q (.bool (numsB ws n))
def numF : PyData → Option PyData
  | .str a => some (.bool (numB a))
  | _ => none
theorem numF_all (ws : List Str) : (ws.map PyData.str).filterMap numF = (ws.map numB).map PyData.bool := by
  induction ws with
  | nil => rfl
  | cons a ws ih =>
    rw [List.map_cons, List.filterMap_cons, ih]
    rfl
abbrev N_are_numbers : List Str := ["words", "many", "word"]
theorem sc_are_numbers : FnScope N_are_numbers ["words", "many"] (defScope s_are_numbers) := ⟨rfl, rfl, rfl, by decide +kernel, rfl, by decide +kernel, by decide +kernel⟩
theorem ok_are_numbers (T : Txt w K mg) (G_is_number : Good P w K mg base (L2.CX P w) 1 "is_number" ["word"] [] (sp_is_number K)) : Good P w K mg base (L2.CX P w) 2 "are_numbers" ["words", "many"] [] (sp_are_numbers K) := by
  obtain ⟨fd, F⟩ := T.c.def_ 1 (d := d_are_numbers) rfl
  have b : Binds K fd ["words", "many"] [] := F.bindsN fun _ _ _ _ _ _ us hl => match us, hl with | [_, _], _ => rfl
  refine ⟨⟨fd, [], F.ok sc_are_numbers (fun vs H Q E h => ?_) (fun cdv A outer s H vs Q E hr h => ?_), .nil, b⟩, T.g_are_numbers, F.kp⟩
  · obtain ⟨B, G, v, ws, n, e, rfl, _⟩ := h
    all_goals rfl
  · obtain ⟨B, G, v, ws, n, e, rfl, dv, hl, hs, q⟩ := h
    all_goals refine ⟨_, PSs.nox (pss_one (ps_ret (pe_and (pe_cmpR op_eq (pe_callB (r := rLenS K) call_len_seq (by rfl) T.f_len (by decide +kernel) (pa_cons (pv 0) pa_nil)) (pv 1) (nomark _)) (pe_one (pe_callB (r := rAll K) (cr_all rfl) (by rfl) T.f_all (by decide +kernel) (pa_cons (pe_lc (own := [("word", 2)]) (g := gName 2) rfl sc_are_numbers.nd (pi_list (pv 0)) (blkOk_by (own := [("word", 2)]) (N := N_are_numbers) (sc := defScope s_are_numbers) (by decide +kernel)) (fun _ _ _ _ _ => (pg_name (i := 2) sc_are_numbers.nd rfl (Or.inl rfl))) (fun _ _ _ _ _ => pts_nil) (fun _ _ _ _ _ => (pe_own G_is_number (hr.mono (by decide)) (by rfl) passL (pa_cons (pv 2) pa_nil)))) pa_nil)))))), ?_⟩
    refine st_ret (ed_andV (b := decide ((ws.length : Int) = n)) (ed_is (ed_op (ed_len (n := ws.length) (ed_var rfl dv) (congrArg some (List.length_map _))) (ed_var rfl (.int n)) (rd_eq rfl)) (by rw [diI])) (fun _ => ed_all (bs := ws.map numB) (EvF.ed (ed_isF (ef_lcL (f := numF) (ed_var rfl dv) (by rw [List.length_map]; omega) (fun d u G' md eg cg du => ?_) (fun d u y G' md eg cg du ey => ?_)) (numF_all ws))))) e q
    · obtain ⟨a, _, rfl⟩ := List.mem_map.mp md
      exact eb_yes
    · obtain ⟨a, ma, rfl⟩ := List.mem_map.mp md
      obtain rfl := Option.some.inj ey
      obtain rfl := dp_str du
      exact ed_is_number (ea_cons (ed_var rfl (.str a)) ea_nil) (hs a ma).1 (hs a ma).2
theorem ed_are_numbers {B : Bg} {G : Hp} {σ : L2.St} {tr : TA} {E : XK} {ws : List Str} {n : Int} (h : EvA K B tr σ G [.list (ws.map .str), .int n]) (hl : ws.length ≤ 10000) (hs : ∀ a ∈ ws, a.length ≤ 10000 ∧ Asc a) : EvD K B (tCall (sp_are_numbers K) [] E tr) σ G (.bool (numsB ws n)) :=
  ed_call h fun vs G2 H2 _ e dv Q q => by
    cases dv with
    | cons h0 a0 =>
      obtain rfl := dpAll_intsV (bs := [n]) a0
      exact ⟨B, G2, _, ws, n, e, rfl, h0, hl, hs, q⟩
/-! read_deed -/
def cntsI : List (Str × Int) := [("lay", 4), ("pull", 4), ("glaze", 2), ("shatter", 1)]
def cntsK : List (Str × V) := [("lay", .int 4), ("pull", .int 4), ("glaze", .int 2), ("shatter", .int 1)]
theorem cnts_K : cntsK = cntsI.map fun q => (q.1, V.int q.2) := rfl
theorem cnts_nd : (cntsI.map (·.1)).Nodup := by decide
/-- what words write a deed -/
def isDeedW (ws : List Str) (wd : Str) (rs : List Str) (n : Int) : Prop := ws = wd :: rs ∧ (wd, n) ∈ cntsI ∧ numsB rs n = true
def deedOf (wd : Str) (rs : List Str) : PyData := .tuple (.str wd :: (rs.map valT).map .int)
def sp_read_deed (K : Fg) : Sp := fun vs H Q E => ∃ (B : Bg) (G : Hp) (a : Str), Ok K B G H ∧ vs = [.str a] ∧ a.length ≤ 5000 ∧ Asc a ∧ (∀ wd rs n, isDeedW (Txt.split a " ") wd rs n → Ret K B G H Q (deedOf wd rs)) ∧ ((∀ wd rs n, ¬ isDeedW (Txt.split a " ") wd rs n) → RaiA K B G H E (He.ga K "BadText") 0)
def valF : PyData → Option PyData
  | .str a => some (.int (valT a))
  | _ => none
theorem valF_all (ws : List Str) : (ws.map PyData.str).filterMap valF = (ws.map valT).map PyData.int := by
  induction ws with
  | nil => rfl
  | cons a ws ih =>
    rw [List.map_cons, List.filterMap_cons, ih]
    rfl
theorem cnt_one {wd : Str} {n m : Int} (h1 : (wd, n) ∈ cntsI) (h2 : (wd, m) ∈ cntsI) : n = m := by
  have a := valS_is cnts_nd h1
  rw [valS_is cnts_nd h2] at a
  injection a with a
  injection a with a
  exact a.symm
abbrev N_read_deed : List Str := ["line", "word", "rest", "numbers", "one"]
theorem sc_read_deed : FnScope N_read_deed ["line"] (defScope s_read_deed) := ⟨rfl, rfl, rfl, by decide +kernel, rfl, by decide +kernel, by decide +kernel⟩
theorem ok_read_deed (T : Txt w K mg) (G_are_numbers : Good P w K mg base (L2.CX P w) 2 "are_numbers" ["words", "many"] [] (sp_are_numbers K)) (G_AtStep_init : GoodI P w K mg base CX0 1 (He.ma K (He.ga K "AtStep") "__init__")) : Good P w K mg base (L2.CX P w) 3 "read_deed" ["line"] [] (sp_read_deed K) := by
  obtain ⟨fd, F⟩ := T.c.def_ 2 (d := d_read_deed) rfl
  have b : Binds K fd ["line"] [] := F.bindsN fun _ _ _ _ _ _ us hl => match us, hl with | [_], _ => rfl
  refine ⟨⟨fd, [], F.ok sc_read_deed (fun vs H Q E h => ?_) (fun cdv A outer s H vs Q E hr h => ?_), .nil, b⟩, T.g_read_deed, F.kp⟩
  · obtain ⟨B, G, a, e, rfl, _⟩ := h
    all_goals rfl
  · obtain ⟨B, G, a, e, rfl, hl, ha, q, r⟩ := h
    all_goals refine ⟨_, (pss_cons (ps_asg (pe_split (pv 0) pe_str) (pg_star rfl (pg_name (i := 1) sc_read_deed.nd rfl (Or.inl rfl)) (pg_name (i := 2) sc_read_deed.nd rfl (Or.inl rfl)))) (pss_cons (ps_if (PW.pt (pw_or (pt_cmpR (r := rInW K w true) op_notInW (pv 1) (pe_glob (v := .ref (He.ga K "COUNTS")) (by rfl) T.g_COUNTS rfl) (by rfl)) (pw_or1 (pt_not (pt_val (pe_own G_are_numbers (hr.mono (by decide)) (by rfl) (passes_call (takes_of rfl rfl rfl rfl) (fun _ _ _ _ h => h)) (pa_cons (pv 2) (pa_cons (pe_ix (r := rIxD K w) ix_kdict (pe_glob (v := .ref (He.ga K "COUNTS")) (by rfl) T.g_COUNTS rfl) (pv 1) (fun _ _ => rfl)) pa_nil)))))))) (pss_one (ps_raise rfl (takes_of rfl rfl rfl rfl) (pmk_at T.at_BadText G_AtStep_init (hr.mono (by decide)) (by rfl) T.g_BadText pe_int))) pss_nil) (pss_cons (ps_setLc (i := 3) (own := [("one", 4)]) (g := gName 4) rfl sc_read_deed.nd rfl rfl (sw_true rfl rfl rfl (by decide +kernel)) (pi_list (pv 2)) (blkOk_by (own := [("one", 4)]) (N := N_read_deed) (sc := defScope s_read_deed) (by decide +kernel)) (fun _ _ _ _ _ => (pg_name (i := 4) sc_read_deed.nd rfl (Or.inl rfl))) (fun _ _ _ _ _ => pts_nil) (fun _ _ _ _ _ => (pe_callTy (r := rIntT) call_int_str (by rfl) T.f_int (by decide +kernel) (pa_cons (pv 4) pa_nil)))) (pss_one (ps_ret (pe_tup (pa_cons (pv 1) (StX.pa_star (pv 3) pa_nil)))))))), ?_⟩
    have W : WDct K w (He.ga K "COUNTS") cntsK := T.wd_COUNTS
    obtain ⟨wd, rs, hsp, _⟩ := split_words a
    have sm := split_small a
    have sa := split_asc ha
    rw [hsp] at sm sa q r
    have hr0 : rs.length ≤ 10000 := by
      have := sm.1
      rw [List.length_cons] at this
      omega
    have hs : ∀ z ∈ rs, z.length ≤ 10000 ∧ Asc z := fun z hz => by
      have := sm.2 z (List.mem_cons_of_mem _ hz)
      exact ⟨by omega, sa z (List.mem_cons_of_mem _ hz)⟩
    refine sq_star (ed_is (EvF.ed (ef_split (ed_var rfl (.str a)) ed_str (by rfl) (by omega))) (by rw [hsp]; rfl)) (by rw [List.length_map]; exact hr0) e (fun v p G1 H1 X1 d1 d2 => ?_)
    obtain rfl := dp_str d1
    by_cases c1 : wd ∈ cntsK.map (·.1)
    rotate_left
    · refine sq_ifN (b := true) (eb_is (eb_or (b := true) (c := true) (eb_is (eb_test (ed_inW (neg := true) (ed_var rfl (.str wd)) W)) ?_) (fun c => by cases c)) rfl) X1.ok (fun _ G2 H2 X2 => ?_) (fun c => by cases c)
      · rw [decide_eq_false c1]
        rfl
      · refine mk_at ed_int X2.ok T.at_BadText (RaiA.mono (X1.trans X2) (r fun wd' rs' n' h => c1 ?_))
        obtain ⟨e1, e2, _⟩ := h
        injection e1 with e1 _
        rw [e1, cnts_K, List.map_map]
        exact List.mem_map.mpr ⟨_, e2, rfl⟩
    obtain ⟨n, hq⟩ : ∃ n, (wd, n) ∈ cntsI := by
      rw [cnts_K, List.map_map] at c1
      obtain ⟨⟨w', n⟩, h1, rfl⟩ := List.mem_map.mp c1
      exact ⟨n, h1⟩
    have hqK : (wd, V.int n) ∈ cntsK := by
      rw [cnts_K]
      exact List.mem_map.mpr ⟨_, hq, rfl⟩
    cases hb : numsB rs n with
    | false =>
      refine sq_ifN (b := true) (eb_is (eb_or (b := false) (eb_is (eb_test (ed_inW (neg := true) (ed_var rfl (.str wd)) W)) (by rw [decide_eq_true c1]; rfl)) (fun _ => eb_not (eb_B (ed_are_numbers (n := n) (ea_cons (ed_var rfl d2) (ea_cons (ed_getW (ed_var rfl (.str wd)) W hqK (fun _ => .int n)) ea_nil)) hr0 hs)))) (by rw [hb]; rfl)) X1.ok (fun _ G2 H2 X2 => ?_) (fun c => by cases c)
      refine mk_at ed_int X2.ok T.at_BadText (RaiA.mono (X1.trans X2) (r fun wd' rs' n' h => ?_))
      obtain ⟨e1, e2, e3⟩ := h
      injection e1 with e1 e4
      subst e1 e4
      rw [cnt_one e2 hq, hb] at e3
      cases e3
    | true =>
      refine sq_ifN (b := false) (eb_is (eb_or (b := false) (eb_is (eb_test (ed_inW (neg := true) (ed_var rfl (.str wd)) W)) (by rw [decide_eq_true c1]; rfl)) (fun _ => eb_not (eb_B (ed_are_numbers (n := n) (ea_cons (ed_var rfl d2) (ea_cons (ed_getW (ed_var rfl (.str wd)) W hqK (fun _ => .int n)) ea_nil)) hr0 hs)))) (by rw [hb]; rfl)) X1.ok (fun c => by cases c) (fun _ G2 H2 X2 => ?_)
      have dg : ∀ z ∈ rs, NumText.AllDigits (TL.tl z) ∧ TL.tl z ≠ [] ∧ z.length ≤ 3 := fun z hz => by
        have h2 := (Bool.and_eq_true_iff.mp hb).2
        have h3 := List.all_eq_true.mp h2 (numB z) (List.mem_map.mpr ⟨z, hz, rfl⟩)
        have h3 : (Txt.isdecimal z && (decide ((z.length : Int) ≤ 3) && decide (txtOf (valT z) = z))) = true := h3
        obtain ⟨k1, k2⟩ := Bool.and_eq_true_iff.mp h3
        obtain ⟨k3, _⟩ := Bool.and_eq_true_iff.mp k2
        obtain ⟨m1, m2⟩ := dec_digits k1 (hs z hz).2
        have := of_decide_eq_true k3
        exact ⟨m1, m2, by omega⟩
      refine sq_set (EvF.ed (ed_isF (ef_lcL (f := valF) (ed_var rfl (dp_mono X2.gg d2)) (by rw [List.length_map]; omega) (fun d u G' md eg cg du => ?_) (fun d u y G' md eg cg du ey => ?_)) (valF_all rs))) X2.ok (fun v3 G3 H3 X3 d3 => ?_)
      · obtain ⟨z, _, rfl⟩ := List.mem_map.mp md
        exact eb_yes
      · obtain ⟨z, mz, rfl⟩ := List.mem_map.mp md
        obtain rfl := Option.some.inj ey
        obtain ⟨m1, m2, m3⟩ := dg z mz
        exact ed_intT (ed_var rfl du) (int_of m1 m2 (by omega)) (by omega)
      refine st_ret (ed_is (ed_tup (ea_cons (ed_var rfl (.str wd)) (ea_star (ed_var rfl d3) ea_nil)) ?_) (by rw [List.append_nil]; rfl)) X3.ok ((q wd rs n ⟨rfl, hq, hb⟩).mono ((X1.trans X2).trans X3))
      rw [List.append_nil, List.length_cons, List.length_map, List.length_map]
      omega
/-! _law_bag -/
def sp__law_bag (K : Fg) : Sp := fun vs H Q E => ∃ (a : Addr) (ns : List Int), vs = [.ref a] ∧ SqL K H a (ns.map V.int) ∧ ns.length ≤ 63 ∧ ∀ b c G2 H2, Ok K (some (b, c)) G2 H2 → Q (.ref b) H2
theorem ok_none {K : Fg} (H : Hp) : Ok K none H H := ⟨Ex.refl H, fun _ _ z => (by cases z), fun _ _ z => (by cases z)⟩
theorem cut_map (ns : List Int) (lo hi : Option Int) : ∃ ms : List Int, Lw.cutD (ns.map PyData.int) lo hi = ms.map PyData.int ∧ ms.length ≤ ns.length := by
  unfold Lw.cutD
  refine ⟨(ns.drop (HT.sIx (ns.map PyData.int).length 0 lo)).take (HT.sIx (ns.map PyData.int).length (ns.map PyData.int).length hi - HT.sIx (ns.map PyData.int).length 0 lo), ?_, ?_⟩
  · rw [List.map_take, List.map_drop]
  · rw [List.length_take, List.length_drop]
    omega
abbrev N__law_bag : List Str := ["_law_script", "_law_cells", "_law_mark", "_law_cell"]
theorem sc__law_bag : FnScope N__law_bag ["_law_script"] (defScope s__law_bag) := ⟨rfl, rfl, rfl, by decide +kernel, rfl, by decide +kernel, by decide +kernel⟩
theorem ok__law_bag (T : Txt w K mg)  : Good P w K mg base (L2.CX P w) 1 "_law_bag" ["_law_script"] [] (sp__law_bag K) := by
  obtain ⟨fd, F⟩ := T.c.def_ 3 (d := d__law_bag) rfl
  have b : Binds K fd ["_law_script"] [] := F.bindsN fun _ _ _ _ _ _ us hl => match us, hl with | [_], _ => rfl
  refine ⟨⟨fd, [], F.ok sc__law_bag (fun vs H Q E h => ?_) (fun cdv A outer s H vs Q E hr h => ?_), .nil, b⟩, T.g__law_bag, F.kp⟩
  · obtain ⟨a, ns, rfl, _⟩ := h
    all_goals rfl
  · obtain ⟨a, ns, rfl, hS, hl, q⟩ := h
    all_goals refine ⟨_, PSs.nox (pss_cons (ps_set (i := 1) sc__law_bag.nd rfl (Or.inl rfl) (pe_callTy (r := rListS K) call_list_of (by rfl) T.f_list (by decide +kernel) (pa_cons (pe_slice (r := rSlL K) sl_list (pv 0) po_none (po_some pe_int)) pa_nil))) (pss_cons (ps_set (i := 2) sc__law_bag.nd rfl (Or.inl rfl) (pe_op op_add pe_int (pe_callB (r := rLenS K) call_len_seq (by rfl) T.f_len (by decide +kernel) (pa_cons (pv 1) pa_nil)))) (pss_cons (ps_for PassesOwn.never rfl (pi_list (pv 1)) (pg_name (i := 3) sc__law_bag.nd rfl (Or.inl rfl)) (pss_one (ps_set (i := 2) sc__law_bag.nd rfl (Or.inl rfl) (pe_op op_mod (pe_op op_add (pe_op op_mul (pv 2) pe_int) (pv 3)) pe_int)))) (pss_one (ps_ret (pe_lst (pa_cons (pv 1) (pa_cons pe_int (pa_cons pe_int (pa_cons (pv 2) pa_nil)))))))))), ?_⟩
    obtain ⟨ms, em, hm⟩ := cut_map ns none (some 63)
    refine ed_isF (ed_listOf (ed_slL (ed_var rfl (.lst hS (dpAll_ints ns))) eo_none (eo_some ed_int))) em H (ok_none H) _ (fun c xs G1 H2 X1 hp hg nb h2 hx => ?_)
    obtain rfl := dpAll_intsV hx
    have X := X1.freeze hp hg nb h2
    have hc : SqL K (upd G1 c (.lst (ms.map V.int))) c (ms.map V.int) := SqL.of upd_same
    have dv : Dp K (upd G1 c (.lst (ms.map V.int))) (.ref c) (.list (ms.map .int)) := .lst hc (dpAll_ints ms)
    have hcH : (upd G1 c (.lst (ms.map V.int))) c = some (.lst (ms.map V.int)) := upd_same
    refine sq_set (ed_op ed_int (ed_len (ed_var rfl dv) rfl) rd_I0) X.ok (fun v3 G3 H3 X3 d3 => ?_)
    obtain rfl := dp_int d3
    refine sq_forL (Pv := fun _ σ' _ _ => ∃ (m : Int) (y : Option V), σ' = [some (.ref a), some (.ref c), some (.int m), y]) (ed_var rfl (dp_mono X3.gg dv)) X3.ok (fun _ _ _ => ⟨_, none, rfl⟩) (fun G4 H4 X4 j d v5 σ5 G5 H5 hj X5 p d5 => ?_) (fun σ5 G5 H5 X5 p => ?_)
    · obtain ⟨m, y, rfl⟩ := p
      obtain ⟨z, rfl⟩ : ∃ z, d = .int z := by
        rw [List.getElem?_map] at hj
        cases q : ms[j]? with
        | none =>
          rw [q] at hj
          cases hj
        | some z =>
          rw [q] at hj
          exact ⟨z, (Option.some.inj hj).symm⟩
      refine st_set (ed_op (ed_op (ed_op (ed_var rfl (.int m)) ed_int (rd_I (.inr (by decide)))) (ed_var rfl d5) rd_I0) ed_int (rd_I (by decide))) X5.ok (fun v6 G6 H6 X6 d6 => ?_)
      obtain rfl := dp_int d6
      exact ⟨G6, X5.trans X6, _, some v5, rfl⟩
    · obtain ⟨m, y, rfl⟩ := p
      have dc := dp_mono (X3.gg.trans X5.gg) dv
      refine ⟨.ref c, rfl, .int m, rfl, (by show 4 ≤ sizeLine; decide), fun p hp => ?_⟩
      refine q p c G5 _ ⟨X5.ok.e.trans (Ex.new hp), fun b' c' z => ?_, fun b' c' z => ?_⟩
      · obtain ⟨rfl, rfl⟩ := Prod.mk.inj (Option.some.inj z)
        exact ⟨ms, ex_l (X3.gg.trans X5.gg) hc⟩
      · obtain ⟨rfl, rfl⟩ := Prod.mk.inj (Option.some.inj z)
        exact ⟨⟨X5.ok.e.off hp, ne_of_none (X5.ok.e _ _ (X5.gg _ _ (X3.gg _ _ hcH))) hp⟩, 0, 0, m, upd_same, by decide⟩
/-! _law_pull -/
def sp__law_pull (K : Fg) : Sp := fun vs H Q E => ∃ (b c : Addr) (G : Hp) (u : Int), vs = [.ref b, .int u] ∧ Ok K (some (b, c)) G H ∧ 0 < u ∧ u.natAbs.log2 < 9000 ∧ ∀ n G2 H2, 0 ≤ n → n < u → Ext K (some (b, c)) G H G2 H2 → Q (.int n) H2
/-- the bag between two steps of a draw: what was read at first stands, but the bag itself -/
structure BagS (K : Fg) (b c : Addr) (ns : List Int) (G H H2 : Hp) (i r m : Int) : Prop where
  k : ∀ a o, a ≠ b → H a = some o → H2 a = some o
  h : H2 b = some (.lst [.ref c, .int i, .int r, .int m])
  s : SqL K H2 c (ns.map V.int)
  p : 0 ≤ i
theorem BagS.d {b c : Addr} {ns : List Int} {G H H2 : Hp} {i r m : Int} (z : BagS K b c ns G H H2 i r m) : Dp K H2 (.ref b) (.list [.list (ns.map .int), .int i, .int r, .int m]) :=
  .lst (SqL.of z.h) (.cons (.lst z.s (dpAll_ints ns)) (.cons (.int i) (.cons (.int r) (.cons (.int m) .nil))))
theorem BagS.x {b c : Addr} {ns : List Int} {G H H2 G3 H3 : Hp} {i r m : Int} (z : BagS K b c ns G H H2 i r m) (X : Ext K none H2 H2 G3 H3) : BagS K b c ns G H H3 i r m := by
  have k : Ex H2 H3 := fun a o h => X.hh a o (fun ⟨_, q⟩ => by cases q) h
  exact ⟨fun a o n h => k a o (z.k a o n h), k _ _ z.h, ex_l k z.s, z.p⟩
theorem BagS.put {b c : Addr} {ns : List Int} {G H H2 : Hp} {i r m i' r' : Int} (z : BagS K b c ns G H H2 i r m) (hc : c ≠ b) (h : 0 ≤ i') : BagS K b c ns G H (upd H2 b (.lst [.ref c, .int i', .int r', .int m])) i' r' m :=
  ⟨fun a o n h => by rw [upd_ne n]; exact z.k a o n h, upd_same, by
    rcases z.s with (s | ⟨o, s⟩) | s
    · exact .inl (.inl (by rw [upd_ne hc]; exact s))
    · exact .inl (.inr ⟨o, by rw [upd_ne hc]; exact s⟩)
    · exact .inr s, h⟩
theorem BagS.ext {b c : Addr} {ns : List Int} {G H H2 : Hp} {i r m : Int} (z : BagS K b c ns G H H2 i r m) (e : Ok K (some (b, c)) G H) : Ext K (some (b, c)) G H G H2 := by
  have gb := (e.b b c rfl).1.1
  refine ⟨Ex.refl G, fun a o n h => z.k a o (fun w => n ⟨c, by rw [w]⟩) h, fun _ _ _ g => g, ⟨fun a o h => z.k a o (fun w => ?_) (e.e a o h), e.c, fun b' c' w => ?_⟩⟩
  · rw [w, gb] at h
    cases h
  · obtain ⟨rfl, rfl⟩ := Prod.mk.inj (Option.some.inj w)
    exact ⟨⟨gb, (e.b _ _ rfl).1.2⟩, i, r, m, z.h, z.p⟩
abbrev N__law_pull : List Str := ["_law_bag_here", "_law_upto", "_law_seed", "_law_fold", "_law_twist", "_law_drawn"]
theorem sc__law_pull : FnScope N__law_pull ["_law_bag_here", "_law_upto"] (defScope s__law_pull) := ⟨rfl, rfl, rfl, by decide +kernel, rfl, by decide +kernel, by decide +kernel⟩
theorem ok__law_pull (T : Txt w K mg)  : Good P w K mg base (L2.CX P w) 1 "_law_pull" ["_law_bag_here", "_law_upto"] [] (sp__law_pull K) := by
  obtain ⟨fd, F⟩ := T.c.def_ 4 (d := d__law_pull) rfl
  have b : Binds K fd ["_law_bag_here", "_law_upto"] [] := F.bindsN fun _ _ _ _ _ _ us hl => match us, hl with | [_, _], _ => rfl
  refine ⟨⟨fd, [], F.ok sc__law_pull (fun vs H Q E h => ?_) (fun cdv A outer s H vs Q E hr h => ?_), .nil, b⟩, T.g__law_pull, F.kp⟩
  · obtain ⟨b, c, G, u, rfl, _⟩ := h
    all_goals rfl
  · obtain ⟨b, c, G, u, rfl, e, hu, hw, q⟩ := h
    all_goals refine ⟨_, PSs.nox (pss_cons (ps_if (pt_cmpR op_lt (pe_ix (r := rIxL K) ix_list (pv 0) pe_int (fun _ _ => rfl)) pe_int (nomark _)) (pss_cons (ps_asg (pe_op op_add (pe_ix (r := rIxL K) ix_list (pv 0) pe_int (fun _ _ => rfl)) pe_int) (pg_sub (pv 0) pe_int set_list)) (pss_cons (ps_set (i := 2) sc__law_pull.nd rfl (Or.inl rfl) (pe_op op_add (pe_ix (r := rIxL K) ix_list (pv 0) pe_int (fun _ _ => rfl)) (pe_op op_mul (pe_ix (r := rIxL K) ix_list (pv 0) pe_int (fun _ _ => rfl)) pe_int))) (pss_cons (ps_if (pt_cmpR op_le (pe_ix (r := rIxL K) ix_list (pv 0) pe_int (fun _ _ => rfl)) (pe_callB (r := rLenS K) call_len_seq (by rfl) T.f_len (by decide +kernel) (pa_cons (pe_ix (r := rIxL K) ix_list (pv 0) pe_int (fun _ _ => rfl)) pa_nil)) (nomark _)) (pss_one (ps_set (i := 2) sc__law_pull.nd rfl (Or.inl rfl) (pe_ix (r := rIxL K) ix_list (pe_ix (r := rIxL K) ix_list (pv 0) pe_int (fun _ _ => rfl)) (pe_op op_sub (pe_ix (r := rIxL K) ix_list (pv 0) pe_int (fun _ _ => rfl)) pe_int) (fun _ _ => rfl)))) pss_nil) (pss_cons (ps_if (PW.pt (pw_or (pt_cmpR op_gt (pe_ix (r := rIxL K) ix_list (pv 0) pe_int (fun _ _ => rfl)) (pe_callB (r := rLenS K) call_len_seq (by rfl) T.f_len (by decide +kernel) (pa_cons (pe_ix (r := rIxL K) ix_list (pv 0) pe_int (fun _ _ => rfl)) pa_nil)) (nomark _)) (pw_or1 (pt_cmpR op_lt (pv 2) (pe_op op_pow pe_int pe_int) (nomark _))))) (pss_cons (ps_set (i := 3) sc__law_pull.nd rfl (Or.inl rfl) (pe_op op_mod (pe_op op_add (pe_op op_add (pe_op op_mul (pv 2) pe_int) (pe_op op_mul (pe_ix (r := rIxL K) ix_list (pv 0) pe_int (fun _ _ => rfl)) pe_int)) (pe_ix (r := rIxL K) ix_list (pv 0) pe_int (fun _ _ => rfl))) pe_int)) (pss_cons (ps_set (i := 4) sc__law_pull.nd rfl (Or.inl rfl) (pe_op op_mod (pe_op op_add (pe_op op_mul (pv 3) (pv 3)) (pe_ix (r := rIxL K) ix_list (pv 0) pe_int (fun _ _ => rfl))) pe_int)) (pss_one (ps_ret (pe_op op_mod (pe_op op_fdivW (pe_op op_mod (pe_op op_add (pe_op op_mul (pv 4) pe_int) (pv 3)) pe_int) pe_int) (pv 1)))))) pss_nil) (pss_one (ps_asg (pv 2) (pg_sub (pv 0) pe_int set_list))))))) pss_nil) (pss_cons (ps_set (i := 5) sc__law_pull.nd rfl (Or.inl rfl) (pe_op op_mod (pe_ix (r := rIxL K) ix_list (pv 0) pe_int (fun _ _ => rfl)) (pv 1))) (pss_cons (ps_asg (pe_op op_fdivW (pe_ix (r := rIxL K) ix_list (pv 0) pe_int (fun _ _ => rfl)) (pv 1)) (pg_sub (pv 0) pe_int set_list)) (pss_one (ps_ret (pv 5)))))), ?_⟩
    obtain ⟨⟨gb, ncb⟩, i, r, m, hb, hi⟩ := e.b b c rfl
    obtain ⟨ns, hc⟩ := e.c b c rfl
    have S0 : BagS K b c ns G H H i r m := ⟨fun _ _ _ h => h, hb, ex_l e.e hc, hi⟩
    have c31 : CDivW (0 : Int) u := ⟨hu, hw⟩
    have fin : ∀ {i r : Int} {H2 : Hp}, BagS K b c ns G H H2 i r m → ∀ {y2 y3 y4 y5 : Option V}, (tSeq (tAsg (tOp (rI (fun _ j => 0 < j) fun i j => .int (i % j)) (tOp (rIxL K) (tVar 0) (tC (.int 2))) (tVar 1)) (gName 5)) (tSeq (tAsg (tOp (rI CDivW fun i j => .int (i / j)) (tOp (rIxL K) (tVar 0) (tC (.int 2))) (tVar 1)) (gSub (tVar 0) (tC (.int 2)) rSetL)) (tRet (tVar 5)))) { nx := fun _ H' => Q .non H', rt := Q } [some (.ref b), some (.int u), y2, y3, y4, y5] H2 := fun {i r H2} S {y2 y3 y4 y5} => by
      refine sq_set (ed_op (ed_op (ed_var rfl S.d) ed_int (rd_ixL rfl)) (ed_var rfl (.int u)) (rd_I hu)) (ok_none H2) (fun v G3 H3 X3 d3 => ?_)
      obtain rfl := dp_int d3
      have S3 := S.x X3
      refine ed_op (ed_op (ed_var rfl S3.d) ed_int (rd_ixL rfl)) (ed_var rfl (.int u)) (rd_I (C := CDivW) (i := r) ⟨hu, hw⟩) H3 (ok_none H3) _ (fun v G4 H4 X4 d4 => ?_)
      obtain rfl := dp_int d4
      have S4 := S3.x X4
      refine ⟨.ref b, rfl, b, _, 2, 2, rfl, rfl, S4.h, rfl, ?_⟩
      have S5 := S4.put (i' := i) (r' := r / u) ncb S4.p
      exact ⟨_, rfl, q (r % u) G _ (Int.emod_nonneg _ (by omega)) (Int.emod_lt_of_pos _ hu) (S5.ext e)⟩
    refine sq_if (eb_test (ed_op (ed_op (ed_var rfl S0.d) ed_int (rd_ixL rfl)) ed_int rd_B0)) (ok_none H) (fun _ G1 H1 X1 => ?_) (fun _ G1 H1 X1 => fin (S0.x X1))
    have S1 := S0.x X1
    refine ed_op (ed_op (ed_var rfl S1.d) ed_int (rd_ixL rfl)) ed_int rd_I0 H1 (ok_none H1) _ (fun v G2 H2 X2 d2 => ?_)
    obtain rfl := dp_int d2
    have S2 := S1.x X2
    refine ⟨.ref b, rfl, b, _, 1, 1, rfl, rfl, S2.h, rfl, ?_⟩
    have S3 := S2.put (i' := i + 1) (r' := r) ncb (by omega)
    refine sq_set (ed_op (ed_op (ed_var rfl S3.d) ed_int (rd_ixL rfl)) (ed_op (ed_op (ed_var rfl S3.d) ed_int (rd_ixL rfl)) ed_int (rd_I (.inr (by decide)))) rd_I0) (ok_none _) (fun v G4 H4 X4 d4 => ?_)
    obtain rfl := dp_int d4
    have S4 := S3.x X4
    refine sq_if (eb_test (ed_op (ed_op (ed_var rfl S4.d) ed_int (rd_ixL rfl)) (ed_len (ed_op (ed_var rfl S4.d) ed_int (rd_ixL rfl)) rfl) rd_B0)) (ok_none _) (fun k G5 H5 X5 => ?_) (fun k G5 H5 X5 => ?_)
    focus
      have S5 := S4.x X5
      have hk : i + 1 ≤ ((ns.map PyData.int).length : Int) := of_decide_eq_true k
      rw [List.length_map] at hk
      have hj : i.toNat < (ns.map PyData.int).length := by
        rw [List.length_map]
        omega
      have ej : i + 1 - 1 = ((i.toNat : Nat) : Int) := by omega
      obtain ⟨s, es⟩ : ∃ s : Int, atI (ns.map PyData.int) (i + 1 - 1) = some (.int s) := by
        refine ⟨ns[i.toNat]'(by rw [List.length_map] at hj; exact hj), ?_⟩
        rw [ej]
        refine atI_nat ?_
        rw [List.getElem?_map, List.getElem?_eq_getElem (by rw [List.length_map] at hj; exact hj)]
        rfl
      refine st_set (ed_op (ed_op (ed_var rfl S5.d) ed_int (rd_ixL rfl)) (ed_op (ed_op (ed_var rfl S5.d) ed_int (rd_ixL rfl)) ed_int rd_I0) (rd_ixL es)) (ok_none _) (fun v G6 H6 X6 d6 => ?_)
      obtain rfl := dp_int d6
      have S6 := S5.x X6
      clear es ej hj hk k X6 d6 X5 S5
      revert S6
      generalize H6 = Hs
      intro S6
    rotate_left
    focus
      have S6 := S4.x X5
      clear k X5
      revert S6
      generalize H5 = Hs
      generalize m + (i + 1) * 7919 = s
      intro S6
    all_goals
      refine sq_if (eb_or (eb_test (ed_op (ed_op (ed_var rfl S6.d) ed_int (rd_ixL rfl)) (ed_len (ed_op (ed_var rfl S6.d) ed_int (rd_ixL rfl)) rfl) rd_B0)) (fun _ => eb_test (ed_op (ed_var rfl (.int s)) (ed_op ed_int ed_int (rd_I (C := CPow) ⟨by decide, by decide, by decide⟩)) rd_B0))) (ok_none _) (fun _ G7 H7 X7 => ?_) (fun _ G7 H7 X7 => ?_)
      · have S7 := S6.x X7
        refine sq_set (ed_op (ed_op (ed_op (ed_op (ed_var rfl (.int s)) ed_int (rd_I (.inr (by decide)))) (ed_op (ed_op (ed_var rfl S7.d) ed_int (rd_ixL rfl)) ed_int (rd_I (.inr (by decide)))) rd_I0) (ed_op (ed_var rfl S7.d) ed_int (rd_ixL rfl)) rd_I0) ed_int (rd_I (by decide))) (ok_none _) (fun v G8 H8 X8 d8 => ?_)
        obtain rfl := dp_int d8
        have S8 := S7.x X8
        clear d8 X8
        have f0 := Int.emod_nonneg (s * 48271 + (i + 1) * 40692 + m) (show (2147483647 : Int) ≠ 0 by decide)
        have f1 := Int.emod_lt_of_pos (s * 48271 + (i + 1) * 40692 + m) (show (0 : Int) < 2147483647 by decide)
        revert f0 f1
        generalize (s * 48271 + (i + 1) * 40692 + m) % 2147483647 = f
        intro f0 f1
        refine sq_set (ed_op (ed_op (ed_op (ed_var rfl (.int f)) (ed_var rfl (.int f)) (rd_I (.inl ⟨by omega, by omega⟩))) (ed_op (ed_var rfl S8.d) ed_int (rd_ixL rfl)) rd_I0) ed_int (rd_I (by decide))) (ok_none _) (fun v G9 H9 X9 d9 => ?_)
        obtain rfl := dp_int d9
        have S9 := S8.x X9
        refine st_ret (K := K) (ed_op (ed_op (ed_op (ed_op (ed_op (ed_var rfl (.int _)) ed_int (rd_I (.inr (by decide)))) (ed_var rfl (.int f)) rd_I0) ed_int (rd_I (by decide))) ed_int (rd_I (C := CDivW) ⟨by decide, by decide +kernel⟩)) (ed_var rfl (.int u)) (rd_I hu)) (ok_none _) (fun v G10 H10 X10 d10 => ?_)
        obtain rfl := dp_int d10
        exact q _ G _ (Int.emod_nonneg _ (by omega)) (Int.emod_lt_of_pos _ hu) ((S9.x X10).ext e)
      · have S7 := S6.x X7
        refine ⟨_, rfl, .ref b, rfl, b, _, 2, 2, rfl, rfl, S7.h, rfl, ?_⟩
        exact fin (S7.put (i' := i + 1) (r' := s) ncb S7.p)
def isN (u : Int) (d : PyData) : Prop := ∃ n : Int, d = .int n ∧ 0 ≤ n ∧ n < u
theorem es_pull {b c : Addr} {i : Nat} {tb : TE} {σ : L2.St} {G : Hp} {E : XK} {u : Int} (hσ : σ[i]? = some (some (.ref b))) (hu : EvD K (some (b, c)) tb σ G (.int u)) (h0 : 0 < u) (hw : u < 2 ^ 250) :
    EvS K (some (b, c)) (tCall (sp__law_pull K) [] E (tCons (tVar i) (tCons tb tNil))) σ G (isN u) := fun H e Q q =>
  ⟨.ref b, hσ, hu H e _ fun v G2 H2 X dv => ⟨b, c, G2, u, by rw [dp_int dv]; rfl, X.ok, h0, lg h0 hw, fun n G3 H3 h1 h2 X3 => q (.int n) (.int n) G3 H3 ⟨n, rfl, h1, h2⟩ (X.trans X3) (.int n)⟩⟩
theorem es_pullS {b c : Addr} {i : Nat} {tb : TE} {σ : L2.St} {G : Hp} {E : XK} {S : PyData → Prop} {M : Int} (hσ : σ[i]? = some (some (.ref b))) (hu : EvS K (some (b, c)) tb σ G S) (hS : ∀ d, S d → ∃ u : Int, d = .int u ∧ 0 < u ∧ u ≤ M) (hM : M < 2 ^ 250) :
    EvS K (some (b, c)) (tCall (sp__law_pull K) [] E (tCons (tVar i) (tCons tb tNil))) σ G (isN M) := fun H e Q q =>
  ⟨.ref b, hσ, hu H e _ fun d v G2 H2 s X dv => by
    obtain ⟨u, rfl, h0, hu⟩ := hS d s
    exact ⟨b, c, G2, u, by rw [dp_int dv]; rfl, X.ok, h0, lg h0 (by omega), fun n G3 H3 h1 h2 X3 => q (.int n) (.int n) G3 H3 ⟨n, rfl, h1, by omega⟩ (X.trans X3) (.int n)⟩⟩
/-! _law_whole -/
def wholeD : PyData → Bool
  | .int _ => true
  | _ => false
theorem kb_ii : kitB "int" "int" = some true := by decide +kernel
theorem kb_ib : kitB "int" "bool" = some false := by decide +kernel
theorem kb_bi : kitB "bool" "int" = some true := by decide +kernel
theorem kb_bb : kitB "bool" "bool" = some true := by decide +kernel
theorem kb_ni : kitB "NoneType" "int" = some false := by decide +kernel
theorem kb_si : kitB "str" "int" = some false := by decide +kernel
theorem kb_sb : kitB "str" "bool" = some false := by decide +kernel
theorem kb_ss : kitB "str" "str" = some true := by decide +kernel
theorem kb_li : kitB "list" "int" = some false := by decide +kernel
theorem kb_lb : kitB "list" "bool" = some false := by decide +kernel
theorem kb_ls : kitB "list" "str" = some false := by decide +kernel
theorem kb_ll : kitB "list" "list" = some true := by decide +kernel
theorem kb_lt : kitB "list" "tuple" = some false := by decide +kernel
theorem kb_ti : kitB "tuple" "int" = some false := by decide +kernel
theorem kb_tb : kitB "tuple" "bool" = some false := by decide +kernel
theorem kb_ts : kitB "tuple" "str" = some false := by decide +kernel
theorem kb_tl : kitB "tuple" "list" = some false := by decide +kernel
theorem kb_tt : kitB "tuple" "tuple" = some true := by decide +kernel
def sp__law_whole (K : Fg) : Sp := fun vs H Q E => ∃ (B : Bg) (G : Hp) (v : V) (d : PyData), Ok K B G H ∧ vs = [v] ∧ Dp K G v d ∧ Ret K B G H Q (.bool (wholeD d))
abbrev N__law_whole : List Str := ["_law_found"]
theorem sc__law_whole : FnScope N__law_whole ["_law_found"] (defScope s__law_whole) := ⟨rfl, rfl, rfl, by decide +kernel, rfl, by decide +kernel, by decide +kernel⟩
theorem ok__law_whole (T : Txt w K mg)  : Good P w K mg base (L2.CX P w) 1 "_law_whole" ["_law_found"] [] (sp__law_whole K) := by
  obtain ⟨fd, F⟩ := T.c.def_ 5 (d := d__law_whole) rfl
  have b : Binds K fd ["_law_found"] [] := F.bindsN fun _ _ _ _ _ _ us hl => match us, hl with | [_], _ => rfl
  refine ⟨⟨fd, [], F.ok sc__law_whole (fun vs H Q E h => ?_) (fun cdv A outer s H vs Q E hr h => ?_), .nil, b⟩, T.g__law_whole, F.kp⟩
  · obtain ⟨B, G, v, d, e, rfl, _⟩ := h
    all_goals rfl
  · obtain ⟨B, G, v, d, e, rfl, dv, q⟩ := h
    all_goals refine ⟨_, PSs.nox (pss_one (ps_ret (pe_and (pe_callB (r := rIsi K) call_isi (by rfl) T.f_isinstance (by decide +kernel) (pa_cons (pv 0) (pa_cons (pe_bltn (v := .ty "int") (by rfl) T.f_int (by decide +kernel) rfl) pa_nil))) (pe_one (pe_not (pe_callB (r := rIsi K) call_isi (by rfl) T.f_isinstance (by decide +kernel) (pa_cons (pv 0) (pa_cons (pe_bltn (v := .ty "bool") (by rfl) T.f_bool (by decide +kernel) rfl) pa_nil)))))))), ?_⟩
    cases dv with
    | non => exact st_ret (ed_andV (b := false) (c := true) (ed_isi (ed_var rfl .non) kb_ni) (fun z => Bool.noConfusion z)) e q
    | bl x => exact st_ret (ed_andV (b := true) (ed_isi (ed_var rfl (.bl x)) kb_bi) (fun _ => ed_notV (ed_isi (ed_var rfl (.bl x)) kb_bb))) e q
    | int x => exact st_ret (ed_andV (b := true) (ed_isi (ed_var rfl (.int x)) kb_ii) (fun _ => ed_notV (ed_isi (ed_var rfl (.int x)) kb_ib))) e q
    | str x => exact st_ret (ed_andV (b := false) (c := true) (ed_isi (ed_var rfl (.str x)) kb_si) (fun z => Bool.noConfusion z)) e q
    | lst h a => exact st_ret (ed_andV (b := false) (c := true) (ed_isi (ed_var rfl (.lst h a)) kb_li) (fun z => Bool.noConfusion z)) e q
    | tup h a => exact st_ret (ed_andV (b := false) (c := true) (ed_isi (ed_var rfl (.tup h a)) kb_ti) (fun z => Bool.noConfusion z)) e q
theorem ed_whole {B : Bg} {G : Hp} {σ : L2.St} {tr : TA} {E : XK} {d : PyData} (ha : EvA K B tr σ G [d]) : EvD K B (tCall (sp__law_whole K) [] E tr) σ G (.bool (wholeD d)) :=
  ed_call ha fun vs G2 H2 _ e dv Q q => by
    cases dv with
    | cons h a =>
      cases a
      exact ⟨B, G2, _, d, e, rfl, h, q⟩
/-! _law_same -/
/-- data of a depth below n, no list too long -/
def fit : Nat → PyData → Prop
  | 0, _ => False
  | n + 1, .list ds => ds.length ≤ 100000 ∧ ∀ x ∈ ds, fit n x
  | n + 1, .tuple ds => ds.length ≤ 100000 ∧ ∀ x ∈ ds, fit n x
  | _ + 1, .dict _ => False
  | _ + 1, _ => True
theorem fit_int {n : Nat} {i : Int} : fit (n + 1) (.int i) := trivial
theorem fit_str {n : Nat} {i : Str} : fit (n + 1) (.str i) := trivial
theorem fit_bool {n : Nat} {i : Bool} : fit (n + 1) (.bool i) := trivial
theorem fit_none {n : Nat} : fit (n + 1) .none := trivial
theorem fit_tup {n : Nat} {ds : List PyData} (hl : ds.length ≤ 100000) (h : ∀ x ∈ ds, fit n x) : fit (n + 1) (.tuple ds) := ⟨hl, h⟩
theorem fit_lst {n : Nat} {ds : List PyData} (hl : ds.length ≤ 100000) (h : ∀ x ∈ ds, fit n x) : fit (n + 1) (.list ds) := ⟨hl, h⟩
theorem fa_nil {n : Nat} : ∀ x ∈ ([] : List PyData), fit n x := fun _ h => by cases h
theorem fa_cons {n : Nat} {d : PyData} {ds : List PyData} (h : fit n d) (h2 : ∀ x ∈ ds, fit n x) : ∀ x ∈ d :: ds, fit n x := fun x hx => by
  cases hx with
  | head => exact h
  | tail _ q => exact h2 x q
def sp_same (n : Nat) (K : Fg) : Sp := fun vs H Q E => ∃ (B : Bg) (G : Hp) (v u : V) (d : PyData), Ok K B G H ∧ vs = [v, u] ∧ Dp K G v d ∧ Dp K G u d ∧ fit n d ∧ Ret K B G H Q (.bool true)
abbrev sp__law_same (K : Fg) : Sp := sp_same 6 K
theorem ed_same {n : Nat} {B : Bg} {G : Hp} {σ : L2.St} {tr : TA} {E : XK} {d : PyData} (ha : EvA K B tr σ G [d, d]) (hf : fit n d) : EvD K B (tCall (sp_same n K) [] E tr) σ G (.bool true) :=
  ed_call ha fun vs G2 H2 _ e dv Q q => by
    cases dv with
    | cons h a =>
      cases a with
      | cons h2 a2 =>
        cases a2
        exact ⟨B, G2, _, _, d, e, rfl, h, h2, hf, q⟩
theorem all_yes (n : Nat) : (List.range n).filterMap (fun j : Nat => (fun _ : Int => some (PyData.bool true)) (j : Int)) = (List.replicate n true).map PyData.bool := by
  induction n with
  | zero => rfl
  | succ n ih =>
    rw [List.range_succ, List.filterMap_append, ih, List.replicate_succ', List.map_append]
    rfl
theorem at_some {ds : List PyData} {j : Nat} (h : j < ds.length) : atI ds (j : Int) = some ds[j] := atI_nat (List.getElem?_eq_getElem h)
abbrev N__law_same : List Str := ["_law_found", "_law_due", "_law_at"]
theorem sc__law_same : FnScope N__law_same ["_law_found", "_law_due"] (defScope s__law_same) := ⟨rfl, rfl, rfl, by decide +kernel, rfl, by decide +kernel, by decide +kernel⟩
theorem same_ok (T : Txt w K mg) (G__law_whole : Good P w K mg base (L2.CX P w) 1 "_law_whole" ["_law_found"] [] (sp__law_whole K)) : ∀ n : Nat, Good P w K mg base (L2.CX P w) (n + 2) "_law_same" ["_law_found", "_law_due"] [] (sp_same n K)
  | 0 => by
    obtain ⟨fd, F⟩ := T.c.def_ 6 (d := d__law_same) rfl
    have b : Binds K fd ["_law_found", "_law_due"] [] := F.bindsN fun _ _ _ _ _ _ us hl => match us, hl with | [_, _], _ => rfl
    exact ⟨⟨fd, [], ⟨fun vs H Q E h => (by obtain ⟨_, _, _, _, _, _, _, _, _, z, _⟩ := h; exact z.elim), fun A outer s H args us vs Q E hr e0 hb hv h => (by obtain ⟨_, _, _, _, _, _, _, _, _, z, _⟩ := h; exact z.elim)⟩, .nil, b⟩, T.g__law_same, F.kp⟩
  | n + 1 => by
    have G__law_same := same_ok T G__law_whole n
    obtain ⟨fd, F⟩ := T.c.def_ 6 (d := d__law_same) rfl
    have b : Binds K fd ["_law_found", "_law_due"] [] := F.bindsN fun _ _ _ _ _ _ us hl => match us, hl with | [_, _], _ => rfl
    refine ⟨⟨fd, [], F.ok sc__law_same (fun vs H Q E h => ?_) (fun cdv A outer s H vs Q E hr h => ?_), .nil, b⟩, T.g__law_same, F.kp⟩
    · obtain ⟨B, G, v, u, d, e, rfl, _⟩ := h
      rfl
    · obtain ⟨B, G, v, u, d, e, rfl, dv, du, hf, q⟩ := h
      have hr1 : Room 1 _ := hr.mono (Nat.succ_le_succ (Nat.zero_le (n + 1)))
      refine ⟨_, PSs.nox (pss_cons (ps_if (pt_cmpR op_isN (pv 1) pe_non (nomark _)) (pss_one (ps_ret (pe_cmpR op_isN (pv 0) pe_non (nomark _)))) pss_nil) (pss_cons (ps_if (pt_val (pe_callB (r := rIsi K) call_isi (by rfl) T.f_isinstance (by decide +kernel) (pa_cons (pv 1) (pa_cons (pe_bltn (v := .ty "bool") (by rfl) T.f_bool (by decide +kernel) rfl) pa_nil)))) (pss_one (ps_ret (pe_and (pe_callB (r := rIsi K) call_isi (by rfl) T.f_isinstance (by decide +kernel) (pa_cons (pv 0) (pa_cons (pe_bltn (v := .ty "bool") (by rfl) T.f_bool (by decide +kernel) rfl) pa_nil))) (pe_one (pe_cmpR op_eq (pv 0) (pv 1) (nomark _)))))) pss_nil) (pss_cons (ps_if (pt_val (pe_callB (r := rIsi K) call_isi (by rfl) T.f_isinstance (by decide +kernel) (pa_cons (pv 1) (pa_cons (pe_bltn (v := .ty "int") (by rfl) T.f_int (by decide +kernel) rfl) pa_nil)))) (pss_one (ps_ret (pe_and (pe_own G__law_whole hr1 (by rfl) passL (pa_cons (pv 0) pa_nil)) (pe_one (pe_cmpR op_eq (pv 0) (pv 1) (nomark _)))))) pss_nil) (pss_cons (ps_if (pt_val (pe_callB (r := rIsi K) call_isi (by rfl) T.f_isinstance (by decide +kernel) (pa_cons (pv 1) (pa_cons (pe_bltn (v := .ty "str") (by rfl) T.f_str (by decide +kernel) rfl) pa_nil)))) (pss_one (ps_ret (pe_and (pe_callB (r := rIsi K) call_isi (by rfl) T.f_isinstance (by decide +kernel) (pa_cons (pv 0) (pa_cons (pe_bltn (v := .ty "str") (by rfl) T.f_str (by decide +kernel) rfl) pa_nil))) (pe_one (pe_cmpR op_eq (pv 0) (pv 1) (nomark _)))))) pss_nil) (pss_cons (ps_if (PW.pt (pw_or (pt_cmpR op_ne (pe_callB (r := rIsi K) call_isi (by rfl) T.f_isinstance (by decide +kernel) (pa_cons (pv 1) (pa_cons (pe_bltn (v := .ty "list") (by rfl) T.f_list (by decide +kernel) rfl) pa_nil))) (pe_callB (r := rIsi K) call_isi (by rfl) T.f_isinstance (by decide +kernel) (pa_cons (pv 0) (pa_cons (pe_bltn (v := .ty "list") (by rfl) T.f_list (by decide +kernel) rfl) pa_nil))) (nomark _)) (pw_or1 (pt_cmpR op_ne (pe_callB (r := rIsi K) call_isi (by rfl) T.f_isinstance (by decide +kernel) (pa_cons (pv 1) (pa_cons (pe_bltn (v := .ty "tuple") (by rfl) T.f_tuple (by decide +kernel) rfl) pa_nil))) (pe_callB (r := rIsi K) call_isi (by rfl) T.f_isinstance (by decide +kernel) (pa_cons (pv 0) (pa_cons (pe_bltn (v := .ty "tuple") (by rfl) T.f_tuple (by decide +kernel) rfl) pa_nil))) (nomark _))))) (pss_one (ps_ret pe_bl)) pss_nil) (pss_cons (ps_if (pt_cmpR op_ne (pe_callB (r := rLenS K) call_len_seq (by rfl) T.f_len (by decide +kernel) (pa_cons (pv 0) pa_nil)) (pe_callB (r := rLenS K) call_len_seq (by rfl) T.f_len (by decide +kernel) (pa_cons (pv 1) pa_nil)) (nomark _)) (pss_one (ps_ret pe_bl)) pss_nil) (pss_one (ps_ret (pe_callB (r := rAll K) (cr_all rfl) (by rfl) T.f_all (by decide +kernel) (pa_cons (pe_lc (own := [("_law_at", 2)]) (g := gName 2) rfl sc__law_same.nd (pi_range1 (by rfl) T.f_range (pa_cons (pe_callB (r := rLenS K) call_len_seq (by rfl) T.f_len (by decide +kernel) (pa_cons (pv 1) pa_nil)) pa_nil)) (blkOk_by (own := [("_law_at", 2)]) (N := N__law_same) (sc := defScope s__law_same) (by decide +kernel)) (fun _ _ _ _ _ => (pg_name (i := 2) sc__law_same.nd rfl (Or.inl rfl))) (fun _ _ _ _ _ => pts_nil) (fun _ _ _ _ _ => (pe_own G__law_same hr (by rfl) passL (pa_cons (pe_ix (r := rIx K) ix_seq (pv 0) (pv 2) (fun _ _ => rfl)) (pa_cons (pe_ix (r := rIx K) ix_seq (pv 1) (pv 2) (fun _ _ => rfl)) pa_nil))))) pa_nil)))))))))), ?_⟩
      refine sq_if (eb_test (ed_op (ed_var rfl du) ed_non rd_isN)) e (fun c G2 H2 X => ?_) (fun c G2 H2 X => ?_)
      · cases d with
        | none => exact st_ret (ed_op (ed_var rfl (dp_mono X.gg dv)) ed_non rd_isN) X.ok (q.mono X)
        | _ => exact Bool.noConfusion c
      replace q := q.mono X
      replace dv := dp_mono X.gg dv
      replace du := dp_mono X.gg du
      have e2 := X.ok
      cases d with
      | none => exact Bool.noConfusion c
      | bool x =>
        refine sq_if (b := true) (eb_B (ed_isi (ed_var rfl du) kb_bb)) e2 (fun _ G3 H3 X3 => ?_) (fun c _ _ _ => Bool.noConfusion c)
        refine st_ret (d := .bool true) (ed_is (ed_andV (b := true) (ed_isi (ed_var rfl (dp_mono X3.gg dv)) kb_bb) (fun _ => ed_op (ed_var rfl (dp_mono X3.gg dv)) (ed_var rfl (dp_mono X3.gg du)) (rd_eq rfl))) ?_) X3.ok (q.mono X3)
        rw [decide_eq_true (rfl : vOf (.bool x) = vOf (.bool x))]
        rfl
      | int x =>
        refine sq_if (b := false) (eb_B (ed_isi (ed_var rfl du) kb_ib)) e2 (fun c _ _ _ => Bool.noConfusion c) (fun _ G3 H3 X3 => ?_)
        refine sq_if (b := true) (eb_B (ed_isi (ed_var rfl (dp_mono X3.gg du)) kb_ii)) X3.ok (fun _ G4 H4 X4 => ?_) (fun c _ _ _ => Bool.noConfusion c)
        have g := X3.gg.trans X4.gg
        refine st_ret (d := .bool true) (ed_is (ed_andV (b := true) (ed_whole (ea_cons (ed_var rfl (dp_mono g dv)) ea_nil)) (fun _ => ed_op (ed_var rfl (dp_mono g dv)) (ed_var rfl (dp_mono g du)) (rd_eq rfl))) ?_) X4.ok (q.mono (X3.trans X4))
        rw [decide_eq_true (rfl : vOf (.int x) = vOf (.int x))]
        rfl
      | str x =>
        refine sq_if (b := false) (eb_B (ed_isi (ed_var rfl du) kb_sb)) e2 (fun c _ _ _ => Bool.noConfusion c) (fun _ G3 H3 X3 => ?_)
        refine sq_if (b := false) (eb_B (ed_isi (ed_var rfl (dp_mono X3.gg du)) kb_si)) X3.ok (fun c _ _ _ => Bool.noConfusion c) (fun _ G4 H4 X4 => ?_)
        refine sq_if (b := true) (eb_B (ed_isi (ed_var rfl (dp_mono (X3.gg.trans X4.gg) du)) kb_ss)) X4.ok (fun _ G5 H5 X5 => ?_) (fun c _ _ _ => Bool.noConfusion c)
        have g := (X3.gg.trans X4.gg).trans X5.gg
        refine st_ret (d := .bool true) (ed_is (ed_andV (b := true) (ed_isi (ed_var rfl (dp_mono g dv)) kb_ss) (fun _ => ed_op (ed_var rfl (dp_mono g dv)) (ed_var rfl (dp_mono g du)) (rd_eq rfl))) ?_) X5.ok (q.mono ((X3.trans X4).trans X5))
        rw [decide_eq_true (rfl : vOf (.str x) = vOf (.str x))]
        rfl
      | list ds =>
        refine sq_if (b := false) (eb_B (ed_isi (ed_var rfl du) kb_lb)) e2 (fun c _ _ _ => Bool.noConfusion c) (fun _ G3 H3 X3 => ?_)
        refine sq_if (b := false) (eb_B (ed_isi (ed_var rfl (dp_mono X3.gg du)) kb_li)) X3.ok (fun c _ _ _ => Bool.noConfusion c) (fun _ G4 H4 X4 => ?_)
        refine sq_if (b := false) (eb_B (ed_isi (ed_var rfl (dp_mono (X3.gg.trans X4.gg) du)) kb_ls)) X4.ok (fun c _ _ _ => Bool.noConfusion c) (fun _ G5 H5 X5 => ?_)
        have g := (X3.gg.trans X4.gg).trans X5.gg
        replace q := q.mono ((X3.trans X4).trans X5)
        replace dv := dp_mono g dv
        replace du := dp_mono g du
        refine sq_if (b := false) (eb_or (b := false) (eb_test (ed_op (ed_isi (ed_var rfl du) kb_ll) (ed_isi (ed_var rfl dv) kb_ll) (rd_ne rfl))) (fun _ => eb_test (ed_op (ed_isi (ed_var rfl du) kb_lt) (ed_isi (ed_var rfl dv) kb_lt) (rd_ne rfl)))) X5.ok (fun c _ _ _ => Bool.noConfusion c) (fun _ G6 H6 X6 => ?_)
        refine sq_if (b := false) (eb_is (eb_test (ed_op (ed_len (ed_var rfl (dp_mono X6.gg dv)) rfl) (ed_len (ed_var rfl (dp_mono X6.gg du)) rfl) (rd_ne rfl))) (by rw [decide_eq_true (rfl : vOf (.int (ds.length : Int)) = vOf (.int (ds.length : Int)))]; rfl)) X6.ok (fun c _ _ _ => Bool.noConfusion c) (fun _ G7 H7 X7 => ?_)
        have g7 := X6.gg.trans X7.gg
        refine st_ret (d := .bool true) (ed_is (ed_all (bs := List.replicate ds.length true) (EvF.ed (ed_isF (ef_lcR (n := ds.length) (f := fun _ => some (.bool true)) (ea_cons (ed_len (ed_var rfl (dp_mono g7 du)) rfl) ea_nil) hf.1 (fun j _ => eb_yes) (fun j d hj hd => ?_)) (all_yes _)))) (by simp)) X7.ok (q.mono (X6.trans X7))
        obtain rfl := Option.some.inj hd
        exact ed_same (d := ds[j]) (ea_cons (ed_op (ed_var rfl (dp_mono g7 dv)) (ed_var rfl (.int _)) (rd_ixSL (at_some hj))) (ea_cons (ed_op (ed_var rfl (dp_mono g7 du)) (ed_var rfl (.int _)) (rd_ixSL (at_some hj))) ea_nil)) (hf.2 _ (List.getElem_mem hj))
      | tuple ds =>
        refine sq_if (b := false) (eb_B (ed_isi (ed_var rfl du) kb_tb)) e2 (fun c _ _ _ => Bool.noConfusion c) (fun _ G3 H3 X3 => ?_)
        refine sq_if (b := false) (eb_B (ed_isi (ed_var rfl (dp_mono X3.gg du)) kb_ti)) X3.ok (fun c _ _ _ => Bool.noConfusion c) (fun _ G4 H4 X4 => ?_)
        refine sq_if (b := false) (eb_B (ed_isi (ed_var rfl (dp_mono (X3.gg.trans X4.gg) du)) kb_ts)) X4.ok (fun c _ _ _ => Bool.noConfusion c) (fun _ G5 H5 X5 => ?_)
        have g := (X3.gg.trans X4.gg).trans X5.gg
        replace q := q.mono ((X3.trans X4).trans X5)
        replace dv := dp_mono g dv
        replace du := dp_mono g du
        refine sq_if (b := false) (eb_or (b := false) (eb_test (ed_op (ed_isi (ed_var rfl du) kb_tl) (ed_isi (ed_var rfl dv) kb_tl) (rd_ne rfl))) (fun _ => eb_test (ed_op (ed_isi (ed_var rfl du) kb_tt) (ed_isi (ed_var rfl dv) kb_tt) (rd_ne rfl)))) X5.ok (fun c _ _ _ => Bool.noConfusion c) (fun _ G6 H6 X6 => ?_)
        refine sq_if (b := false) (eb_is (eb_test (ed_op (ed_len (ed_var rfl (dp_mono X6.gg dv)) rfl) (ed_len (ed_var rfl (dp_mono X6.gg du)) rfl) (rd_ne rfl))) (by rw [decide_eq_true (rfl : vOf (.int (ds.length : Int)) = vOf (.int (ds.length : Int)))]; rfl)) X6.ok (fun c _ _ _ => Bool.noConfusion c) (fun _ G7 H7 X7 => ?_)
        have g7 := X6.gg.trans X7.gg
        refine st_ret (d := .bool true) (ed_is (ed_all (bs := List.replicate ds.length true) (EvF.ed (ed_isF (ef_lcR (n := ds.length) (f := fun _ => some (.bool true)) (ea_cons (ed_len (ed_var rfl (dp_mono g7 du)) rfl) ea_nil) hf.1 (fun j _ => eb_yes) (fun j d hj hd => ?_)) (all_yes _)))) (by simp)) X7.ok (q.mono (X6.trans X7))
        obtain rfl := Option.some.inj hd
        exact ed_same (d := ds[j]) (ea_cons (ed_op (ed_var rfl (dp_mono g7 dv)) (ed_var rfl (.int _)) (rd_ixST (at_some hj))) (ea_cons (ed_op (ed_var rfl (dp_mono g7 du)) (ed_var rfl (.int _)) (rd_ixST (at_some hj))) ea_nil)) (hf.2 _ (List.getElem_mem hj))
      | dict kvs => exact hf.elim
theorem ok__law_same (T : Txt w K mg) (G__law_whole : Good P w K mg base (L2.CX P w) 1 "_law_whole" ["_law_found"] [] (sp__law_whole K)) : Good P w K mg base (L2.CX P w) 8 "_law_same" ["_law_found", "_law_due"] [] (sp_same 6 K) := same_ok T G__law_whole 6
/-! _law_figures -/
def figD (a : Str) : PyData := if numB a = true then .int (valT a) else .none
def sp__law_figures (K : Fg) : Sp := fun vs H Q E => ∃ (B : Bg) (G : Hp) (a : Str), Ok K B G H ∧ vs = [.str a] ∧ a.length ≤ 10000 ∧ Asc a ∧ Ret K B G H Q (figD a)
theorem sgn0 {c : Nat} : decide (vOf (.str ⟨#[c]⟩) = vOf (.str "0")) = decide (some c = some 48) := by
  rw [dsB]
  refine decide_eq_decide.mpr ⟨fun z => ?_, fun z => ?_⟩
  · have := congrArg TL.tl z
    have e : TL.tl "0" = [48] := by rfl
    rw [e] at this
    injection this with this
    exact congrArg some this
  · obtain rfl := Option.some.inj z
    rfl
abbrev N__law_figures : List Str := ["_law_word", "_law_sign"]
theorem sc__law_figures : FnScope N__law_figures ["_law_word"] (defScope s__law_figures) := ⟨rfl, rfl, rfl, by decide +kernel, rfl, by decide +kernel, by decide +kernel⟩
theorem ok__law_figures (T : Txt w K mg)  : Good P w K mg base (L2.CX P w) 1 "_law_figures" ["_law_word"] [] (sp__law_figures K) := by
  obtain ⟨fd, F⟩ := T.c.def_ 7 (d := d__law_figures) rfl
  have b : Binds K fd ["_law_word"] [] := F.bindsN fun _ _ _ _ _ _ us hl => match us, hl with | [_], _ => rfl
  refine ⟨⟨fd, [], F.ok sc__law_figures (fun vs H Q E h => ?_) (fun cdv A outer s H vs Q E hr h => ?_), .nil, b⟩, T.g__law_figures, F.kp⟩
  · obtain ⟨B, G, a, e, rfl, _⟩ := h
    all_goals rfl
  · obtain ⟨B, G, a, e, rfl, hl, ha, q⟩ := h
    all_goals refine ⟨_, PSs.nox (pss_cons (ps_if (PW.pt (pw_or (pt_cmpR (r := rNotInTD K) (op_notInTD (hu65 hr)) (pe_callB (r := rLenT) call_len_str (by rfl) T.f_len (by decide +kernel) (pa_cons (pv 0) pa_nil)) (pe_tup (pa_cons pe_int (pa_cons pe_int (pa_cons pe_int pa_nil)))) (by rfl)) (pw_or1 (PW.pt (pw_and (pt_cmpR op_gt (pe_callB (r := rLenT) call_len_str (by rfl) T.f_len (by decide +kernel) (pa_cons (pv 0) pa_nil)) pe_int (nomark _)) (pw_and1 (pt_cmpR op_eq (pe_ix ix_str (pv 0) pe_int (fun _ _ => rfl)) pe_str (nomark _)))))))) (pss_one (ps_ret pe_non)) pss_nil) (pss_cons (ps_for PassesOwn.never rfl (pi_str (pv 0)) (pg_name (i := 1) sc__law_figures.nd rfl (Or.inl rfl)) (pss_one (ps_if (pt_cmpR op_notIn_sign (pv 1) pe_str (by rfl)) (pss_one (ps_ret pe_non)) pss_nil))) (pss_one (ps_ret (pe_callTy (r := rIntT) call_int_str (by rfl) T.f_int (by decide +kernel) (pa_cons (pv 0) pa_nil)))))), ?_⟩
    rw [show figD a = if figB a = true then .int (valT a) else .none from by rw [fig_num ha]; rfl] at q
    unfold figB at q
    refine sq_ifN (b := !(decide ((a.length : Int) ∈ [1, 2, 3]) && !(decide ((1 : Int) < (a.length : Int)) && decide (atI (TL.tl a) 0 = some 48)))) (eb_is (eb_or (b := !decide ((a.length : Int) ∈ [1, 2, 3])) (c := decide ((1 : Int) < (a.length : Int)) && decide (atI (TL.tl a) 0 = some 48)) (eb_test (ed_op (ed_lenT (ed_var rfl (.str a)) (by omega)) (ed_tup (ea_cons ed_int (ea_cons ed_int (ea_cons ed_int ea_nil))) (Nat.le_of_ble_eq_true rfl)) (rd_notInTI (ns := [1, 2, 3])))) (fun _ => eb_and (b := decide ((1 : Int) < (a.length : Int))) (c := decide (atI (TL.tl a) 0 = some 48)) (eb_test (ed_op (ed_lenT (ed_var rfl (.str a)) (by omega)) ed_int rd_B0)) (fun h2 => ?_))) ?_) e (fun c G2 H2 X2 => ?_) (fun c G2 H2 X2 => ?_)
    · have l2 := of_decide_eq_true h2
      obtain ⟨c, hc⟩ : ∃ c, atI (TL.tl a) 0 = some c := by
        have l : 0 < (TL.tl a).length := by
          rw [← TL.len_tl]
          omega
        exact ⟨(TL.tl a)[0], show atI (TL.tl a) ((0 : Nat) : Int) = some _ from atI_nat (List.getElem?_eq_getElem l)⟩
      rw [hc]
      exact eb_is (eb_test (ed_op (ed_op (ed_var rfl (.str a)) ed_int (rd_ixS hc (by omega))) ed_str (rd_eq rfl))) sgn0
    · cases decide ((a.length : Int) ∈ [1, 2, 3]) <;> cases decide ((1 : Int) < (a.length : Int)) <;> cases decide (atI (TL.tl a) 0 = some 48) <;> rfl
    · have cf : (decide ((a.length : Int) ∈ [1, 2, 3]) && !(decide ((1 : Int) < (a.length : Int)) && decide (atI (TL.tl a) 0 = some 48))) = false := by
        cases z : (decide ((a.length : Int) ∈ [1, 2, 3]) && !(decide ((1 : Int) < (a.length : Int)) && decide (atI (TL.tl a) 0 = some 48))) with
        | false => rfl
        | true =>
          rw [z] at c
          cases c
      rw [cf, Bool.false_and, if_neg Bool.false_ne_true] at q
      exact st_ret ed_non X2.ok (q.mono X2)
    have c : (decide ((a.length : Int) ∈ [1, 2, 3]) && !(decide ((1 : Int) < (a.length : Int)) && decide (atI (TL.tl a) 0 = some 48))) = true := by
      cases z : (decide ((a.length : Int) ∈ [1, 2, 3]) && !(decide ((1 : Int) < (a.length : Int)) && decide (atI (TL.tl a) 0 = some 48))) with
      | true => rfl
      | false =>
        rw [z] at c
        cases c
    rw [c, Bool.true_and] at q
    have l3 : 1 ≤ a.length ∧ a.length ≤ 3 := by
      have m := of_decide_eq_true (Bool.and_eq_true_iff.mp c).1
      simp only [List.mem_cons, List.not_mem_nil, or_false] at m
      omega
    refine sq_forS (Pv := fun j σ' _ _ => ∃ y1, σ' = [some (.str a), y1] ∧ ∀ k c, k < j → (TL.tl a)[k]? = some c → c ∈ TL.tl "0123456789") (ed_var rfl (.str a)) X2.ok (fun _ _ _ => ⟨_, rfl, fun k c h => absurd h (Nat.not_lt_zero k)⟩) (fun G3 H3 X3 j c σ4 G4 H4 hj X4 pv => ?_) (fun σ4 G4 H4 X4 pv => ?_)
    · obtain ⟨y1, rfl, hd⟩ := pv
      refine st_ifD (b := !decide (c ∈ TL.tl "0123456789")) (eb_test (ed_op (ed_var rfl (.str _)) ed_str rd_sign)) X4.ok (fun cc G5 H5 X5 => ?_) (fun cc G5 H5 X5 => ?_)
      · have nc : c ∉ TL.tl "0123456789" := by simpa using cc
        have al : ((TL.tl a).all fun c => decide (c ∈ TL.tl "0123456789")) = false := by
          cases z : (TL.tl a).all fun c => decide (c ∈ TL.tl "0123456789") with
          | false => rfl
          | true => exact absurd (of_decide_eq_true (List.all_eq_true.mp z c (List.mem_of_getElem? hj))) nc
        rw [al, if_neg Bool.false_ne_true] at q
        exact st_ret ed_non X5.ok (q.mono (X2.trans (X3.trans (X4.trans X5))))
      · have yc : c ∈ TL.tl "0123456789" := by simpa using cc
        refine ⟨G5, X4.trans X5, _, rfl, fun k c' hk hc' => ?_⟩
        rcases Nat.lt_or_ge k j with z | z
        · exact hd k c' z hc'
        · obtain rfl : k = j := by omega
          rw [hj] at hc'
          obtain rfl := Option.some.inj hc'
          exact yc
    · obtain ⟨y1, rfl, hd⟩ := pv
      have dig : NumText.AllDigits (TL.tl a) := fun c hc => by
        obtain ⟨k, hk, e⟩ := List.mem_iff_getElem.mp hc
        exact (sign_dig c).mp (hd k c hk (by rw [List.getElem?_eq_getElem hk, e]))
      have al : ((TL.tl a).all fun c => decide (c ∈ TL.tl "0123456789")) = true := List.all_eq_true.mpr fun c hc => decide_eq_true ((sign_dig c).mpr (dig c hc))
      rw [al, if_pos rfl] at q
      have n0 : TL.tl a ≠ [] := fun z => by
        have := TL.len_tl a
        rw [z] at this
        have : a.length = 0 := this
        omega
      exact st_ret (ed_intT (ed_var rfl (.str a)) (int_of dig n0 (by omega)) (by omega)) X4.ok (q.mono (X2.trans X4))
theorem ed_figures {B : Bg} {G : Hp} {σ : L2.St} {tr : TA} {E : XK} {a : Str} (h : EvA K B tr σ G [.str a]) (hl : a.length ≤ 10000) (ha : Asc a) : EvD K B (tCall (sp__law_figures K) [] E tr) σ G (figD a) :=
  ed_call h fun vs G2 H2 _ e dv Q q => by
    obtain rfl := dpAll_strs (ys := [a]) dv
    exact ⟨B, G2, a, e, rfl, hl, ha, q⟩
/-! _law_deed_in -/
def sp__law_deed_in (K : Fg) : Sp := fun vs H Q E => ∃ (B : Bg) (G : Hp) (a : Str), Ok K B G H ∧ vs = [.str a] ∧ a.length ≤ 5000 ∧ Asc a ∧ (∀ wd rs n, isDeedW (Txt.split a " ") wd rs n → Ret K B G H Q (deedOf wd rs)) ∧ ((∀ wd rs n, ¬ isDeedW (Txt.split a " ") wd rs n) → Ret K B G H Q .none)
def figF : PyData → Option PyData
  | .str a => some (figD a)
  | _ => none
theorem figF_all (ws : List Str) : (ws.map PyData.str).filterMap figF = ws.map figD := by
  induction ws with
  | nil => rfl
  | cons a ws ih =>
    rw [List.map_cons, List.filterMap_cons, ih]
    rfl
theorem cut1 (x : PyData) (xs : List PyData) : Lw.cutD (x :: xs) (some 1) none = xs := by
  unfold Lw.cutD
  have e1 : HT.sIx (x :: xs).length 0 (some 1) = 1 := by
    unfold HT.sIx
    simp only [List.length_cons]
    split <;> omega
  have e2 : HT.sIx (x :: xs).length (x :: xs).length none = (x :: xs).length := rfl
  rw [e1, e2]
  show List.take ((xs.length + 1) - 1) xs = xs
  rw [Nat.add_sub_cancel, List.take_length]
theorem fig_non (ws : List Str) : ((ws.map figD).any fun z => PyData.eqv z .none) = !(ws.map numB).all id := by
  induction ws with
  | nil => rfl
  | cons a ws ih =>
    rw [List.map_cons, List.any_cons, ih, List.map_cons, List.all_cons]
    unfold figD
    cases numB a with
    | true => simp [PyData.eqv]
    | false => simp [PyData.eqv]
theorem fig_int {ws : List Str} (h : (ws.map numB).all id = true) : ws.map figD = (ws.map valT).map PyData.int := by
  rw [List.map_map]
  refine List.map_congr_left fun a ha => ?_
  have := List.all_eq_true.mp h (numB a) (List.mem_map.mpr ⟨a, ha, rfl⟩)
  unfold figD
  exact if_pos this
theorem shp_figs (ws : List Str) : SeqAt.shaped (.list (ws.map figD)) = true := by
  have : ∀ ws : List Str, PyData.canLayAll0 (ws.map figD) = true ∧ PyData.depthAll (ws.map figD) = 0 := fun ws => by
    induction ws with
    | nil => exact ⟨by simp [PyData.canLayAll0], by simp [PyData.depthAll]⟩
    | cons a ws ih =>
      obtain ⟨h1, h2⟩ := ih
      rw [List.map_cons]
      unfold figD
      cases numB a with
      | true => exact ⟨by simp [PyData.canLayAll0, PyData.canLay0]; exact h1, by simp [PyData.depthAll, PyData.depth]; exact h2⟩
      | false => exact ⟨by simp [PyData.canLayAll0, PyData.canLay0]; exact h1, by simp [PyData.depthAll, PyData.depth]; exact h2⟩
  obtain ⟨k1, k2⟩ := this ws
  exact shp (by simp [PyData.canLay0, k1]) (by simp only [PyData.depth]; omega)
abbrev N__law_deed_in : List Str := ["_law_text", "_law_words", "_law_forms", "_law_rest", "_law_word"]
theorem sc__law_deed_in : FnScope N__law_deed_in ["_law_text"] (defScope s__law_deed_in) := ⟨rfl, rfl, rfl, by decide +kernel, rfl, by decide +kernel, by decide +kernel⟩
theorem ok__law_deed_in (T : Txt w K mg) (G__law_figures : Good P w K mg base (L2.CX P w) 1 "_law_figures" ["_law_word"] [] (sp__law_figures K)) : Good P w K mg base (L2.CX P w) 2 "_law_deed_in" ["_law_text"] [] (sp__law_deed_in K) := by
  obtain ⟨fd, F⟩ := T.c.def_ 8 (d := d__law_deed_in) rfl
  have b : Binds K fd ["_law_text"] [] := F.bindsN fun _ _ _ _ _ _ us hl => match us, hl with | [_], _ => rfl
  refine ⟨⟨fd, [], F.ok sc__law_deed_in (fun vs H Q E h => ?_) (fun cdv A outer s H vs Q E hr h => ?_), .nil, b⟩, T.g__law_deed_in, F.kp⟩
  · obtain ⟨B, G, a, e, rfl, _⟩ := h
    all_goals rfl
  · obtain ⟨B, G, a, e, rfl, hl, ha, q, r⟩ := h
    all_goals refine ⟨_, PSs.nox (pss_cons (ps_set (i := 1) sc__law_deed_in.nd rfl (Or.inl rfl) (pe_split (pv 0) pe_str)) (pss_cons (ps_set (i := 2) sc__law_deed_in.nd rfl (Or.inl rfl) (pe_disp (pps_cons pe_str pe_int (pps_cons pe_str pe_int (pps_cons pe_str pe_int (pps_cons pe_str pe_int pps_nil)))) (by rfl) (by rfl) (fun z => by cases z) (by decide))) (pss_cons (ps_setLc (i := 3) (own := [("_law_word", 4)]) (g := gName 4) rfl sc__law_deed_in.nd rfl rfl (sw_true rfl rfl rfl (by decide +kernel)) (pi_list (pe_slice (r := rSlL K) sl_list (pv 1) (po_some pe_int) po_none)) (blkOk_by (own := [("_law_word", 4)]) (N := N__law_deed_in) (sc := defScope s__law_deed_in) (by decide +kernel)) (fun _ _ _ _ _ => (pg_name (i := 4) sc__law_deed_in.nd rfl (Or.inl rfl))) (fun _ _ _ _ _ => pts_nil) (fun _ _ _ _ _ => (pe_own G__law_figures (hr.mono (by decide)) (by rfl) passL (pa_cons (pv 4) pa_nil)))) (pss_cons (ps_if (PW.pt (pw_or (pt_cmp (pc_dnotin (hu_of hr) (pe_ix (r := rIxL K) ix_list (pv 1) pe_int (fun _ _ => rfl)) (pv 2))) (pw_or (pt_cmpR op_ne (pe_callB (r := rLenS K) call_len_seq (by rfl) T.f_len (by decide +kernel) (pa_cons (pv 3) pa_nil)) (pe_dget (hu_of hr) (pv 2) (pe_ix (r := rIxL K) ix_list (pv 1) pe_int (fun _ _ => rfl)) (fun _ _ => rfl)) (nomark _)) (pw_or1 (pt_cmpR (r := rInD K) (op_inD (hu65 hr)) pe_non (pv 3) (by rfl)))))) (pss_one (ps_ret pe_non)) pss_nil) (pss_one (ps_ret (pe_op (r := rCatT K) op_catT (pe_tup (pa_cons (pe_ix (r := rIxL K) ix_list (pv 1) pe_int (fun _ _ => rfl)) pa_nil)) (pe_callTy (r := rTupS K) call_tuple_of (by rfl) T.f_tuple (by decide +kernel) (pa_cons (pv 3) pa_nil))))))))), ?_⟩
    obtain ⟨wd, rs, hsp, _⟩ := split_words a
    have sm := split_small a
    have sa := split_asc ha
    rw [hsp] at sm sa q r
    have hr0 : rs.length ≤ 10000 := by
      have := sm.1
      rw [List.length_cons] at this
      omega
    have hs : ∀ z ∈ rs, z.length ≤ 10000 ∧ Asc z := fun z hz => by
      have := sm.2 z (List.mem_cons_of_mem _ hz)
      exact ⟨by omega, sa z (List.mem_cons_of_mem _ hz)⟩
    refine sq_set (ed_is (EvF.ed (ef_split (ed_var rfl (.str a)) ed_str (by rfl) (by omega))) (by rw [hsp])) e (fun v1 G1 H1 X1 d1 => ?_)
    intro p hp
    refine ⟨upd_same, cntsI.map (fun q => (Sum.inr q.1, V.int q.2)), rfl, by decide, ?_⟩
    have em : mergeK [] (cntsI.map fun q => ((Sum.inr q.1 : Key), V.int q.2)) = kvS cntsI := by decide
    rw [em]
    have eu : upd (upd H1 p (.dK [])) p (.dK (kvS cntsI)) = upd H1 p (.dK (kvS cntsI)) := by
      funext b
      by_cases c : b = p
      · rw [c, upd_same, upd_same]
      · rw [upd_ne c, upd_ne c, upd_ne c]
    rw [eu]
    have X2 := Ext.new (o := .dK (kvS cntsI)) X1.ok hp
    have gp : upd G1 p (.dK (kvS cntsI)) p = some (.dK (kvS cntsI)) := upd_same
    have d1' := dp_mono X2.gg d1
    generalize upd G1 p (.dK (kvS cntsI)) = G2 at X2 gp d1'
    generalize upd H1 p (.dK (kvS cntsI)) = H2 at X2
    refine sq_set (EvF.ed (ed_isF (ef_lcL (ds := rs.map PyData.str) (f := figF) (ed_is (ed_slL (ed_var rfl d1') (eo_some ed_int) eo_none) (by rw [show (wd :: rs).map PyData.str = PyData.str wd :: rs.map PyData.str from rfl, cut1])) (by rw [List.length_map]; omega) (fun d u G' md eg cg du => ?_) (fun d u y G' md eg cg du ey => ?_)) (figF_all rs))) X2.ok (fun v3 G3 H3 X3 d3 => ?_)
    · obtain ⟨z, _, rfl⟩ := List.mem_map.mp md
      exact eb_yes
    · obtain ⟨z, mz, rfl⟩ := List.mem_map.mp md
      obtain rfl := Option.some.inj ey
      obtain rfl := dp_str du
      exact ed_figures (ea_cons (ed_var rfl (.str z)) ea_nil) (hs z mz).1 (hs z mz).2
    have d1'' := dp_mono X3.gg d1'
    have gp' := X3.gg _ _ gp
    have w0 : ∀ {σ : L2.St} {G' : Hp}, σ[1]? = some (some v1) → Ex G3 G' → EvD K B (tOp (rIxL K) (tVar 1) (tC (.int 0))) σ G' (.str wd) := fun hσ eg => ed_op (ed_var hσ (dp_mono eg d1'')) ed_int (rd_ixL (i := 0) (show atI ((wd :: rs).map PyData.str) ((0 : Nat) : Int) = some (.str wd) from atI_nat rfl))
    have Y := (X1.trans X2).trans X3
    by_cases c1 : wd ∈ cntsI.map (·.1)
    rotate_left
    · refine sq_ifN (b := true) (eb_is (eb_or (b := true) (c := true) (eb_is (eb_B (ed_notInD (w0 rfl (Ex.refl _)) rfl gp' cnts_nd)) (by rw [decide_eq_false c1]; rfl)) (fun c => by cases c)) rfl) X3.ok (fun _ G4 H4 X4 => ?_) (fun c => by cases c)
      refine st_ret ed_non X4.ok ((r fun wd' rs' n' h => c1 ?_).mono (Y.trans X4))
      obtain ⟨e1, e2, _⟩ := h
      injection e1 with e1 _
      rw [e1]
      exact List.mem_map.mpr ⟨_, e2, rfl⟩
    obtain ⟨⟨_, n⟩, hq, rfl⟩ := List.mem_map.mp c1
    have b1 : EvB K B (tB (tDNotIn (tOp (rIxL K) (tVar 1) (tC (.int 0))) (tVar 2))) [some (.str a), some v1, some (.ref p), some v3, none] G3 false := eb_is (eb_B (ed_notInD (i := 2) (w0 rfl (Ex.refl _)) rfl gp' cnts_nd)) (by rw [decide_eq_true c1]; rfl)
    have b2 : EvB K B (tTest (tOp rNe (tCB (rLenS K) (tCons (tVar 3) tNil)) (tDGet (tVar 2) (tOp (rIxL K) (tVar 1) (tC (.int 0)))))) [some (.str a), some v1, some (.ref p), some v3, none] G3 (!decide ((rs.length : Int) = n)) := eb_is (eb_test (ed_op (ed_len (n := rs.length) (ed_var rfl d3) (congrArg some (List.length_map _))) (ed_getD (w0 rfl (Ex.refl _)) rfl gp' cnts_nd hq) (rd_ne rfl))) (by rw [diI])
    have b3 : EvB K B (tTest (tOp (rInD K) (tC .non) (tVar 3))) [some (.str a), some v1, some (.ref p), some v3, none] G3 (!(rs.map numB).all id) := eb_test (ed_op ed_non (ed_var rfl d3) (fun u v G4 H4 _ e4 du dv Q q => ⟨.none, rs.map figD, dp_mono e4.e du, dp_mono e4.e dv, shp_none, shp_figs rs, by rw [fig_non]; exact q.here e4 (.bl _)⟩))
    have hbe : (!decide ((rs.length : Int) = n) || !(rs.map numB).all id) = !numsB rs n := by
      unfold numsB
      cases decide ((rs.length : Int) = n) <;> cases (rs.map numB).all id <;> rfl
    refine sq_ifN (b := !numsB rs n) (eb_is (eb_or (b := false) b1 (fun _ => eb_or b2 (fun _ => b3))) (by rw [hbe]; rfl)) X3.ok (fun c G4 H4 X4 => ?_) (fun c G4 H4 X4 => ?_)
    · have hb : numsB rs n = false := by simpa using c
      refine st_ret ed_non X4.ok ((r fun wd' rs' n' h => ?_).mono (Y.trans X4))
      obtain ⟨e1, e2, e3⟩ := h
      injection e1 with e1 e4
      subst e4
      have e2' : ((wd', n').1, n') ∈ cntsI := e2
      rw [show wd' = _ from e1.symm] at e2
      rw [cnt_one e2 hq, hb] at e3
      cases e3
    · have hb : numsB rs n = true := by simpa using c
      have d3' := dp_mono X4.gg d3
      have fi := fig_int (Bool.and_eq_true_iff.mp hb).2
      refine st_ret (d := deedOf _ rs) (ed_is (ed_op (ed_tup (ea_cons (w0 rfl X4.gg) ea_nil) (Nat.le_of_ble_eq_true rfl)) (ed_tupOf (ed_var rfl d3')) (rd_catT (List.cons_ne_nil _ _) (fun z => ?_) ?_)) (by rw [fi]; rfl)) X4.ok ((q _ rs n ⟨rfl, hq, hb⟩).mono (Y.trans X4))
      · have l0 : rs.length = 0 := by
          rw [List.map_eq_nil_iff.mp z]
          rfl
        have ln := of_decide_eq_true (Bool.and_eq_true_iff.mp hb).1
        have n1 : 1 ≤ n := by
          have hq := hq
          simp only [cntsI, List.mem_cons, List.not_mem_nil, or_false, Prod.mk.injEq] at hq
          omega
        omega
      · rw [List.length_map]
        show 1 + rs.length ≤ 100000
        omega

/-! _law_line -/
def deedL (wd : Str) (ns : List Nat) : PyData := .tuple (.str wd :: ns.map fun n : Nat => .int (n : Int))
def strL : PyData → Option PyData
  | .str a => some (.str a)
  | .int i => some (.str (txtOf i))
  | _ => none
theorem strL_all (wd : Str) (ns : List Nat) : (PyData.str wd :: ns.map fun n : Nat => PyData.int (n : Int)).filterMap strL = (wd :: ns.map fun n : Nat => txtOf (n : Int)).map PyData.str := by
  show PyData.str wd :: _ = PyData.str wd :: _
  congr 1
  induction ns with
  | nil => rfl
  | cons a ws ih =>
    rw [List.map_cons, List.filterMap_cons, ih]
    rfl
def sp__law_line (K : Fg) : Sp := fun vs H Q E => ∃ (B : Bg) (G : Hp) (v : V) (wd : Str) (ns : List Nat), Ok K B G H ∧ vs = [v] ∧ Dp K G v (deedL wd ns) ∧ wd.length ≤ 10 ∧ ns.length ≤ 10 ∧ (∀ n ∈ ns, n < 1000) ∧ Ret K B G H Q (.str (lineS wd ns))
abbrev N__law_line : List Str := ["_law_deed", "_law_word"]
theorem sc__law_line : FnScope N__law_line ["_law_deed"] (defScope s__law_line) := ⟨rfl, rfl, rfl, by decide +kernel, rfl, by decide +kernel, by decide +kernel⟩
theorem ok__law_line (T : Txt w K mg)  : Good P w K mg base (L2.CX P w) 1 "_law_line" ["_law_deed"] [] (sp__law_line K) := by
  obtain ⟨fd, F⟩ := T.c.def_ 9 (d := d__law_line) rfl
  have b : Binds K fd ["_law_deed"] [] := F.bindsN fun _ _ _ _ _ _ us hl => match us, hl with | [_], _ => rfl
  refine ⟨⟨fd, [], F.ok sc__law_line (fun vs H Q E h => ?_) (fun cdv A outer s H vs Q E hr h => ?_), .nil, b⟩, T.g__law_line, F.kp⟩
  · obtain ⟨B, G, v, wd, ns, e, rfl, _⟩ := h
    all_goals rfl
  · obtain ⟨B, G, v, wd, ns, e, rfl, dv, hw, hn, hs, q⟩ := h
    all_goals refine ⟨_, PSs.nox (pss_one (ps_ret (pe_join pe_str (pe_lc (own := [("_law_word", 1)]) (g := gName 1) rfl sc__law_line.nd (pi_tup (pv 0)) (blkOk_by (own := [("_law_word", 1)]) (N := N__law_line) (sc := defScope s__law_line) (by decide +kernel)) (fun _ _ _ _ _ => (pg_name (i := 1) sc__law_line.nd rfl (Or.inl rfl))) (fun _ _ _ _ _ => pts_nil) (fun _ _ _ _ _ => (pe_callTy (r := rStrV) cr_str (by rfl) T.f_str (by decide +kernel) (pa_cons (pv 1) pa_nil))))))), ?_⟩
    refine st_ret (ed_join ed_str (EvF.ed (ed_isF (ef_lcT (f := strL) (ed_var rfl dv) (by rw [List.length_cons, List.length_map]; omega) (fun d u G' md eg cg du => ?_) (fun d u y G' md eg cg du ey => ?_)) (strL_all wd ns))) (join_small (n := 11) (k := 10) (by rw [List.length_cons, List.length_map]; omega) (fun p hp => ?_) (by decide))) e q
    · rcases mem_c md with rfl | md
      · exact eb_yes
      · obtain ⟨a, _, rfl⟩ := List.mem_map.mp md
        exact eb_yes
    · rcases mem_c md with rfl | md
      · obtain rfl := Option.some.inj ey
        exact ed_strS (ed_var rfl du)
      · obtain ⟨a, ha, rfl⟩ := List.mem_map.mp md
        obtain rfl := Option.some.inj ey
        have := hs a ha
        exact ed_strI (ed_var rfl du) (log_lt (by omega) (by omega))
    · rcases mem_c hp with rfl | hp
      · exact hw
      · obtain ⟨n, hn', rfl⟩ := List.mem_map.mp hp
        have := txt_len (hs n hn')
        omega
theorem ed_line {B : Bg} {G : Hp} {σ : L2.St} {tr : TA} {E : XK} {wd : Str} {ns : List Nat} (h : EvA K B tr σ G [deedL wd ns]) (hw : wd.length ≤ 10) (hn : ns.length ≤ 10) (hs : ∀ n ∈ ns, n < 1000) : EvD K B (tCall (sp__law_line K) [] E tr) σ G (.str (lineS wd ns)) :=
  ed_call h fun vs G2 H2 _ e dv Q q => by
    cases dv with
    | cons h0 a0 =>
      cases a0
      exact ⟨B, G2, _, wd, ns, e, rfl, h0, hw, hn, hs, q⟩
/-! _law_plain -/
def isForm (wd : Str) (m : Nat) : Prop := (wd = "lay" ∧ m = 4) ∨ (wd = "pull" ∧ m = 4) ∨ (wd = "glaze" ∧ m = 2) ∨ (wd = "shatter" ∧ m = 1)
structure Deed (wd : Str) (ns : List Nat) : Prop where
  f : isForm wd ns.length
  s : ∀ n ∈ ns, n < 1000
def isDeed (d : PyData) : Prop := ∃ (wd : Str) (ns : List Nat), Deed wd ns ∧ d = .tuple (.str wd :: ns.map fun n : Nat => .int (n : Int))
def sp__law_plain (K : Fg) : Sp := fun vs H Q E => ∃ (b c : Addr) (G : Hp), Ok K (some (b, c)) G H ∧ vs = [.ref b] ∧ RetS K (some (b, c)) G H Q isDeed
def isPair (d : PyData) : Prop := ∃ (wd : Str) (m : Nat), isForm wd m ∧ d = .tuple [.str wd, .int (m : Int)]
theorem form_len {wd : Str} {m : Nat} (h : isForm wd m) : 1 ≤ m ∧ m ≤ 4 := by
  rcases h with ⟨_, rfl⟩ | ⟨_, rfl⟩ | ⟨_, rfl⟩ | ⟨_, rfl⟩ <;> decide
theorem nats_of : ∀ (l : List PyData), (∀ d ∈ l, ∃ n : Int, d = .int n ∧ 0 ≤ n ∧ n < 1000) → ∃ ns : List Nat, l = ns.map (fun n : Nat => PyData.int (n : Int)) ∧ ∀ n ∈ ns, n < 1000
  | [], _ => ⟨[], rfl, fun _ h => by cases h⟩
  | d :: l, h => by
    obtain ⟨n, rfl, h0, h1⟩ := h d List.mem_cons_self
    obtain ⟨ns, rfl, hs⟩ := nats_of l fun x hx => h x (List.mem_cons_of_mem _ hx)
    refine ⟨n.toNat :: ns, ?_, fun k hk => ?_⟩
    · have : ((n.toNat : Nat) : Int) = n := by omega
      rw [List.map_cons, this]
    · rcases mem_c hk with rfl | hk
      · omega
      · exact hs k hk
abbrev N__law_plain : List Str := ["_law_bag_here", "_law_forms", "_law_word", "_law_many", "_law_k"]
theorem sc__law_plain : FnScope N__law_plain ["_law_bag_here"] (defScope s__law_plain) := ⟨rfl, rfl, rfl, by decide +kernel, rfl, by decide +kernel, by decide +kernel⟩
theorem ok__law_plain (T : Txt w K mg) (G__law_pull : Good P w K mg base (L2.CX P w) 1 "_law_pull" ["_law_bag_here", "_law_upto"] [] (sp__law_pull K)) : Good P w K mg base (L2.CX P w) 2 "_law_plain" ["_law_bag_here"] [] (sp__law_plain K) := by
  obtain ⟨fd, F⟩ := T.c.def_ 10 (d := d__law_plain) rfl
  have b : Binds K fd ["_law_bag_here"] [] := F.bindsN fun _ _ _ _ _ _ us hl => match us, hl with | [_], _ => rfl
  refine ⟨⟨fd, [], F.ok sc__law_plain (fun vs H Q E h => ?_) (fun cdv A outer s H vs Q E hr h => ?_), .nil, b⟩, T.g__law_plain, F.kp⟩
  · obtain ⟨b, c, G, e, rfl, _⟩ := h
    all_goals rfl
  · obtain ⟨b, c, G, e, rfl, q⟩ := h
    all_goals refine ⟨_, PSs.nox (pss_cons (ps_set (i := 1) sc__law_plain.nd rfl (Or.inl rfl) (pe_lst (pa_cons (pe_tup (pa_cons pe_str (pa_cons pe_int pa_nil))) (pa_cons (pe_tup (pa_cons pe_str (pa_cons pe_int pa_nil))) (pa_cons (pe_tup (pa_cons pe_str (pa_cons pe_int pa_nil))) (pa_cons (pe_tup (pa_cons pe_str (pa_cons pe_int pa_nil))) pa_nil)))))) (pss_cons (ps_asg (pe_ix (r := rIxL K) ix_list (pv 1) (pe_own G__law_pull (hr.mono (by decide)) (by rfl) passL (pa_cons (pv 0) (pa_cons pe_int pa_nil))) (fun _ _ => rfl)) (pg_tup rfl (pgs_cons (by exact (pg_name (i := 2) sc__law_plain.nd rfl (Or.inl rfl))) (pgs_cons (by exact (pg_name (i := 3) sc__law_plain.nd rfl (Or.inl rfl))) pgs_nil)))) (pss_one (ps_ret (pe_op (r := rCatT K) op_catT (pe_tup (pa_cons (pv 2) pa_nil)) (pe_callTy (r := rTupS K) call_tuple_of (by rfl) T.f_tuple (by decide +kernel) (pa_cons (pe_lc (own := [("_law_k", 4)]) (g := gName 4) rfl sc__law_plain.nd (pi_range1 (by rfl) T.f_range (pa_cons (pv 3) pa_nil)) (blkOk_by (own := [("_law_k", 4)]) (N := N__law_plain) (sc := defScope s__law_plain) (by decide +kernel)) (fun _ _ _ _ _ => (pg_name (i := 4) sc__law_plain.nd rfl (Or.inl rfl))) (fun _ _ _ _ _ => pts_nil) (fun _ _ _ _ _ => (pe_own G__law_pull (hr.mono (by decide)) (by rfl) passL (pa_cons (pv 0) (pa_cons (pe_ix (r := rIxL K) ix_list (pe_lst (pa_cons pe_int (pa_cons pe_int pa_nil))) (pe_own G__law_pull (hr.mono (by decide)) (by rfl) passL (pa_cons (pv 0) (pa_cons pe_int pa_nil))) (fun _ _ => rfl)) pa_nil))))) pa_nil))))))), ?_⟩
    refine sq_set (ed_lst (ea_cons (ed_tup (ea_cons ed_str (ea_cons ed_int ea_nil)) (Nat.le_of_ble_eq_true rfl)) (ea_cons (ed_tup (ea_cons ed_str (ea_cons ed_int ea_nil)) (Nat.le_of_ble_eq_true rfl)) (ea_cons (ed_tup (ea_cons ed_str (ea_cons ed_int ea_nil)) (Nat.le_of_ble_eq_true rfl)) (ea_cons (ed_tup (ea_cons ed_str (ea_cons ed_int ea_nil)) (Nat.le_of_ble_eq_true rfl)) ea_nil)))) (Nat.le_of_ble_eq_true rfl)) e (fun v1 G1 H1 X1 d1 => ?_)
    refine (es_op (S1 := fun d => d = .list [.tuple [.str "lay", .int 4], .tuple [.str "pull", .int 4], .tuple [.str "glaze", .int 2], .tuple [.str "shatter", .int 1]]) (S := isPair) (EvD.toS (ed_var rfl d1) rfl) (es_pull (u := 4) rfl ed_int (by decide) (by decide)) ?_) H1 X1.ok _ (fun d v G2 H2 s X2 dv => ?_)
    · rintro x y rfl ⟨n, rfl, h0, h1⟩
      have : n = 0 ∨ n = 1 ∨ n = 2 ∨ n = 3 := by omega
      rcases this with rfl | rfl | rfl | rfl
      · exact ⟨_, ⟨"lay", 4, .inl ⟨rfl, rfl⟩, rfl⟩, rd_ixL rfl⟩
      · exact ⟨_, ⟨"pull", 4, .inr (.inl ⟨rfl, rfl⟩), rfl⟩, rd_ixL rfl⟩
      · exact ⟨_, ⟨"glaze", 2, .inr (.inr (.inl ⟨rfl, rfl⟩)), rfl⟩, rd_ixL rfl⟩
      · exact ⟨_, ⟨"shatter", 1, .inr (.inr (.inr ⟨rfl, rfl⟩)), rfl⟩, rd_ixL rfl⟩
    obtain ⟨wd, m, fm, rfl⟩ := s
    have ml := form_len fm
    obtain ⟨a, xs, rfl, hs, hx⟩ := dp_tup dv
    cases hx with
    | cons dw hx =>
      cases hx with
      | cons dm hx =>
        cases hx
        obtain rfl := dp_str dw
        obtain rfl := dp_int dm
        refine ⟨a, _, rfl, ex_t X2.ok.e hs, rfl, _, _, rfl, _, _, rfl, rfl, ?_⟩
        refine es_op (S1 := fun d => d = .tuple [.str wd]) (S := isDeed) (EvD.toS (ed_tup (ea_cons (ed_var rfl (.str wd)) ea_nil) (Nat.le_of_ble_eq_true rfl)) rfl) (es_tupOf (efs_lcR (n := m) (S := fun d => ∃ n : Int, d = .int n ∧ 0 ≤ n ∧ n < 1000) (ea_cons (ed_var rfl (.int (m : Int))) ea_nil) (by omega) (fun j hj => ?_))) ?_ H2 X2.ok _ (fun d v G3 H3 s X3 dv => q d v G3 H3 s ((X1.trans X2).trans X3) dv)
        · refine es_pullS (M := 1000) rfl (es_op (S1 := fun d => d = .list [.int 10, .int 1000]) (S := fun d => ∃ u : Int, d = .int u ∧ 0 < u ∧ u ≤ 1000) (EvD.toS (ed_lst (ea_cons ed_int (ea_cons ed_int ea_nil)) (Nat.le_of_ble_eq_true rfl)) rfl) (es_pull (u := 2) rfl ed_int (by decide) (by decide)) ?_) (fun d h => h) (by decide)
          rintro x y rfl ⟨n, rfl, h0, h1⟩
          have : n = 0 ∨ n = 1 := by omega
          rcases this with rfl | rfl
          · exact ⟨_, ⟨10, rfl, by decide, by decide⟩, rd_ixL rfl⟩
          · exact ⟨_, ⟨1000, rfl, by decide, by decide⟩, rd_ixL rfl⟩
        · rintro x y rfl ⟨ds, rfl, hl, hd⟩
          obtain ⟨ns, rfl, hn⟩ := nats_of ds hd
          rw [List.length_map] at hl
          refine ⟨_, ⟨wd, ns, ⟨by rw [hl]; exact fm, hn⟩, rfl⟩, rd_catT (List.cons_ne_nil _ _) (fun z => ?_) ?_⟩
          · have e0 := List.map_eq_nil_iff.mp z
            subst e0
            have e1 : 0 = m := hl
            omega
          · rw [List.length_map, hl]
            show 1 + m ≤ 100000
            omega
theorem es_plain {b c : Addr} {i : Nat} {σ : L2.St} {G : Hp} {E : XK} (hσ : σ[i]? = some (some (.ref b))) : EvS K (some (b, c)) (tCall (sp__law_plain K) [] E (tCons (tVar i) tNil)) σ G isDeed := fun H e Q q =>
  ⟨.ref b, hσ, b, c, G, e, rfl, q⟩
theorem Deed.ok {wd : Str} {ns : List Nat} (d : Deed wd ns) : wd.length ≤ 10 ∧ ns.length ≤ 10 ∧ 32 ∉ TL.tl wd := by
  obtain ⟨f, _⟩ := d
  have := form_len f
  rcases f with ⟨rfl, _⟩ | ⟨rfl, _⟩ | ⟨rfl, _⟩ | ⟨rfl, _⟩ <;> exact ⟨by decide, by omega, by decide⟩
/-! _law_spoilt -/
def sp__law_spoilt (K : Fg) : Sp := fun vs H Q E => ∃ (b c : Addr) (G : Hp) (a : Str) (n : Nat), Ok K (some (b, c)) G H ∧ vs = [.ref b, .str a] ∧ a.length ≤ n ∧ n ≤ 4000 ∧ Asc a ∧ RetS K (some (b, c)) G H Q (isT (n + 20))
theorem es_signs {B : Bg} {σ : L2.St} {G : Hp} {tb : TE} {z : Str} (hz : Asc z) (hl : z.length ≤ 1000) (hb : EvS K B tb σ G (isN (z.length : Int))) : EvS K B (tOp rIxS (tC (.str z)) tb) σ G (isT 1) := es_op (S1 := fun d => d = .str z) (EvD.toS ed_str rfl) hb fun x y hx hy => by
  obtain rfl := hx
  obtain ⟨i, rfl, h0, h1⟩ := hy
  have l : i.toNat < (TL.tl z).length := by
    rw [← TL.len_tl]
    omega
  have e : ((i.toNat : Nat) : Int) = i := by omega
  have at' : atI (TL.tl z) ((i.toNat : Nat) : Int) = some (TL.tl z)[i.toNat] := atI_nat (List.getElem?_eq_getElem l)
  rw [e] at at'
  refine ⟨_, ⟨⟨#[(TL.tl z)[i.toNat]]⟩, rfl, Nat.le_refl 1, fun c hc => ?_⟩, rd_ixS at' (by omega)⟩
  obtain rfl := mem_1 (show c ∈ [(TL.tl z)[i.toNat]] from hc)
  exact hz _ (List.getElem_mem l)
def menuS : List Str := ["lay", "pull", "glaze", "shatter", "7", "0", "000", "1234", "01", "", "undo", "open"]
theorem menu_ok : ∀ m ∈ menuS, m.length ≤ 7 ∧ ∀ c ∈ TL.tl m, c < 128 := by decide +kernel
theorem cutI {α : Type} (l : List α) (f : α → PyData) {i : Int} (h0 : 0 ≤ i) : Lw.cutD (l.map f) none (some i) = (l.take i.toNat).map f := by
  unfold Lw.cutD
  have e1 : HT.sIx (l.map f).length (l.map f).length (some i) = min i.toNat l.length := by
    unfold HT.sIx
    simp only [List.length_map]
    split <;> omega
  have e2 : HT.sIx (l.map f).length 0 none = 0 := rfl
  rw [e1, e2, List.drop_zero, Nat.sub_zero, ← List.map_take]
  congr 1
  rw [Nat.min_comm, List.take_eq_take_iff]
  omega
theorem cutJ {α : Type} (l : List α) (f : α → PyData) {i : Int} (h0 : 0 ≤ i) : Lw.cutD (l.map f) (some i) none = (l.drop i.toNat).map f := by
  unfold Lw.cutD
  have e1 : HT.sIx (l.map f).length 0 (some i) = min i.toNat l.length := by
    unfold HT.sIx
    simp only [List.length_map]
    split <;> omega
  have e2 : HT.sIx (l.map f).length (l.map f).length none = l.length := by
    show (l.map f).length = l.length
    exact List.length_map _
  rw [e1, e2, ← List.map_drop, ← List.map_take]
  congr 1
  by_cases c : i.toNat ≤ l.length
  · rw [Nat.min_eq_left c, List.take_of_length_le (by rw [List.length_drop]; omega)]
  · rw [Nat.min_eq_right (by omega), List.drop_length, List.take_nil, List.drop_eq_nil_of_le (by omega)]
theorem sum_take_drop (l : List Nat) {i j : Nat} (h : i ≤ j) : (l.take i).sum + (l.drop j).sum ≤ l.sum := by
  have e1 : (l.take i).sum + (l.drop i).sum = l.sum := by
    rw [← List.sum_append, List.take_append_drop]
  have e2 : (l.drop j).sum ≤ (l.drop i).sum := by
    have : l.drop j = (l.drop i).drop (j - i) := by
      rw [List.drop_drop]
      congr 1
      omega
    rw [this]
    have z : ((l.drop i).take (j - i)).sum + ((l.drop i).drop (j - i)).sum = (l.drop i).sum := by
      rw [← List.sum_append, List.take_append_drop]
    omega
  omega
abbrev N__law_spoilt : List Str := ["_law_bag_here", "_law_text", "_law_at", "_law_sign", "_law_pick", "_law_words", "_law_spot", "_law_menu"]
theorem sc__law_spoilt : FnScope N__law_spoilt ["_law_bag_here", "_law_text"] (defScope s__law_spoilt) := ⟨rfl, rfl, rfl, by decide +kernel, rfl, by decide +kernel, by decide +kernel⟩
theorem ok__law_spoilt (T : Txt w K mg) (G__law_pull : Good P w K mg base (L2.CX P w) 1 "_law_pull" ["_law_bag_here", "_law_upto"] [] (sp__law_pull K)) : Good P w K mg base (L2.CX P w) 2 "_law_spoilt" ["_law_bag_here", "_law_text"] [] (sp__law_spoilt K) := by
  obtain ⟨fd, F⟩ := T.c.def_ 11 (d := d__law_spoilt) rfl
  have b : Binds K fd ["_law_bag_here", "_law_text"] [] := F.bindsN fun _ _ _ _ _ _ us hl => match us, hl with | [_, _], _ => rfl
  refine ⟨⟨fd, [], F.ok sc__law_spoilt (fun vs H Q E h => ?_) (fun cdv A outer s H vs Q E hr h => ?_), .nil, b⟩, T.g__law_spoilt, F.kp⟩
  · obtain ⟨b, c, G, a, n, e, rfl, _⟩ := h
    all_goals rfl
  · obtain ⟨b, c, G, a, n, e, rfl, hl, hn, ha, q⟩ := h
    all_goals refine ⟨_, PSs.nox (pss_cons (ps_set (i := 2) sc__law_spoilt.nd rfl (Or.inl rfl) (pe_own G__law_pull (hr.mono (by decide)) (by rfl) passL (pa_cons (pv 0) (pa_cons (pe_op op_add (pe_callB (r := rLenT) call_len_str (by rfl) T.f_len (by decide +kernel) (pa_cons (pv 1) pa_nil)) pe_int) pa_nil)))) (pss_cons (ps_set (i := 3) sc__law_spoilt.nd rfl (Or.inl rfl) (pe_ix ix_str pe_str (pe_own G__law_pull (hr.mono (by decide)) (by rfl) passL (pa_cons (pv 0) (pa_cons pe_int pa_nil))) (fun _ _ => rfl))) (pss_cons (ps_set (i := 4) sc__law_spoilt.nd rfl (Or.inl rfl) (pe_own G__law_pull (hr.mono (by decide)) (by rfl) passL (pa_cons (pv 0) (pa_cons pe_int pa_nil)))) (pss_cons (ps_if (pt_cmpR op_eq (pv 4) pe_int (nomark _)) (pss_one (ps_ret (pe_op op_add_str (pe_op op_add_str (pe_slice sl_str (pv 1) po_none (po_some (pv 2))) (pv 3)) (pe_slice sl_str (pv 1) (po_some (pv 2)) po_none)))) pss_nil) (pss_cons (ps_if (pt_cmpR op_eq (pv 4) pe_int (nomark _)) (pss_one (ps_ret (pe_op op_add_str (pe_slice sl_str (pv 1) po_none (po_some (pv 2))) (pe_slice sl_str (pv 1) (po_some (pe_op op_add (pv 2) pe_int)) po_none)))) pss_nil) (pss_cons (ps_if (pt_cmpR op_eq (pv 4) pe_int (nomark _)) (pss_one (ps_ret (pe_op op_add_str (pe_op op_add_str (pe_slice sl_str (pv 1) po_none (po_some (pv 2))) (pv 3)) (pe_slice sl_str (pv 1) (po_some (pe_op op_add (pv 2) pe_int)) po_none)))) pss_nil) (pss_cons (ps_set (i := 5) sc__law_spoilt.nd rfl (Or.inl rfl) (pe_split (pv 1) pe_str)) (pss_cons (ps_set (i := 6) sc__law_spoilt.nd rfl (Or.inl rfl) (pe_own G__law_pull (hr.mono (by decide)) (by rfl) passL (pa_cons (pv 0) (pa_cons (pe_callB (r := rLenS K) call_len_seq (by rfl) T.f_len (by decide +kernel) (pa_cons (pv 5) pa_nil)) pa_nil)))) (pss_cons (ps_set (i := 7) sc__law_spoilt.nd rfl (Or.inl rfl) (pe_lst (pa_cons pe_str (pa_cons pe_str (pa_cons pe_str (pa_cons pe_str (pa_cons pe_str (pa_cons pe_str (pa_cons pe_str (pa_cons pe_str (pa_cons pe_str (pa_cons pe_str (pa_cons pe_str (pa_cons pe_str pa_nil)))))))))))))) (pss_one (ps_ret (pe_join pe_str (pe_op op_cat (pe_op op_cat (pe_slice (r := rSlL K) sl_list (pv 5) po_none (po_some (pv 6))) (pe_lst (pa_cons (pe_ix (r := rIxL K) ix_list (pv 7) (pe_own G__law_pull (hr.mono (by decide)) (by rfl) passL (pa_cons (pv 0) (pa_cons pe_int pa_nil))) (fun _ _ => rfl)) pa_nil))) (pe_slice (r := rSlL K) sl_list (pv 5) (po_some (pe_op op_add (pv 6) (pe_own G__law_pull (hr.mono (by decide)) (by rfl) passL (pa_cons (pv 0) (pa_cons pe_int pa_nil))))) po_none)))))))))))))), ?_⟩
    refine sq_setS (S := isN ((a.length : Int) + 1)) (es_pull (u := (a.length : Int) + 1) rfl (ed_op (ed_lenT (ed_var rfl (.str a)) (by omega)) ed_int rd_I0) (by omega) (by omega)) e (fun d1 v1 G1 H1 s1 X1 dv1 => ?_)
    obtain ⟨i, rfl, i0, i1⟩ := s1
    obtain rfl := dp_int dv1
    refine sq_setS (S := isT 1) (es_signs (z := " 0179-ax\n/") (show ∀ c ∈ TL.tl " 0179-ax\n/", c < 128 from by decide +kernel) (by decide) (es_pull (u := 10) rfl ed_int (by decide) (by decide))) X1.ok (fun d2 v2 G2 H2 s2 X2 dv2 => ?_)
    obtain ⟨sg, rfl, sl, sA⟩ := s2
    obtain rfl := dp_str dv2
    refine sq_setS (S := isN 4) (es_pull (u := 4) rfl ed_int (by decide) (by decide)) X2.ok (fun d3 v3 G3 H3 s3 X3 dv3 => ?_)
    obtain ⟨pk, rfl, p0, p1⟩ := s3
    obtain rfl := dp_int dv3
    have Y3 := (X1.trans X2).trans X3
    have la : a.length ≤ 100000 := by omega
    have c1 := len_cut2 a i0 (Int.le_refl i)
    have c2 := len_cut2 a i0 (show i ≤ i + 1 by omega)
    refine sq_ifN (eb_test (ed_op (ed_var rfl (.int pk)) ed_int (rd_eq rfl))) X3.ok (fun _ G4 H4 X4 => ?_) (fun _ G4 H4 X4 => ?_)
    · refine st_ret (d := .str (cutS a none (some i) ++ sg ++ cutS a (some i) none)) (ed_op (ed_op (ed_slS (ed_var rfl (.str a)) eo_none (eo_some (ed_var rfl (.int i))) la) (ed_var rfl (.str sg)) (rd_addS (by omega))) (ed_slS (ed_var rfl (.str a)) (eo_some (ed_var rfl (.int i))) eo_none la) (rd_addS (by rw [len_app]; omega))) X4.ok (fun v G5 H5 X5 dv => q _ v G5 H5 ⟨_, rfl, ?_, asc_app (asc_app (asc_cut ha) sA) (asc_cut ha)⟩ (Y3.trans (X4.trans X5)) dv)
      rw [len_app, len_app]
      omega
    refine sq_ifN (eb_test (ed_op (ed_var rfl (.int pk)) ed_int (rd_eq rfl))) X4.ok (fun _ G5 H5 X5 => ?_) (fun _ G5 H5 X5 => ?_)
    · refine st_ret (d := .str (cutS a none (some i) ++ cutS a (some (i + 1)) none)) (ed_op (ed_slS (ed_var rfl (.str a)) eo_none (eo_some (ed_var rfl (.int i))) la) (ed_slS (ed_var rfl (.str a)) (eo_some (ed_op (ed_var rfl (.int i)) ed_int rd_I0)) eo_none la) (rd_addS (by omega))) X5.ok (fun v G6 H6 X6 dv => q _ v G6 H6 ⟨_, rfl, ?_, asc_app (asc_cut ha) (asc_cut ha)⟩ (Y3.trans (X4.trans (X5.trans X6))) dv)
      rw [len_app]
      omega
    refine sq_ifN (eb_test (ed_op (ed_var rfl (.int pk)) ed_int (rd_eq rfl))) X5.ok (fun _ G6 H6 X6 => ?_) (fun _ G6 H6 X6 => ?_)
    · refine st_ret (d := .str (cutS a none (some i) ++ sg ++ cutS a (some (i + 1)) none)) (ed_op (ed_op (ed_slS (ed_var rfl (.str a)) eo_none (eo_some (ed_var rfl (.int i))) la) (ed_var rfl (.str sg)) (rd_addS (by omega))) (ed_slS (ed_var rfl (.str a)) (eo_some (ed_op (ed_var rfl (.int i)) ed_int rd_I0)) eo_none la) (rd_addS (by rw [len_app]; omega))) X6.ok (fun v G7 H7 X7 dv => q _ v G7 H7 ⟨_, rfl, ?_, asc_app (asc_app (asc_cut ha) sA) (asc_cut ha)⟩ (Y3.trans (X4.trans (X5.trans (X6.trans X7)))) dv)
      rw [len_app, len_app]
      omega
    have Y6 := Y3.trans (X4.trans (X5.trans X6))
    refine sq_set (EvF.ed (ef_split (ed_var rfl (.str a)) ed_str (by rfl) la)) X6.ok (fun v7 G7 H7 X7 d7 => ?_)
    obtain ⟨w0, r0, hw, sum⟩ := split_words a
    have sA' := split_asc ha
    have nz : 1 ≤ (Txt.split a " ").length := by
      rw [hw]
      exact Nat.le_add_left 1 _
    generalize Txt.split a " " = ws at d7 sum sA' nz
    refine sq_setS (S := isN (ws.length : Int)) (es_pull (u := (ws.length : Int)) rfl (ed_len (n := ws.length) (ed_var rfl d7) (congrArg some (List.length_map _))) (by omega) (by omega)) X7.ok (fun d8 v8 G8 H8 s8 X8 dv8 => ?_)
    obtain ⟨sp, rfl, sp0, sp1⟩ := s8
    obtain rfl := dp_int dv8
    refine sq_set (d := .list (menuS.map .str)) (ed_lst (ea_cons ed_str (ea_cons ed_str (ea_cons ed_str (ea_cons ed_str (ea_cons ed_str (ea_cons ed_str (ea_cons ed_str (ea_cons ed_str (ea_cons ed_str (ea_cons ed_str (ea_cons ed_str (ea_cons ed_str ea_nil)))))))))))) (Nat.le_of_ble_eq_true rfl)) X8.ok (fun v9 G9 H9 X9 d9 => ?_)
    have d7' := dp_mono (X8.gg.trans X9.gg) d7
    have Y9 := Y6.trans ((X7.trans X8).trans X9)
    have wl : ws.length ≤ 5000 := by omega
    have L1 := ef_slL (B := some (b, c)) (σ := [some (.ref b), some (.str a), some (.int i), some (.str sg), some (.int pk), some v7, some (.int sp), some v9]) (ed_var (i := 5) rfl d7') eo_none (eo_some (ed_var (i := 6) rfl (.int sp)))
    rw [cutI ws PyData.str sp0] at L1
    refine es_joinFS (a := " ") (S := fun l => ∃ m j, m ∈ menuS ∧ sp.toNat ≤ j ∧ l = ((ws.take sp.toNat ++ [m]) ++ ws.drop j).map PyData.str) (fun H e Q q => efs_cat2 (S1 := fun l => ∃ m, m ∈ menuS ∧ l = (ws.take sp.toNat ++ [m]).map PyData.str) (S2 := fun l => ∃ j, sp.toNat ≤ j ∧ l = (ws.drop j).map PyData.str) (fun H e Q q => efs_cat2 (S1 := fun l => l = (ws.take sp.toNat).map PyData.str) (S2 := fun l => ∃ x, (∃ m, m ∈ menuS ∧ x = PyData.str m) ∧ l = [x]) (EvF.toFS L1 rfl) (efs_lst1 (es_op (S1 := fun d => d = .list (menuS.map .str)) (EvD.toS (ed_var rfl d9) rfl) (es_pull (u := 12) rfl ed_int (by decide) (by decide)) ?_)) ?_ H e Q (fun p xs l G2 H2 s => q p xs l G2 H2 ?_)) (fun H e Q q => efs_slL (P := fun j => 0 ≤ j ∧ sp.toNat ≤ j.toNat) (ed_var rfl d7') (es_op (S1 := fun d => d = .int sp) (EvD.toS (ed_var rfl (.int sp)) rfl) (es_pull (u := 2) rfl ed_int (by decide) (by decide)) ?_) H e Q (fun p xs l G2 H2 s => q p xs l G2 H2 ?_)) ?_ H e Q (fun p xs l G2 H2 s => q p xs l G2 H2 ?_)) ?_ H9 X9.ok _ (fun d v G10 H10 s X10 dv => q d v G10 H10 ?_ (Y9.trans X10) dv)
    · rintro x y rfl ⟨k, rfl, k0, k1⟩
      have l : k.toNat < menuS.length := by
        show k.toNat < 12
        omega
      have ek : ((k.toNat : Nat) : Int) = k := by omega
      have at' : atI (menuS.map PyData.str) ((k.toNat : Nat) : Int) = some (.str menuS[k.toNat]) := atI_nat (by rw [List.getElem?_map, List.getElem?_eq_getElem l]; rfl)
      rw [ek] at at'
      exact ⟨_, ⟨_, List.getElem_mem l, rfl⟩, rd_ixL at'⟩
    · rintro x y rfl ⟨_, ⟨m, _, rfl⟩, rfl⟩
      rw [List.length_map, List.length_take]
      show _ + 1 ≤ 100000
      omega
    · obtain ⟨x, y, rfl, ⟨_, ⟨m, hm, rfl⟩, rfl⟩, rfl⟩ := s
      exact ⟨m, hm, by rw [List.map_append]; rfl⟩
    · rintro x y rfl ⟨k, rfl, k0, k1⟩
      exact ⟨_, ⟨_, rfl, by omega, by omega⟩, rd_I0⟩
    · obtain ⟨j, ⟨j0, j1⟩, rfl⟩ := s
      exact ⟨j.toNat, j1, cutJ ws PyData.str j0⟩
    · rintro x y ⟨m, _, rfl⟩ ⟨j, _, rfl⟩
      rw [List.length_map, List.length_map, List.length_append, List.length_take, List.length_drop]
      show _ + 1 + _ ≤ 100000
      omega
    · obtain ⟨x, y, ⟨m, hm, rfl⟩, ⟨j, hj, rfl⟩, rfl⟩ := s
      exact ⟨m, j, hm, hj, by rw [← List.map_append]⟩
    · rintro l ⟨m, j, hm, hj, rfl⟩
      refine ⟨_, rfl, ?_⟩
      have mo := (menu_ok m hm).1
      have e1 : (" " : Str).length = 1 := by rfl
      have sd := sum_take_drop (ws.map (·.length)) hj
      rw [e1, Nat.mul_one, List.map_append, List.map_append, List.sum_append, List.sum_append, List.length_append, List.length_append, List.map_take, List.map_drop, List.length_take, List.length_drop]
      show _ + (m.length + 0) + _ + (_ + 1 + _) ≤ _
      omega
    · obtain ⟨ys, ⟨m, j, hm, hj, ey⟩, rfl⟩ := s
      have ey : ys = (ws.take sp.toNat ++ [m]) ++ ws.drop j := List.map_inj_right (fun x y z => by injection z) |>.mp ey
      subst ey
      have mo := menu_ok m hm
      have sd := sum_take_drop (ws.map (·.length)) hj
      have jl := join_len_eq (ps := (ws.take sp.toNat ++ [m]) ++ ws.drop j) (by simp)
      rw [List.map_append, List.map_append, List.sum_append, List.sum_append, List.length_append, List.length_append, List.map_take, List.map_drop, List.length_take, List.length_drop] at jl
      have jl : _ + 1 = _ + (m.length + 0) + _ + (_ + 1 + _) := jl
      refine ⟨_, rfl, by omega, join_asc fun p hp => ?_⟩
      rcases mem_or hp with hp | hp
      · rcases mem_or hp with hp | hp
        · exact sA' p (List.mem_of_mem_take hp)
        · rw [mem_1 hp]
          exact mo.2
      · exact sA' p (List.mem_of_mem_drop hp)
theorem es_spoilt {b c : Addr} {i j : Nat} {σ : L2.St} {G : Hp} {E : XK} {a : Str} {n : Nat} (hσ : σ[i]? = some (some (.ref b))) (hτ : σ[j]? = some (some (.str a))) (hl : a.length ≤ n) (hn : n ≤ 4000) (ha : Asc a) : EvS K (some (b, c)) (tCall (sp__law_spoilt K) [] E (tCons (tVar i) (tCons (tVar j) tNil))) σ G (isT (n + 20)) := fun H e Q q =>
  ⟨.ref b, hσ, .str a, hτ, b, c, G, a, n, e, rfl, hl, hn, ha, q⟩
/-! _law_told -/
def sp__law_told (K : Fg) : Sp := fun vs H Q E => ∃ (B : Bg) (G : Hp) (a : Str), Ok K B G H ∧ vs = [.str a] ∧ a.length ≤ 5000 ∧ Asc a ∧ (∀ wd rs n, isDeedW (Txt.split a " ") wd rs n → Ret K B G H Q (.tuple [deedOf wd rs, .int (0 - 1)])) ∧ ((∀ wd rs n, ¬ isDeedW (Txt.split a " ") wd rs n) → Ret K B G H Q (.tuple [.none, .int 0]))
abbrev N__law_told : List Str := ["_law_text", "_law_found", "_law_at", "e"]
theorem sc__law_told : FnScope N__law_told ["_law_text"] (defScope s__law_told) := ⟨rfl, rfl, rfl, by decide +kernel, rfl, by decide +kernel, by decide +kernel⟩
theorem ok__law_told (T : Txt w K mg) (G_read_deed : Good P w K mg base (L2.CX P w) 3 "read_deed" ["line"] [] (sp_read_deed K)) : Good P w K mg base (L2.CX P w) 4 "_law_told" ["_law_text"] [] (sp__law_told K) := by
  obtain ⟨fd, F⟩ := T.c.def_ 12 (d := d__law_told) rfl
  have b : Binds K fd ["_law_text"] [] := F.bindsN fun _ _ _ _ _ _ us hl => match us, hl with | [_], _ => rfl
  refine ⟨⟨fd, [], F.ok sc__law_told (fun vs H Q E h => ?_) (fun cdv A outer s H vs Q E hr h => ?_), .nil, b⟩, T.g__law_told, F.kp⟩
  · obtain ⟨B, G, a, e, rfl, _⟩ := h
    all_goals rfl
  · obtain ⟨B, G, a, e, rfl, hl, ha, q, r⟩ := h
    all_goals refine ⟨_, PSs.nox (pss_cons (ps_set (i := 1) sc__law_told.nd rfl (Or.inl rfl) pe_non) (pss_cons (ps_set (i := 2) sc__law_told.nd rfl (Or.inl rfl) (pe_op op_sub pe_int pe_int)) (pss_cons (ps_try_as (i := 3) (Wout := fun _ _ _ _ => False) rfl rfl sc__law_told.nd rfl rfl ⟨rfl, by decide, .inl T.g_BadText⟩ takes0 (fun W pn xe tk _ => (pss_one (ps_set (i := 1) sc__law_told.nd rfl (Or.inl rfl) (pe_ownS G_read_deed (hr.mono (by decide)) (by rfl) (fun σ => passAt tk σ) (pa_cons (pv 0) pa_nil)))))
    (fun a oe cls d pn hz hf => (pss_one (ps_set (i := 2) sc__law_told.nd rfl (Or.inl rfl) (pe_xf T.at_BadText.x T.at_BadText.no hz hf (pv 3)))))) (pss_one (ps_ret (pe_tup (pa_cons (pv 1) (pa_cons (pv 2) pa_nil)))))))), ?_⟩
    refine sq_set ed_non e (fun v1 G1 H1 X1 d1 => ?_)
    obtain rfl := dp_non d1
    refine sq_set (ed_op ed_int ed_int rd_I0) X1.ok (fun v2 G2 H2 X2 d2 => ?_)
    obtain rfl := dp_int d2
    have Y2 := X1.trans X2
    refine ⟨.str a, rfl, B, G2, a, X2.ok, rfl, hl, ha, fun wd rs n h v3 G3 H3 X3 d3 => ?_, fun h G3 H3 dd X3 hd => ?_⟩
    · exact st_ret (ed_tup (ea_cons (ed_var rfl d3) (ea_cons (ed_var rfl (.int _)) ea_nil)) (Nat.le_of_ble_eq_true rfl)) X3.ok ((q wd rs n h).mono (Y2.trans X3))
    · refine ⟨true, T.exm_BadText_BadText, fun _ x hx => ?_, fun z => Bool.noConfusion z⟩
      refine ⟨.ref x, rfl, rfl, rfl, dd, [("at", .int 0)], .int 0, rfl, hd, rfl, ?_⟩
      exact st_ret (ed_tup (ea_cons (ed_var rfl .non) (ea_cons (ed_var rfl (.int 0)) ea_nil)) (Nat.le_of_ble_eq_true rfl)) X3.ok ((r h).mono (Y2.trans X3))
theorem ed_told {B : Bg} {G : Hp} {σ : L2.St} {tr : TA} {E : XK} {a wd : Str} {rs : List Str} {n : Int} (h : EvA K B tr σ G [.str a]) (hl : a.length ≤ 5000) (ha : Asc a) (hd : isDeedW (Txt.split a " ") wd rs n) : EvD K B (tCall (sp__law_told K) [] E tr) σ G (.tuple [deedOf wd rs, .int (0 - 1)]) :=
  ed_call h fun vs G2 H2 _ e dv Q q => by
    obtain rfl := dpAll_strs (ys := [a]) dv
    refine ⟨B, G2, a, e, rfl, hl, ha, fun wd' rs' n' h' => ?_, fun z => absurd hd (z _ _ _)⟩
    obtain ⟨e1, _⟩ := h'
    obtain ⟨e2, _⟩ := hd
    rw [e2] at e1
    injection e1 with e1 e3
    subst e1 e3
    exact q
theorem ed_toldN {B : Bg} {G : Hp} {σ : L2.St} {tr : TA} {E : XK} {a : Str} (h : EvA K B tr σ G [.str a]) (hl : a.length ≤ 5000) (ha : Asc a) (hd : ∀ wd rs n, ¬ isDeedW (Txt.split a " ") wd rs n) : EvD K B (tCall (sp__law_told K) [] E tr) σ G (.tuple [.none, .int 0]) :=
  ed_call h fun vs G2 H2 _ e dv Q q => by
    obtain rfl := dpAll_strs (ys := [a]) dv
    exact ⟨B, G2, a, e, rfl, hl, ha, fun wd rs n h => absurd h (hd wd rs n), fun _ => q⟩
theorem ed_deed_in {B : Bg} {G : Hp} {σ : L2.St} {tr : TA} {E : XK} {a wd : Str} {rs : List Str} {n : Int} (h : EvA K B tr σ G [.str a]) (hl : a.length ≤ 5000) (ha : Asc a) (hd : isDeedW (Txt.split a " ") wd rs n) : EvD K B (tCall (sp__law_deed_in K) [] E tr) σ G (deedOf wd rs) :=
  ed_call h fun vs G2 H2 _ e dv Q q => by
    obtain rfl := dpAll_strs (ys := [a]) dv
    refine ⟨B, G2, a, e, rfl, hl, ha, fun wd' rs' n' h' => ?_, fun z => absurd hd (z _ _ _)⟩
    obtain ⟨e1, _⟩ := h'
    obtain ⟨e2, _⟩ := hd
    rw [e2] at e1
    injection e1 with e1 e3
    subst e1 e3
    exact q
theorem ed_deed_inN {B : Bg} {G : Hp} {σ : L2.St} {tr : TA} {E : XK} {a : Str} (h : EvA K B tr σ G [.str a]) (hl : a.length ≤ 5000) (ha : Asc a) (hd : ∀ wd rs n, ¬ isDeedW (Txt.split a " ") wd rs n) : EvD K B (tCall (sp__law_deed_in K) [] E tr) σ G .none :=
  ed_call h fun vs G2 H2 _ e dv Q q => by
    obtain rfl := dpAll_strs (ys := [a]) dv
    exact ⟨B, G2, a, e, rfl, hl, ha, fun wd rs n h => absurd h (hd wd rs n), fun _ => q⟩
/-! law -/
abbrev N_law : List Str := ["_law_script", "_law_bag_here", "_law_k", "_law_text", "_law_more", "_law_due"]
theorem sc_law : FnScope N_law ["_law_script"] (defScope s_law) := ⟨rfl, rfl, rfl, by decide +kernel, rfl, by decide +kernel, by decide +kernel⟩
def spLaw (K : Fg) : Sp := fun vs H Q E => ∃ (a : Addr) (ns : List Int), vs = [.ref a] ∧ SqL K H a (ns.map V.int) ∧ ns.length ≤ 63 ∧ ∀ H', Q (.bl true) H'
theorem asc_line {wd : Str} {ns : List Nat} (h : Asc wd) : Asc (lineS wd ns) := join_asc fun p hp => by
  rcases mem_c hp with rfl | hp
  · exact h
  · obtain ⟨n, _, rfl⟩ := List.mem_map.mp hp
    exact txt_asc n
theorem form_asc {wd : Str} {m : Nat} (h : isForm wd m) : ∀ c ∈ TL.tl wd, c < 128 := by
  rcases h with ⟨rfl, _⟩ | ⟨rfl, _⟩ | ⟨rfl, _⟩ | ⟨rfl, _⟩ <;> decide +kernel
theorem fit_due {wd : Str} {rs : List Str} (h : rs.length ≤ 10000) : fit 6 (.tuple [deedOf wd rs, .int (0 - 1)]) := fit_tup (Nat.le_of_ble_eq_true rfl) (fa_cons (fit_tup (by rw [List.length_cons, List.length_map, List.length_map]; omega) (fa_cons fit_str fun x hx => by
  obtain ⟨n, _, rfl⟩ := List.mem_map.mp hx
  exact fit_int)) (fa_cons fit_int fa_nil))
theorem fit_no : fit 6 (.tuple [.none, .int 0]) := fit_tup (Nat.le_of_ble_eq_true rfl) (fa_cons fit_none (fa_cons fit_int fa_nil))
theorem no_empty : ∀ wd rs n, ¬ isDeedW (Txt.split "" " ") wd rs n := fun wd rs n ⟨h1, h2, _⟩ => by
  have e : Txt.split (Txt.join " " [("" : Str)]) " " = [("" : Str)] := split_parts (List.cons_ne_nil _ _) (fun p hp => by rw [mem_1 hp]; decide)
  have e2 : Txt.join " " [("" : Str)] = "" := by decide +kernel
  rw [e2] at e
  rw [e] at h1
  injection h1 with h1 _
  subst h1
  revert h2
  simp only [cntsI, List.mem_cons, List.not_mem_nil, or_false, Prod.mk.injEq]
  rintro (⟨h, _⟩ | ⟨h, _⟩ | ⟨h, _⟩ | ⟨h, _⟩) <;> exact absurd h (by decide)
theorem no_lay : ∀ wd rs n, ¬ isDeedW (Txt.split "lay" " ") wd rs n := fun wd rs n ⟨h1, h2, h3⟩ => by
  have e : Txt.split (Txt.join " " [("lay" : Str)]) " " = [("lay" : Str)] := split_parts (List.cons_ne_nil _ _) (fun p hp => by rw [mem_1 hp]; decide)
  have e2 : Txt.join " " [("lay" : Str)] = "lay" := by decide +kernel
  rw [e2] at e
  rw [e] at h1
  injection h1 with h1 h4
  subst h4
  have l0 := of_decide_eq_true (Bool.and_eq_true_iff.mp h3).1
  have l0 : (0 : Int) = n := l0
  subst l0
  revert h2
  simp only [cntsI, List.mem_cons, List.not_mem_nil, or_false, Prod.mk.injEq]
  omega
theorem eqv_no : PyData.eqv (.tuple [.none, .int 0]) (.tuple [.none, .int 0]) = true := by decide +kernel
theorem fn_law (T : Txt w K mg) {fd : FuncData} (F : FunD K "law" "law" (defArgs s_law) (defBody s_law) (defScope s_law) [] [] (He.ga K "law") fd) (G__law_bag : Good P w K mg base (L2.CX P w) 1 "_law_bag" ["_law_script"] [] (sp__law_bag K)) (G__law_line : Good P w K mg base (L2.CX P w) 1 "_law_line" ["_law_deed"] [] (sp__law_line K)) (G__law_plain : Good P w K mg base (L2.CX P w) 2 "_law_plain" ["_law_bag_here"] [] (sp__law_plain K)) (G__law_pull : Good P w K mg base (L2.CX P w) 1 "_law_pull" ["_law_bag_here", "_law_upto"] [] (sp__law_pull K)) (G__law_spoilt : Good P w K mg base (L2.CX P w) 2 "_law_spoilt" ["_law_bag_here", "_law_text"] [] (sp__law_spoilt K)) (G__law_deed_in : Good P w K mg base (L2.CX P w) 2 "_law_deed_in" ["_law_text"] [] (sp__law_deed_in K)) (G__law_same : Good P w K mg base (L2.CX P w) 8 "_law_same" ["_law_found", "_law_due"] [] (sp__law_same K)) (G__law_told : Good P w K mg base (L2.CX P w) 4 "_law_told" ["_law_text"] [] (sp__law_told K)) : FnOk P w K mg base CX0 9 (He.ga K "law") fd ["_law_script"] (spLaw K) := by
  refine F.ok sc_law (fun vs H Q E h => ?_) (fun cdv A outer s H vs Q E hr h => ?_)
  · obtain ⟨a, ns, rfl, _⟩ := h
    rfl
  · obtain ⟨a, ns, rfl, hS, hl, q⟩ := h
    refine ⟨_, PSs.nox (pss_cons (ps_set (i := 1) sc_law.nd rfl (Or.inl rfl) (pe_own G__law_bag (hr.mono (by decide)) (by rfl) passL (pa_cons (pv 0) pa_nil))) (pss_cons (ps_for PassesOwn.never rfl (pi_range1 (by rfl) T.f_range (pa_cons pe_int pa_nil)) (pg_name (i := 2) sc_law.nd rfl (Or.inl rfl)) (pss_cons (ps_set (i := 3) sc_law.nd rfl (Or.inl rfl) (pe_own G__law_line (hr.mono (by decide)) (by rfl) passL (pa_cons (pe_own G__law_plain (hr.mono (by decide)) (by rfl) passL (pa_cons (pv 1) pa_nil)) pa_nil))) (pss_cons (ps_for PassesOwn.never rfl (pi_range1 (by rfl) T.f_range (pa_cons (pe_ix (r := rIxL K) ix_list (pe_lst (pa_cons pe_int (pa_cons pe_int (pa_cons pe_int (pa_cons pe_int pa_nil))))) (pe_own G__law_pull (hr.mono (by decide)) (by rfl) passL (pa_cons (pv 1) (pa_cons pe_int pa_nil))) (fun _ _ => rfl)) pa_nil)) (pg_name (i := 4) sc_law.nd rfl (Or.inl rfl)) (pss_one (ps_set (i := 3) sc_law.nd rfl (Or.inl rfl) (pe_own G__law_spoilt (hr.mono (by decide)) (by rfl) passL (pa_cons (pv 1) (pa_cons (pv 3) pa_nil)))))) (pss_cons (ps_set (i := 5) sc_law.nd rfl (Or.inl rfl) (pe_tup (pa_cons (pe_own G__law_deed_in (hr.mono (by decide)) (by rfl) passL (pa_cons (pv 3) pa_nil)) (pa_cons (pe_op op_sub pe_int pe_int) pa_nil)))) (pss_cons (ps_if (pt_cmpR op_isN (pe_ix (r := rIxT K) ix_tup (pv 5) pe_int (fun _ _ => rfl)) pe_non (nomark _)) (pss_one (ps_set (i := 5) sc_law.nd rfl (Or.inl rfl) (pe_tup (pa_cons pe_non (pa_cons pe_int pa_nil))))) pss_nil) (pss_one (ps_if (pt_not (pt_val (pe_own G__law_same (hr.mono (by decide)) (by rfl) passL (pa_cons (pe_own G__law_told (hr.mono (by decide)) (by rfl) passL (pa_cons (pv 3) pa_nil)) (pa_cons (pv 5) pa_nil))))) (pss_one (ps_ret pe_bl)) pss_nil))))))) (pss_one (ps_ret (pe_and (pe_cmpR (r := rEqD K) (op_eqD hr.units) (pe_own G__law_told (hr.mono (by decide)) (by rfl) passL (pa_cons pe_str pa_nil)) (pe_tup (pa_cons pe_non (pa_cons pe_int pa_nil))) (nomark _)) (pe_one (pe_cmpR (r := rEqD K) (op_eqD hr.units) (pe_own G__law_told (hr.mono (by decide)) (by rfl) passL (pa_cons pe_str pa_nil)) (pe_tup (pa_cons pe_non (pa_cons pe_int pa_nil))) (nomark _)))))))), ?_⟩
    refine ⟨.ref a, rfl, a, ns, rfl, hS, hl, fun b c G1 H1 e1 => ?_⟩
    refine sq_forR (K := K) (B := some (b, c)) (n := 8) (Pv := fun _ σ' _ _ => ∃ y2 y3 y4 y5, σ' = [some (.ref a), some (.ref b), y2, y3, y4, y5]) (ea_cons ed_int ea_nil) (by decide) e1 (fun _ _ _ => ⟨_, _, _, _, rfl⟩) (fun G2 H2 X2 j σ3 G3 H3 hj X3 pv => ?_) (fun σ3 G3 H3 X3 pv => ?_)
    · obtain ⟨y2, y3, y4, y5, rfl⟩ := pv
      refine ⟨.ref b, rfl, b, c, G3, X3.ok, rfl, fun d v4 G4 H4 sd X4 d4 => ?_⟩
      obtain ⟨wd, ms, dd, rfl⟩ := sd
      obtain ⟨w1, w2, w3⟩ := dd.ok
      refine ⟨_, G4, v4, wd, ms, X4.ok, rfl, d4, w1, w2, dd.s, fun v5 G5 H5 X5 d5 => ?_⟩
      obtain rfl := dp_str d5
      have ll := line_len w1 w2 dd.s
      have la : Asc (lineS wd ms) := asc_line (form_asc dd.f)
      generalize lineS wd ms = t0 at ll la
      have Y5 := X3.trans (X4.trans X5)
      refine st_drawnR (S0 := fun d => ∃ m : Nat, d = .int (m : Int) ∧ m ≤ 2) (es_op (S1 := fun d => d = .list [.int 1, .int 2, .int 0, .int 1]) (EvD.toS (ed_lst (ea_cons ed_int (ea_cons ed_int (ea_cons ed_int (ea_cons ed_int ea_nil)))) (Nat.le_of_ble_eq_true rfl)) rfl) (es_pull (u := 4) rfl ed_int (by decide) (by decide)) ?_) X5.ok (fun d v6 G6 H6 s6 X6 d6 => ?_)
      · rintro x y rfl ⟨n, rfl, h0, h1⟩
        have : n = 0 ∨ n = 1 ∨ n = 2 ∨ n = 3 := by omega
        rcases this with rfl | rfl | rfl | rfl
        · exact ⟨_, ⟨1, rfl, by decide⟩, rd_ixL rfl⟩
        · exact ⟨_, ⟨2, rfl, by decide⟩, rd_ixL rfl⟩
        · exact ⟨_, ⟨0, rfl, by decide⟩, rd_ixL rfl⟩
        · exact ⟨_, ⟨1, rfl, by decide⟩, rd_ixL rfl⟩
      obtain ⟨m, rfl, hm⟩ := s6
      refine sq_forR (n := m) (Pv := fun k σ' _ _ => ∃ (t : Str) (z4 z5 : Option V), σ' = [some (.ref a), some (.ref b), some (.int (j : Int)), some (.str t), z4, z5] ∧ t.length ≤ 1000 + 20 * k ∧ Asc t) (ea_cons (ed_c d6) ea_nil) (by omega) X6.ok (fun _ _ _ => ⟨t0, _, _, rfl, by omega, la⟩) (fun G7 H7 X7 k σ8 G8 H8 hk X8 pv => ?_) (fun σ8 G8 H8 X8 pv => ?_)
      · obtain ⟨t, z4, z5, rfl, tl, ta⟩ := pv
        refine es_spoilt rfl rfl tl (by omega) ta H8 X8.ok _ (fun d v9 G9 H9 s9 X9 d9 => ?_)
        obtain ⟨t2, rfl, l2, a2⟩ := s9
        obtain rfl := dp_str d9
        exact ⟨G9, X8.trans X9, t2, _, _, rfl, by omega, a2⟩
      · obtain ⟨t, z4, z5, rfl, tl, ta⟩ := pv
        have lt : t.length ≤ 5000 := by omega
        have Y8 := Y5.trans (X6.trans X8)
        by_cases hd : ∃ wd rs n, isDeedW (Txt.split t " ") wd rs n
        · obtain ⟨wd', rs, n, hd⟩ := hd
          have rl : rs.length ≤ 10000 := by
            have := (split_small t).1
            rw [hd.1, List.length_cons] at this
            omega
          refine sq_set (ed_tup (ea_cons (ed_deed_in (ea_cons (ed_var rfl (.str t)) ea_nil) lt ta hd) (ea_cons (ed_op ed_int ed_int rd_I0) ea_nil)) (Nat.le_of_ble_eq_true rfl)) X8.ok (fun v9 G9 H9 X9 d9 => ?_)
          refine sq_ifN (b := false) (eb_test (ed_op (ed_op (ed_var rfl d9) ed_int (rd_ixT (i := 0) rfl)) ed_non rd_isN)) X9.ok (fun c => by cases c) (fun _ GA HA XA => ?_)
          refine st_ifD (b := false) (eb_is (eb_not (eb_B (ed_same (ea_cons (ed_told (ea_cons (ed_var rfl (.str t)) ea_nil) lt ta hd) (ea_cons (ed_var rfl (dp_mono XA.gg d9)) ea_nil)) (fit_due rl)))) rfl) XA.ok (fun c => by cases c) (fun _ GB HB XB => ?_)
          exact ⟨GB, Y8.trans ((X9.trans XA).trans XB), _, _, _, _, rfl⟩
        · have hd' : ∀ wd rs n, ¬ isDeedW (Txt.split t " ") wd rs n := fun wd rs n h => hd ⟨wd, rs, n, h⟩
          refine sq_set (ed_tup (ea_cons (ed_deed_inN (ea_cons (ed_var rfl (.str t)) ea_nil) lt ta hd') (ea_cons (ed_op ed_int ed_int rd_I0) ea_nil)) (Nat.le_of_ble_eq_true rfl)) X8.ok (fun v9 G9 H9 X9 d9 => ?_)
          refine sq_ifN (b := true) (eb_test (ed_op (ed_op (ed_var rfl d9) ed_int (rd_ixT (i := 0) rfl)) ed_non rd_isN)) X9.ok (fun _ GA HA XA => ?_) (fun c => by cases c)
          refine st_set (ed_tup (ea_cons ed_non (ea_cons ed_int ea_nil)) (Nat.le_of_ble_eq_true rfl)) XA.ok (fun v10 GB HB XB d10 => ?_)
          refine st_ifD (b := false) (eb_is (eb_not (eb_B (ed_same (ea_cons (ed_toldN (ea_cons (ed_var rfl (.str t)) ea_nil) lt ta hd') (ea_cons (ed_var rfl d10) ea_nil)) fit_no))) rfl) XB.ok (fun c => by cases c) (fun _ GC HC XC => ?_)
          exact ⟨GC, Y8.trans ((X9.trans XA).trans (XB.trans XC)), _, _, _, _, rfl⟩
    · obtain ⟨y2, y3, y4, y5, rfl⟩ := pv
      have one : ∀ {G : Hp} {σ : L2.St} {z : Str} {E' : XK}, z.length ≤ 5000 → Asc z → (∀ wd rs n, ¬ isDeedW (Txt.split z " ") wd rs n) → EvD K (some (b, c)) (tOp (rEqD K) (tCall (sp__law_told K) [] E' (tCons (tC (.str z)) tNil)) (tTup (tCons (tC .non) (tCons (tC (.int 0)) tNil)))) σ G (.bool true) := fun hl ha hd => ed_is (ed_op (ed_toldN (ea_cons ed_str ea_nil) hl ha hd) (ed_tup (ea_cons ed_non (ea_cons ed_int ea_nil)) (Nat.le_of_ble_eq_true rfl)) (rd_eqD (by decide +kernel) (by decide +kernel))) (by rw [eqv_no])
      exact st_ret (d := .bool true) (ed_andV (b := true) (c := true) (one (by decide) (show ∀ c ∈ TL.tl "", c < 128 by decide +kernel) no_empty) (fun _ => one (by decide) (show ∀ c ∈ TL.tl "lay", c < 128 by decide +kernel) no_lay)) X3.ok (fun v G4 H4 X4 dv => by obtain rfl := dp_bl dv; exact q _)
theorem law_ok (T : Txt w K mg) {fa : Addr} (hfa : mg "law" = some (.ref fa)) : ∃ fd : FuncData, (∀ (s : Shared) (v : Value), BindsTo s fd ⟨[v], []⟩ [("_law_script", v)]) ∧ ∀ base : Heap, K.In base → base.Ns mainGlobals mg → FnOk P w K mg base CX0 9 fa fd ["_law_script"] (spLaw K) := by
  obtain ⟨fd, F⟩ := T.c.def_ 13 (d := d_law) rfl
  have e := hfa.symm.trans T.g_law
  cases e
  have b := FunD.bindsA (ps := ["_law_script"]) F fun _ _ _ _ _ _ us hl => match us, hl with | [_], _ => rfl
  refine ⟨fd, fun s v => b s [v] rfl, fun base _ _ => ?_⟩
  have G_AtStep_init := ok_AtStep_init (P := P) (w := w) (base := base) T 
  have G_is_number := ok_is_number (P := P) (w := w) (base := base) T 
  have G_are_numbers := ok_are_numbers (P := P) (w := w) (base := base) T G_is_number
  have G_read_deed := ok_read_deed (P := P) (w := w) (base := base) T G_are_numbers G_AtStep_init
  have G__law_bag := ok__law_bag (P := P) (w := w) (base := base) T 
  have G__law_pull := ok__law_pull (P := P) (w := w) (base := base) T 
  have G__law_whole := ok__law_whole (P := P) (w := w) (base := base) T 
  have G__law_same := ok__law_same (P := P) (w := w) (base := base) T G__law_whole
  have G__law_figures := ok__law_figures (P := P) (w := w) (base := base) T 
  have G__law_deed_in := ok__law_deed_in (P := P) (w := w) (base := base) T G__law_figures
  have G__law_line := ok__law_line (P := P) (w := w) (base := base) T 
  have G__law_plain := ok__law_plain (P := P) (w := w) (base := base) T G__law_pull
  have G__law_spoilt := ok__law_spoilt (P := P) (w := w) (base := base) T G__law_pull
  have G__law_told := ok__law_told (P := P) (w := w) (base := base) T G_read_deed
  exact fn_law T F G__law_bag G__law_line G__law_plain G__law_pull G__law_spoilt G__law_deed_in G__law_same G__law_told
end
end K47
set_option maxHeartbeats 0
open PySem PySem.W PySem.Calls PyProof.Rows
theorem PySem.Challenge.cw_leadlight_k47_lines_read_or_refused_holds : PySem.Challenge.rw_leadlight_k47_lines_read_or_refused.Holds := by
  w_on; o_law
  refine HandSHeadRun.head_any (r := OpenLaw.row PySem.Challenge.rw_leadlight_k47_lines_read_or_refused) (q := view (OpenLaw.row PySem.Challenge.rw_leadlight_k47_lines_read_or_refused).prog [21]) (H := K47.hk) (ob := K47.ob) (M := 3000) (loose := K47.loose) (d := HandSHeadRun.topDef (OpenLaw.row PySem.Challenge.rw_leadlight_k47_lines_read_or_refused).prog 21) (kwd := []) K47.ob_eq
    (by kernel_rfl) (fun s => by kernel_rfl) K47.run (by kernel_rfl) (by kernel_rfl) (by kernel_rfl) (by rfl) (by first | assumption | decide +kernel) (by decide +kernel) ⟨rfl, rfl, rfl, rfl, rfl, by decide +kernel⟩ ?hw ?hc
  case hw => w_witness2
  case hc =>
    refine L2.walk_ofE (l := PySem.Challenge.rw_leadlight_k47_lines_read_or_refused) (n := 63) (k := 9) (x := "_law_script") (CX := L2.CX0) rfl (by decide) (by kernel_rfl) ⟨rfl, by decide, by decide⟩ ?F (fun _ _ _ _ z => z)
    intro w mg fa h Y G hmg0
    obtain ⟨K, KX, c⟩ := Y
    have hmg : mg ("law" : PySem.Str) = some (.ref fa) := by
      have e : (HandSHeadRun.topDef (OpenLaw.row PySem.Challenge.rw_leadlight_k47_lines_read_or_refused).prog 21).name = ("law" : PySem.Str) := by kernel_rfl
      rw [← e]
      exact hmg0
    obtain ⟨fd, hb, hF⟩ := K47.law_ok (P := (PySem.Challenge.rw_leadlight_k47_lines_read_or_refused).prog) (w := w) (K47.Txt.of KX G c.t c.more) hmg
    exact ⟨K, fd, K47.spLaw K, KX, hb, fun H a ns hl _ hS => ⟨a, ns, rfl, hS, hl, fun _ => rfl⟩, hF⟩
