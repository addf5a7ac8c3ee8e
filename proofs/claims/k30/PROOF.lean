import PyProof.Rows.All
import Wide.All
import OpenK.AllK
import Wide.FinOn
import HandS.ForMost
import HandS.ForExc
import HandS.IsInst
import HandS.ExcIs
import HandS.Wide
import HandS.Defaults
import HandS.CallSlots
import HandS.MakeKwOnly
import HandS.Head0
import HandS.Head1
import HandS.Head2
import HandS.HeadEnd
import HandS.HeadHook1
import HandS.HeadHook2
import HandS.HeadHook3
import HandS.HeadHook4
import HandS.Evl
import HandS.MakeKw
import HandS.Sort
import HandS.SortOrd
import HandS.SortRule
import HandS.SortInts
import HandS.NamedTupSort
import HandS.Deep
import HandS.Set
import HandS.Strs
import HandS.SetFor
import HandS.Conv
import HandS.TupMul
import HandS.Dict
import HandS.TupSets
import PyProof.WalksMore
import PyProof.FactsAll.subtypes_4
import HandS.TupAny
import KE.GoesEnum
import HandS.Walk
import HandS.Zip
import HandS.DictComp
import HandS.Style
import KE.KTryMore
import HandS.Exc
import HandS.Text
import HandS.StrMore
import HandS.RaiseMore
import HandS.Star
import HandS.WrittenGet
import KE.KUnpackStar
import HandS.ExcInit
import HandS.ExcField
import KE.GoesZip
import HandS.SortKw
import KE.KExcInit
import KE.KExcIs
import KE.KDictPairs
import HandS.TupLen
import KE.KDictSum
import HandS.SetKeys
import KE.KDictDisplayH
import HandS.Finally
import HandS.WordsDict
import HandS.SetBool
import HandS.DictTup
import KE.KItemsList
import HandS.HotCalls
import HandS.FStr
import HandS.Steps
import HandS.Flow
import PyProof.FactsAll.tuple_0
import PyProof.ExcBaseAll.LookupError
import PyProof.ExcBaseAll.IndexError
import PySem.Challenge.RW_leadlight_k30_glass_set_and_broken
set_option Elab.async false
set_option linter.all false
set_option maxRecDepth 100000
set_option maxHeartbeats 4400000
namespace Lw
open PySem.Spec PySem L2 PyProof.Rows
abbrev Fg := PySem.W.Frag
section
variable {α β : Type} {a x : α} {l m : List α}
theorem mem_or (h : x ∈ l ++ m) : x ∈ l ∨ x ∈ m := List.mem_append.mp h
theorem mem_1 (h : x ∈ [a]) : x = a := List.mem_singleton.mp h
theorem mem_c (h : x ∈ a :: l) : x = a ∨ x ∈ l := List.mem_cons.mp h
theorem len_snoc : (l ++ [a]).length = l.length + 1 := List.length_append
theorem len_mr {n : Nat} {f : Nat → β} : ((List.range n).map f).length = n := by simp
theorem getD_q {i : Nat} : l.getD i a = (l[i]?).getD a := List.getD_eq_getElem?_getD
end
theorem ifF {p q : Prop} : (if false = true then p else q) = q := if_neg Bool.false_ne_true
/-! ### heaps: G the part that stays, H the whole -/
-- one heap within another: the library's
open Evl (Ex Ex.refl Ex.trans Ex.new ex_rd ex_l ex_t)
theorem _root_.Evl.Ex.off {H H' : Hp} {p : Addr} (e : Ex H H') (h : H' p = none) : H p = none := by
  cases h1 : H p with
  | none => rfl
  | some o =>
    rw [e p o h1] at h
    cases h

def join (G G2 : Hp) : Hp := fun a => match G a with
  | some o => some o
  | none => G2 a
theorem join_l {G G2 : Hp} : Ex G (join G G2) := fun a o h => by
  show (match G a with
    | some o => some o
    | none => G2 a) = some o
  rw [h]
theorem join_r {G G2 H : Hp} (e : Ex G H) (e2 : Ex G2 H) : Ex G2 (join G G2) := fun a o h => by
  show (match G a with
    | some o => some o
    | none => G2 a) = some o
  cases q : G a with
  | none => exact h
  | some u =>
    have z := e a u q
    rw [e2 a o h] at z
    exact z.symm
theorem join_of {G G2 H : Hp} (e : Ex G H) (e2 : Ex G2 H) : Ex (join G G2) H := fun a o h => by
  have h' : (match G a with
    | some o => some o
    | none => G2 a) = some o := h
  cases q : G a with
  | none =>
    rw [q] at h'
    exact e2 a o h'
  | some u =>
    rw [q] at h'
    exact e a o (q.trans h')
theorem join_none {G G2 : Hp} {a : Addr} (h : G a = none) (h2 : G2 a = none) : join G G2 a = none := by
  show (match G a with
    | some o => some o
    | none => G2 a) = none
  rw [h]
  exact h2
/-! ### the heap: G the part that stays, b the law's bag, H the whole -/
/-- B: where the law's bag of numbers stands, and the list of its cells, which stays -/
abbrev Bg := Option (Addr × Addr)
def Cel (K : Fg) (B : Bg) (G : Hp) : Prop := ∀ b c, B = some (b, c) → ∃ ns : List Int, SqL K G c (ns.map V.int)
def Bag (B : Bg) (G H : Hp) : Prop := ∀ b c, B = some (b, c) → (G b = none ∧ c ≠ b) ∧ ∃ i r m : Int, H b = some (.lst [.ref c, .int i, .int r, .int m]) ∧ 0 ≤ i
def isB (B : Bg) (a : Addr) : Prop := ∃ c, B = some (a, c)
structure Ok (K : Fg) (B : Bg) (G H : Hp) : Prop where
  e : Ex G H
  c : Cel K B G
  b : Bag B G H
structure Ext (K : Fg) (B : Bg) (G H G2 H2 : Hp) : Prop where
  gg : Ex G G2
  hh : ∀ a o, ¬ isB B a → H a = some o → H2 a = some o
  fr : ∀ a o, H a = some o → G a = none → G2 a = none
  ok : Ok K B G2 H2
section
variable {K : Fg} {B : Bg} {G G' H G1 H1 G2 H2 : Hp} {p : Addr} {o : HO}
theorem Cel.mono (e : Ex G G2) (h : Cel K B G) : Cel K B G2 := fun b c q => by
  obtain ⟨ns, z⟩ := h b c q
  exact ⟨ns, ex_l e z⟩
theorem Bag.ne (h : Bag B G H) (hp : H p = none) : ¬ isB B p := fun ⟨c, q⟩ => by
  obtain ⟨_, i, r, m, z, _⟩ := h p c q
  rw [hp] at z
  cases z
theorem Bag.keep (h : Bag B G H) (hg : ∀ a, isB B a → G a = none → G2 a = none) (q : ∀ a o, isB B a → H a = some o → H2 a = some o) : Bag B G2 H2 := fun b c z => by
  obtain ⟨g, i, r, m, e, k⟩ := h b c z
  exact ⟨⟨hg b ⟨c, z⟩ g.1, g.2⟩, i, r, m, q b _ ⟨c, z⟩ e, k⟩
theorem Ext.refl (h : Ok K B G H) : Ext K B G H G H := ⟨Ex.refl G, fun _ _ _ h => h, fun _ _ _ h => h, h⟩
theorem Ext.trans (a : Ext K B G H G1 H1) (b : Ext K B G1 H1 G2 H2) : Ext K B G H G2 H2 :=
  ⟨a.gg.trans b.gg, fun x o n h => b.hh x o n (a.hh x o n h), fun x o h g => by
    have g1 := a.fr x o h g
    by_cases c : isB B x
    · obtain ⟨y, q⟩ := c
      exact (b.ok.b x y q).1.1
    · exact b.fr x o (a.hh x o c h) g1, b.ok⟩
theorem ex_upd (e : Ex G H) : Ex (upd G p o) (upd H p o) := fun a u h => by
  by_cases c : a = p
  · subst c
    rw [upd_same] at h ⊢
    exact h
  · rw [upd_ne c] at h ⊢
    exact e a u h
theorem Bag.upd (h : Bag B G H) (hp : ¬ isB B p) : Bag B G (upd H p o) := h.keep (fun _ _ g => g) fun a u z q => by
  rw [upd_ne (show a ≠ p from fun c => hp (by rw [← c]; exact z))]
  exact q
theorem Ok.new (h : Ok K B G H) (hp : H p = none) : Ok K B (upd G p o) (upd H p o) := ⟨ex_upd h.e, h.c.mono (Ex.new (h.e.off hp)), (h.b.upd (h.b.ne hp)).keep (fun a z g => by
  rw [upd_ne (show a ≠ p from fun c => h.b.ne hp (by rw [← c]; exact z))]
  exact g) fun _ _ _ q => q⟩
theorem Ok.loose (h : Ok K B G H) (hp : H p = none) : Ok K B G (upd H p o) := ⟨h.e.trans (Ex.new hp), h.c, h.b.upd (h.b.ne hp)⟩
theorem Ext.new (e : Ok K B G H) (hp : H p = none) : Ext K B G H (upd G p o) (upd H p o) :=
  ⟨Ex.new (e.e.off hp), fun a u _ h => Ex.new hp a u h, fun a u h g => by
    rw [upd_ne (ne_of_none h hp)]
    exact g, e.new hp⟩
/-- a new object that may change later on -/
theorem Ext.loose (e : Ok K B G H) (hp : H p = none) : Ext K B G H G (upd H p o) :=
  ⟨Ex.refl G, fun a u _ h => Ex.new hp a u h, fun _ _ _ g => g, e.loose hp⟩
theorem Ok.less (e : Ex G G') (c : Cel K B G) (h : Ok K B G' H) : Ok K B G H := ⟨e.trans h.e, c, h.b.keep (fun a _ g => e.off g) fun _ _ _ q => q⟩
theorem Ext.wide (e : Ex G G') (h : Ok K B G' H) (x : Ext K B G H G2 H2) : Ext K B G' H (join G' G2) H2 ∧ Ex G2 (join G' G2) := by
  have z : Ex G' H2 := fun a o q => x.hh a o (fun ⟨c, k⟩ => by
    rw [(h.b a c k).1.1] at q
    cases q) (h.e a o q)
  refine ⟨⟨join_l, x.hh, fun a o q g => join_none g (x.fr a o q (e.off g)), ⟨join_of z x.ok.e, h.c.mono join_l, x.ok.b.keep (fun a ⟨c, k⟩ g => ?_) fun _ _ _ q => q⟩⟩, join_r z x.ok.e⟩
  exact join_none (h.b a c k).1.1 g
/-- an object outside of G may change -/
theorem Ok.mut (e : Ok K B G H) (hg : G p = none) (hb : ¬ isB B p) : Ok K B G (upd H p o) := ⟨fun a w h => by
  rw [upd_ne (ne_of_none h hg)]
  exact e.e a w h, e.c, e.b.upd hb⟩
end
/-! ### data -/
mutual
theorem dp_mono {K : Fg} {H H' : Hp} (e : Ex H H') : ∀ {v : V} {d : PyData}, Dp K H v d → Dp K H' v d
  | _, _, .non => .non
  | _, _, .bl b => .bl b
  | _, _, .int i => .int i
  | _, _, .str x => .str x
  | _, _, .lst h a => .lst (ex_l e h) (dpAll_mono e a)
  | _, _, .tup h a => .tup (ex_t e h) (dpAll_mono e a)
theorem dpAll_mono {K : Fg} {H H' : Hp} (e : Ex H H') : ∀ {vs : List V} {ds : List PyData}, DpAll K H vs ds → DpAll K H' vs ds
  | _, _, .nil => .nil
  | _, _, .cons h a => .cons (dp_mono e h) (dpAll_mono e a)
end
section
variable {K : Fg} {H : Hp} {v : V} {vs : List V} {ds : List PyData} {d : PyData}
theorem dp_int {i : Int} (h : Dp K H v (.int i)) : v = .int i := by cases h; rfl
theorem dp_bl {b : Bool} (h : Dp K H v (.bool b)) : v = .bl b := by cases h; rfl
theorem dp_non (h : Dp K H v .none) : v = .non := by cases h; rfl
theorem dp_str {x : Str} (h : Dp K H v (.str x)) : v = .str x := by cases h; rfl
theorem dp_tup (h : Dp K H v (.tuple ds)) : ∃ a xs, v = .ref a ∧ SqT K H a xs ∧ DpAll K H xs ds := by
  cases h with
  | tup h a => exact ⟨_, _, rfl, h, a⟩
theorem dp_lst (h : Dp K H v (.list ds)) : ∃ a xs, v = .ref a ∧ SqL K H a xs ∧ DpAll K H xs ds := by
  cases h with
  | lst h a => exact ⟨_, _, rfl, h, a⟩
theorem dpAll_len : ∀ {vs : List V} {ds : List PyData}, DpAll K H vs ds → vs.length = ds.length
  | _, _, .nil => rfl
  | _, _, .cons _ a => congrArg Nat.succ (dpAll_len a)
theorem dpAll_get : ∀ {vs : List V} {ds : List PyData} {i : Nat} {d : PyData}, DpAll K H vs ds → ds[i]? = some d → ∃ v, vs[i]? = some v ∧ Dp K H v d
  | _, _, 0, _, .cons h _, e => ⟨_, rfl, by cases (Option.some.inj e); exact h⟩
  | _, _, i + 1, d, .cons _ a, e => dpAll_get (i := i) a e
theorem dpAll_at : ∀ {vs : List V} {ds : List PyData} {i : Nat} {v : V}, DpAll K H vs ds → vs[i]? = some v → ∃ d, ds[i]? = some d ∧ Dp K H v d
  | _, _, 0, _, .cons h _, e => ⟨_, rfl, by cases (Option.some.inj e); exact h⟩
  | _, _, i + 1, d, .cons _ a, e => dpAll_at (i := i) a e
theorem dpAll_app : ∀ {vs us : List V} {ds es : List PyData}, DpAll K H vs ds → DpAll K H us es → DpAll K H (vs ++ us) (ds ++ es)
  | _, _, _, _, .nil, h => h
  | _, _, _, _, .cons a b, h => .cons a (dpAll_app b h)
theorem dpAll_ints : ∀ (ns : List Int), DpAll K H (ns.map V.int) (ns.map PyData.int)
  | [] => .nil
  | n :: r => .cons (.int n) (dpAll_ints r)
theorem atI_dp {i : Int} (h : DpAll K H vs ds) (e : atI ds i = some d) : ∃ v, atI vs i = some v ∧ Dp K H v d := by
  unfold atI at e ⊢
  rw [dpAll_len h]
  cases q : ixN ds.length i with
  | none =>
    rw [q] at e
    cases e
  | some j =>
    rw [q] at e
    exact dpAll_get h e
end
/-! ### what evaluates to which data -/
def Ret (K : Fg) (B : Bg) (G H : Hp) (Q : VK) (d : PyData) : Prop := ∀ v G2 H2, Ext K B G H G2 H2 → Dp K G2 v d → Q v H2
def Rai (K : Fg) (B : Bg) (G H : Hp) (E : XK) (C : Addr) : Prop := ∀ G2 H2, Ext K B G H G2 H2 → E (.ref C) none H2
def EvD (K : Fg) (B : Bg) (te : TE) (σ : L2.St) (G : Hp) (d : PyData) : Prop := ∀ H, Ok K B G H → ∀ Q : VK, Ret K B G H Q d → te σ H Q
def EvB (K : Fg) (B : Bg) (tt : TT) (σ : L2.St) (G : Hp) (b : Bool) : Prop := ∀ H, Ok K B G H → ∀ Q : Bool → Hp → Prop, (∀ G2 H2, Ext K B G H G2 H2 → Q b H2) → tt σ H Q
def EvA (K : Fg) (B : Bg) (ta : TA) (σ : L2.St) (G : Hp) (ds : List PyData) : Prop := ∀ H, Ok K B G H → ∀ Q : List V → Hp → Prop, (∀ vs G2 H2, Ext K B G H G2 H2 → DpAll K G2 vs ds → Q vs H2) → ta σ H Q
def EvO (K : Fg) (B : Bg) (to : TO) (σ : L2.St) (G : Hp) (o : Option Int) : Prop := ∀ H, Ok K B G H → ∀ Q : Option Int → Hp → Prop, (∀ G2 H2, Ext K B G H G2 H2 → Q o H2) → to σ H Q
section
variable {K : Fg} {B : Bg} {σ : L2.St} {G G' H : Hp} {te ta tb tc : TE} {tt tu : TT} {tr : TA} {d x y z : PyData} {ds : List PyData} {r r' : R2} {b c : Bool}
theorem EvD.mono (e : Ex G G') (c : Cel K B G) (h : EvD K B te σ G d) : EvD K B te σ G' d := fun H eH Q q =>
  h H (eH.less e c) Q fun v G2 H2 X dv => by
    obtain ⟨X2, e2⟩ := X.wide e eH
    exact q v _ H2 X2 (dp_mono e2 dv)
theorem EvB.mono (e : Ex G G') (c : Cel K B G) (h : EvB K B tt σ G b) : EvB K B tt σ G' b := fun H eH Q q =>
  h H (eH.less e c) Q fun G2 H2 X => q _ H2 (X.wide e eH).1
theorem EvA.mono (e : Ex G G') (c : Cel K B G) (h : EvA K B tr σ G ds) : EvA K B tr σ G' ds := fun H eH Q q =>
  h H (eH.less e c) Q fun v G2 H2 X dv => by
    obtain ⟨X2, e2⟩ := X.wide e eH
    exact q v _ H2 X2 (dpAll_mono e2 dv)
theorem Ret.mono {Q : VK} {G1 H1 : Hp} (X : Ext K B G H G1 H1) (h : Ret K B G H Q d) : Ret K B G1 H1 Q d := fun v G2 H2 X2 dv => h v G2 H2 (X.trans X2) dv
theorem Ret.here {Q : VK} {v : V} (h : Ret K B G H Q d) (e : Ok K B G H) (dv : Dp K G v d) : Q v H := h v G H (Ext.refl e) dv
theorem ed_var {i : Nat} {v : V} (h : σ[i]? = some (some v)) (dv : Dp K G v d) : EvD K B (tVar i) σ G d := fun H e Q q => ⟨v, h, q.here e dv⟩
theorem ed_c {v : V} (dv : Dp K G v d) : EvD K B (tC v) σ G d := fun H e Q q => q.here e dv
theorem ed_int {i : Int} : EvD K B (tC (.int i)) σ G (.int i) := ed_c (.int i)
theorem ed_non : EvD K B (tC .non) σ G .none := ed_c .non
theorem ed_str {i : Str} : EvD K B (tC (.str i)) σ G (.str i) := ed_c (.str i)
/-- what an operation on values gives -/
def RvD (K : Fg) (B : Bg) (r : R2) (G : Hp) (x y z : PyData) : Prop := ∀ u v G2 H2, Ex G G2 → Ok K B G2 H2 → Dp K G2 u x → Dp K G2 v y → ∀ Q, Ret K B G2 H2 Q z → r u v H2 Q
theorem ed_op (ha : EvD K B ta σ G x) (hb : EvD K B tb σ G y) (hr : RvD K B r G x y z) : EvD K B (tOp r ta tb) σ G z := fun H e Q q =>
  ha H e _ fun u G2 H2 X2 d2 => hb.mono X2.gg e.c H2 X2.ok _ fun v G3 H3 X3 d3 =>
    hr u v G3 H3 (X2.gg.trans X3.gg) X3.ok (dp_mono X3.gg d2) d3 Q (q.mono (X2.trans X3))
theorem rd_I0 {g : Int → Int → Int} {i j : Int} : RvD K B (rI0 fun i j => .int (g i j)) G (.int i) (.int j) (.int (g i j)) := fun u v G2 H2 _ e du dv Q q => ⟨i, j, dp_int du, dp_int dv, q.here e (.int _)⟩
theorem rd_B0 {g : Int → Int → Bool} {i j : Int} : RvD K B (rI0 fun i j => .bl (g i j)) G (.int i) (.int j) (.bool (g i j)) := fun u v G2 H2 _ e du dv Q q => ⟨i, j, dp_int du, dp_int dv, q.here e (.bl _)⟩
theorem rd_I {C : Int → Int → Prop} {g : Int → Int → Int} {i j : Int} (hc : C i j) : RvD K B (rI C fun i j => .int (g i j)) G (.int i) (.int j) (.int (g i j)) := fun u v G2 H2 _ e du dv Q q => ⟨i, j, dp_int du, dp_int dv, hc, q.here e (.int _)⟩
theorem rd_ixT {i : Int} (h : atI ds i = some d) : RvD K B (rIxT K) G (.tuple ds) (.int i) d := fun u v G2 H2 _ e du dv Q q => by
  obtain ⟨a, xs, rfl, hs, hx⟩ := dp_tup du
  obtain ⟨w, hw, dw⟩ := atI_dp hx h
  exact ⟨a, xs, i, w, rfl, dp_int dv, ex_t e.e hs, hw, q.here e dw⟩
theorem rd_ixL {i : Int} (h : atI ds i = some d) : RvD K B (rIxL K) G (.list ds) (.int i) d := fun u v G2 H2 _ e du dv Q q => by
  obtain ⟨a, xs, rfl, hs, hx⟩ := dp_lst du
  obtain ⟨w, hw, dw⟩ := atI_dp hx h
  exact ⟨a, xs, i, w, rfl, dp_int dv, ex_l e.e hs, hw, q.here e dw⟩
def scalD : PyData → PyData → Bool
  | .none, .none => true
  | .none, .int _ => true
  | .int _, .none => true
  | .none, .bool _ => true
  | .bool _, .none => true
  | .none, .str _ => true
  | .str _, .none => true
  | .int _, .int _ => true
  | .bool _, .bool _ => true
  | .str _, .str _ => true
  | .int _, .str _ => true
  | .str _, .int _ => true
  | .bool _, .str _ => true
  | .str _, .bool _ => true
  | _, _ => false
def vOf : PyData → V
  | .none => .non
  | .bool b => .bl b
  | .int i => .int i
  | .str x => .str x
  | _ => .non
theorem rd_eq (h : scalD x y = true) : RvD K B rEq G x y (.bool (decide (vOf x = vOf y))) := fun u v G2 H2 _ e du dv Q q => by
  cases du <;> cases dv <;> first
    | exact ⟨rfl, q.here e (.bl _)⟩
    | exact Bool.noConfusion h
theorem rd_ne (h : scalD x y = true) : RvD K B rNe G x y (.bool (!decide (vOf x = vOf y))) := fun u v G2 H2 _ e du dv Q q => by
  cases du <;> cases dv <;> first
    | exact ⟨rfl, q.here e (.bl _)⟩
    | exact Bool.noConfusion h
theorem ed_chain {k1 k2 : Bool} (ha : EvD K B ta σ G x) (hb : EvD K B tb σ G y) (hc : k1 = true → EvD K B tc σ G z) (hr : RvD K B r G x y (.bool k1)) (hr' : k1 = true → RvD K B r' G y z (.bool k2)) : EvD K B (tChain r r' ta tb tc) σ G (.bool (k1 && k2)) := fun H e Q q =>
  ha H e _ fun u G2 H2 X2 d2 => hb.mono X2.gg e.c H2 X2.ok _ fun v G3 H3 X3 d3 =>
    hr u v G3 H3 (X2.gg.trans X3.gg) X3.ok (dp_mono X3.gg d2) d3 _ fun w G4 H4 X4 d4 => by
      refine ⟨k1, dp_bl d4, ?_⟩
      have X := X2.trans (X3.trans X4)
      cases k1 with
      | true =>
        rw [if_pos rfl]
        exact (hc rfl).mono X.gg e.c H4 X.ok _ fun w5 G5 H5 X5 d5 => hr' rfl v w5 G5 H5 (X.gg.trans X5.gg) X5.ok (dp_mono (X4.gg.trans X5.gg) d3) d5 Q (q.mono (X.trans X5))
      | false =>
        rw [ifF]
        exact q _ G4 H4 X (.bl false)
theorem eb_test (h : EvD K B te σ G (.bool b)) : EvB K B (tTest te) σ G b := fun H e Q q => h H e _ fun v G2 H2 X dv => ⟨b, dp_bl dv, q G2 H2 X⟩
theorem eb_B (h : EvD K B te σ G (.bool b)) : EvB K B (tB te) σ G b := fun H e Q q => h H e _ fun v G2 H2 X dv => ⟨b, dp_bl dv, q G2 H2 X⟩
theorem eb_not (h : EvB K B tt σ G b) : EvB K B (tNot tt) σ G (!b) := fun H e Q q => h H e _ fun G2 H2 X => q G2 H2 X
theorem eb_and (h : EvB K B tt σ G b) (h2 : b = true → EvB K B tu σ G c) : EvB K B (tAnd tt tu) σ G (b && c) := fun H e Q q => h H e _ fun G2 H2 X => by
  cases b with
  | true =>
    rw [if_pos rfl]
    exact (h2 rfl).mono X.gg e.c H2 X.ok Q fun G3 H3 X3 => q G3 H3 (X.trans X3)
  | false =>
    rw [ifF]
    exact q G2 H2 X
theorem eb_or (h : EvB K B tt σ G b) (h2 : b = false → EvB K B tu σ G c) : EvB K B (tOr tt tu) σ G (b || c) := fun H e Q q => h H e _ fun G2 H2 X => by
  cases b with
  | true =>
    rw [if_pos rfl]
    exact q G2 H2 X
  | false =>
    rw [ifF]
    exact (h2 rfl).mono X.gg e.c H2 X.ok Q fun G3 H3 X3 => q G3 H3 (X.trans X3)
theorem ed_andV (h : EvD K B ta σ G (.bool b)) (h2 : b = true → EvD K B tb σ G (.bool c)) : EvD K B (tAndV ta tb) σ G (.bool (b && c)) := fun H e Q q => h H e _ fun v G2 H2 X dv => by
  refine ⟨b, dp_bl dv, ?_⟩
  cases b with
  | true =>
    rw [if_pos rfl]
    exact (h2 rfl).mono X.gg e.c H2 X.ok Q (q.mono X)
  | false =>
    rw [ifF]
    exact q _ G2 H2 X (.bl _)
theorem ed_orV (h : EvD K B ta σ G (.bool b)) (h2 : b = false → EvD K B tb σ G (.bool c)) : EvD K B (tOrV ta tb) σ G (.bool (b || c)) := fun H e Q q => h H e _ fun v G2 H2 X dv => by
  refine ⟨b, dp_bl dv, ?_⟩
  cases b with
  | true =>
    rw [if_pos rfl]
    exact q _ G2 H2 X (.bl _)
  | false =>
    rw [ifF]
    exact (h2 rfl).mono X.gg e.c H2 X.ok Q (q.mono X)
theorem ed_notV (h : EvD K B ta σ G (.bool b)) : EvD K B (tNotV ta) σ G (.bool (!b)) := fun H e Q q => h H e _ fun v G2 H2 X dv => ⟨b, dp_bl dv, q _ G2 H2 X (.bl _)⟩
theorem ed_if (h : EvB K B tt σ G b) (h1 : b = true → EvD K B ta σ G d) (h2 : b = false → EvD K B tb σ G d) : EvD K B (tIf tt ta tb) σ G d := fun H e Q q => h H e _ fun G2 H2 X => by
  cases b with
  | true =>
    rw [if_pos rfl]
    exact (h1 rfl).mono X.gg e.c H2 X.ok Q (q.mono X)
  | false =>
    rw [ifF]
    exact (h2 rfl).mono X.gg e.c H2 X.ok Q (q.mono X)
theorem ed_is (h : EvD K B te σ G d) (e : d = x) : EvD K B te σ G x := e ▸ h
theorem eb_is (h : EvB K B tt σ G b) (e : b = c) : EvB K B tt σ G c := e ▸ h
theorem ea_nil : EvA K B tNil σ G [] := fun H e Q q => q [] G H (Ext.refl e) .nil
theorem ea_cons (h : EvD K B ta σ G d) (hr : EvA K B tr σ G ds) : EvA K B (tCons ta tr) σ G (d :: ds) := fun H e Q q =>
  h H e _ fun v G2 H2 X dv => hr.mono X.gg e.c H2 X.ok _ fun vs G3 H3 X3 dvs => q _ G3 H3 (X.trans X3) (.cons (dp_mono X3.gg dv) dvs)
theorem sz {n : Nat} (h : n ≤ 100000) : n ≤ sizeLine := Nat.le_trans h (by decide)
theorem szl {n : Nat} (h : n < 100000) : n < sizeLine := Nat.lt_of_lt_of_le h (by decide)
theorem ed_tup (h : EvA K B tr σ G ds) (hl : ds.length ≤ 100000) : EvD K B (tTup tr) σ G (.tuple ds) := fun H e Q q =>
  h H e _ fun vs G2 H2 X dv => ⟨by rw [dpAll_len dv]; exact sz hl, fun p hp =>
    q _ _ _ (X.trans (Ext.new X.ok hp)) (.tup (SqT.of upd_same) (dpAll_mono (Ex.new (X.ok.e.off hp)) dv))⟩
theorem ed_lst (h : EvA K B tr σ G ds) (hl : ds.length ≤ 100000) : EvD K B (tLst tr) σ G (.list ds) := fun H e Q q =>
  h H e _ fun vs G2 H2 X dv => ⟨by rw [dpAll_len dv]; exact sz hl, fun p hp =>
    q _ _ _ (X.trans (Ext.new X.ok hp)) (.lst (SqL.of upd_same) (dpAll_mono (Ex.new (X.ok.e.off hp)) dv))⟩
/-- a call of an own def -/
theorem ed_call {sp : Sp} {dvs : List V} {E : XK} (ha : EvA K B tr σ G ds) (hs : ∀ vs G2 H2, Ex G G2 → Ok K B G2 H2 → DpAll K G2 vs ds → ∀ Q, Ret K B G2 H2 Q d → sp (vs ++ dvs) H2 Q E) : EvD K B (tCall sp dvs E tr) σ G d := fun H e Q q =>
  ha H e _ fun vs G2 H2 X dv => hs vs G2 H2 X.gg X.ok dv Q (q.mono X)
/-- a call of a builtin -/
theorem ed_cb {r : List V → Hp → VK → Prop} (ha : EvA K B tr σ G ds) (hs : ∀ vs G2 H2, Ex G G2 → Ok K B G2 H2 → DpAll K G2 vs ds → ∀ Q, Ret K B G2 H2 Q d → r vs H2 Q) : EvD K B (tCB r tr) σ G d := fun H e Q q =>
  ha H e _ fun vs G2 H2 X dv => hs vs G2 H2 X.gg X.ok dv Q (q.mono X)
/-! ### statements -/
variable {D : Ends} {t u : TS}
theorem st_set {i : Nat} (h : EvD K B te σ G d) (e : Ok K B G H) (k : ∀ v G2 H2, Ext K B G H G2 H2 → Dp K G2 v d → D.nx (σ.set i (some v)) H2) : tAsg te (gName i) D σ H := h H e _ fun v G2 H2 X dv => k v G2 H2 X dv
theorem sq_set {i : Nat} (h : EvD K B te σ G d) (e : Ok K B G H) (k : ∀ v G2 H2, Ext K B G H G2 H2 → Dp K G2 v d → u D (σ.set i (some v)) H2) : tSeq (tAsg te (gName i)) u D σ H := h H e _ fun v G2 H2 X dv => k v G2 H2 X dv
theorem st_ret (h : EvD K B te σ G d) (e : Ok K B G H) (k : Ret K B G H D.rt d) : tRet te D σ H := h H e _ k
theorem st_if (h : EvB K B tt σ G b) (e : Ok K B G H) (k1 : b = true → ∀ G2 H2, Ext K B G H G2 H2 → t D σ H2) (k2 : b = false → ∀ G2 H2, Ext K B G H G2 H2 → u D σ H2) : tIfS tt t u D σ H := h H e _ fun G2 H2 X => by
  cases b with
  | true =>
    rw [if_pos rfl]
    exact k1 rfl G2 H2 X
  | false =>
    rw [ifF]
    exact k2 rfl G2 H2 X
theorem sq_if {w : TS} (h : EvB K B tt σ G b) (e : Ok K B G H) (k1 : b = true → ∀ G2 H2, Ext K B G H G2 H2 → t { D with nx := w D } σ H2) (k2 : b = false → ∀ G2 H2, Ext K B G H G2 H2 → u { D with nx := w D } σ H2) : tSeq (tIfS tt t u) w D σ H := st_if h e k1 k2
end
end Lw

namespace Lw
open PySem.Spec PySem L2 PyProof.Rows
open Evl (Ex Ex.refl Ex.trans Ex.new Ex.off ex_rd ex_l ex_t)
/-! ### own defs by their promises -/
structure Good (P : Program) (w : World) (K : Fg) (mg : Str → Option Value) (base : Heap) (CX : CXT) (k : Nat) (x : Str) (ps : List Str) (dvs : List V) (sp : Sp) : Prop where
  ex : ∃ fd ds, FnOk P w K mg base CX k (He.ga K x) fd ps sp ∧ Vals dvs ds ∧ Binds K fd ps ds
  g : mg x = some (.ref (He.ga K x))
  kp : PySem.W.keepIn K (.ref (He.ga K x)) = true
structure GoodK (P : Program) (w : World) (K : Fg) (mg : Str → Option Value) (base : Heap) (CX : CXT) (k : Nat) (x : Str) (ps : List Str) (n : Nat) (ks : List Str) (gV : List V → List V → List V) (sp : Sp) : Prop where
  ex : ∃ fd g, FnOk P w K mg base CX k (He.ga K x) fd ps sp ∧ KBn K fd ps n ks g gV
  g : mg x = some (.ref (He.ga K x))
  kp : PySem.W.keepIn K (.ref (He.ga K x)) = true
section
variable {X : Cx} {CX : CXT} {k n : Nat} {ps ks : List Str} {sp : Sp} {E : XK} {x : Str} {p pos : Pos} {e : Expr} {es : List Expr} {kws : List Keyword} {t tk : TA} {dvs : List V} {gV : List V → List V → List V}
/-- what is seen of the text of a call by places -/
structure Tx1 (X : Cx) (pos : Pos) (x : Str) (e : Expr) (es : List Expr) : Prop where
  nm : (x == ("__debug__" : Str)) = false
  fst : starEach (e :: es) X.env = (false, eval e X.env) :: starEach es X.env
  no : (backTo pos (starEach es X.env)).any (·.1) = false
/-- and of one by names -/
structure Tx2 (X : Cx) (pos : Pos) (kws : List Keyword) (ks : List Str) : Prop where
  all : (backToKw pos (keywordEach kws X.env)).all (·.1.isSome) = true
  nms : (backToKw pos (keywordEach kws X.env)).filterMap (·.1) = ks
theorem pe_own (F : Good X.prog X.w X.K X.mg X.base CX k x ps dvs sp) (hr : Room k X.A) (hg : Gl X x) (hx : Passes CX X E) (ha : PA X (e :: es) t)
    (tx : Tx1 X pos x e es := by exact ⟨by decide, by rfl, by rfl⟩) : PE X (.Call (.Name x p) (e :: es) [] pos) (tCall sp dvs E t) := by
  obtain ⟨fd, ds, G, r, b⟩ := F.ex
  exact pe_call G hr hg F.g F.kp b r hx ha tx.nm tx.fst tx.no
theorem pe_ownS {E : L2.St → XK} (F : Good X.prog X.w X.K X.mg X.base CX k x ps dvs sp) (hr : Room k X.A) (hg : Gl X x) (hx : ∀ σ, PassesAt CX X σ (E σ)) (ha : PA X (e :: es) t)
    (tx : Tx1 X pos x e es := by exact ⟨by decide, by rfl, by rfl⟩) : PE X (.Call (.Name x p) (e :: es) [] pos) (tCallSD sp dvs E t) := by
  obtain ⟨fd, ds, G, r, b⟩ := F.ex
  exact pe_callSD G hr hg F.g F.kp b r hx ha tx.nm tx.fst tx.no
end
end Lw
namespace L2
open PySem.Spec PySem PyProof.Rows
/-- what isinstance of a caught error of the class at D wants -/
def excCB (K : PySem.W.Frag) (D : Addr) : Bool :=
  He.eqO (PySem.W.findIn K (.ref D) "__getattribute__") (some (some (.builtin "BaseException.__getattribute__"))) && (He.eqO (PySem.W.findIn K (.ref D) "__getattr__") (some none) && (decide (PySem.W.subIn K (.ref D) (.type "BaseException") = some true) && (PySem.W.hasDictIn K D && (He.eqO (PySem.W.findIn K (.ref D) "__class__") (some (some (.builtin "object.__class__"))) && (He.eqO (PySem.W.specialIn K (.builtin "object.__class__") "__get__") (some (some (.builtin "getset_descriptor.__get__"))) && (decide (PySem.W.takesIn K (.builtin "object.__class__") = some true) && decide (PySem.W.mroIn K D (.type "object") = some true)))))))
theorem excC_of {K : PySem.W.Frag} {D : Addr} (h : excCB K D = true) : ExcC K D := by
  obtain ⟨h1, h⟩ := He.ba h
  obtain ⟨h2, h⟩ := He.ba h
  obtain ⟨h3, h⟩ := He.ba h
  obtain ⟨h4, h⟩ := He.ba h
  obtain ⟨h5, h⟩ := He.ba h
  obtain ⟨h6, h⟩ := He.ba h
  obtain ⟨h7, h8⟩ := He.ba h
  exact ⟨He.eqO_ok h1, He.eqO_ok h2, of_decide_eq_true h3, h4, He.eqO_ok h5, He.eqO_ok h6, of_decide_eq_true h7, of_decide_eq_true h8⟩
end L2

namespace Lw
open PySem.Spec PySem L2 PyProof.Rows
open Evl (Ex Ex.refl Ex.trans Ex.new Ex.off ex_rd ex_l ex_t)
section
variable {K : Fg} {B : Bg} {σ : L2.St} {G G' H : Hp} {te ta tb tc : TE} {tt tu : TT} {tr : TA} {d x y z : PyData} {ds es : List PyData} {r r' : R2} {b c : Bool}
/-! ### kinds -/
def tyD : PyData → String
  | .none => "NoneType"
  | .bool _ => "bool"
  | .int _ => "int"
  | .str _ => "str"
  | .list _ => "list"
  | .tuple _ => "tuple"
  | .dict _ => "dict"
theorem tyX_of {v : V} (e : Ex G H) (h : Dp K G v d) : TyX K H v (.type (tyD d)) := by
  cases h with
  | non => exact .base .non
  | bl b => exact .base (.bl b)
  | int i => exact .base (.int i)
  | str x => exact .base (.str x)
  | lst h a =>
    rcases h with (h | ⟨o, h⟩) | ⟨o, its, n, hk, hc, _⟩
    · exact .base (.lst (e _ _ h))
    · exact .base (.frz (e _ _ h))
    · exact .kList hk hc
  | tup h a =>
    rcases h with (h | ⟨o, h⟩) | ⟨o, its, n, hk, hc, _⟩
    · exact .base (.tup (e _ _ h))
    · exact .fTuple (e _ _ h)
    · exact .kTuple hk hc
theorem ed_isi {n : String} (h : EvD K B ta σ G d) (hk : kitB (tyD d) n = some b) : EvD K B (tCB (rIsi K) (tCons ta (tCons (tC (.ty n)) tNil))) σ G (.bool b) := fun H e Q q =>
  h H e _ fun v G2 H2 X dv => ⟨v, .ty n, .type (tyD d), .type n, b, rfl, .ty n, tyX_of X.ok.e dv, kit_ty hk, q _ G2 H2 X (.bl b)⟩
abbrev rLenS (K : Fg) : List V → Hp → VK → Prop := fun xs H Q => ∃ p ys, xs = [.ref p] ∧ (SqL K H p ys ∨ SqT K H p ys) ∧ Q (.int ys.length) H
abbrev rListS (K : Fg) : List V → Hp → VK → Prop := fun xs H Q => ∃ p ys, xs = [.ref p] ∧ (SqL K H p ys ∨ SqT K H p ys) ∧ ∀ l, H l = none → Q (.ref l) (upd H l (.lst ys))
abbrev rTupS (K : Fg) : List V → Hp → VK → Prop := fun xs H Q => ∃ p ys, xs = [.ref p] ∧ ((SqL K H p ys ∧ ∀ l, H l = none → Q (.ref l) (upd H l (.tup ys))) ∨ (SqT K H p ys ∧ Q (.ref p) H))
def lenD : PyData → Option Nat
  | .list ds => some ds.length
  | .tuple ds => some ds.length
  | _ => none
theorem ed_len {n : Nat} (h : EvD K B ta σ G d) (hl : lenD d = some n) : EvD K B (tCB (rLenS K) (tCons ta tNil)) σ G (.int (n : Int)) := fun H e Q q =>
  h H e _ fun v G2 H2 X dv => by
    cases dv with
    | lst hs a =>
      have e1 := dpAll_len a
      have e2 : n = _ := (Option.some.inj hl).symm
      refine ⟨_, _, rfl, .inl (ex_l X.ok.e hs), q _ G2 H2 X ?_⟩
      rw [e1, e2]
      exact .int _
    | tup hs a =>
      have e1 := dpAll_len a
      have e2 : n = _ := (Option.some.inj hl).symm
      refine ⟨_, _, rfl, .inr (ex_t X.ok.e hs), q _ G2 H2 X ?_⟩
      rw [e1, e2]
      exact .int _
    | _ => cases hl
def isNon : PyData → Bool
  | .none => true
  | _ => false
theorem rd_isN : RvD K B (fun x y H Q => y = .non ∧ Q (.bl (decide (x = .non))) H) G d .none (.bool (isNon d)) := fun u v G2 H2 _ e du dv Q q => ⟨dp_non dv, by
  have z : decide (u = .non) = isNon d := by cases du <;> rfl
  rw [z]
  exact q.here e (.bl _)⟩
theorem rd_neD (h1 : SeqAt.shaped x = true) (h2 : SeqAt.shaped y = true) : RvD K B (rNeD K) G x y (.bool (!PyData.eqv x y)) := fun u v G2 H2 _ e du dv Q q => ⟨x, y, dp_mono e.e du, dp_mono e.e dv, h1, h2, q.here e (.bl _)⟩
theorem rd_ixSL {i : Int} (h : atI ds i = some d) : RvD K B (rIx K) G (.list ds) (.int i) d := fun u v G2 H2 g e du dv Q q => .inl (rd_ixL (B := B) h u v G2 H2 g e du dv Q q)
theorem rd_ixST {i : Int} (h : atI ds i = some d) : RvD K B (rIx K) G (.tuple ds) (.int i) d := fun u v G2 H2 g e du dv Q q => .inr (.inl (rd_ixT (B := B) h u v G2 H2 g e du dv Q q))
/-! ### parts of tuples and lists -/
def cutD (ds : List PyData) (lo hi : Option Int) : List PyData := (ds.drop (HT.sIx ds.length 0 lo)).take (HT.sIx ds.length ds.length hi - HT.sIx ds.length 0 lo)
theorem dpAll_drop : ∀ {vs : List V} {ds : List PyData} (n : Nat), DpAll K H vs ds → DpAll K H (vs.drop n) (ds.drop n)
  | _, _, 0, h => h
  | _, _, _ + 1, .nil => .nil
  | _, _, n + 1, .cons _ a => dpAll_drop n a
theorem dpAll_take : ∀ {vs : List V} {ds : List PyData} (n : Nat), DpAll K H vs ds → DpAll K H (vs.take n) (ds.take n)
  | _, _, 0, _ => .nil
  | _, _, _ + 1, .nil => .nil
  | _, _, n + 1, .cons h a => .cons h (dpAll_take n a)
theorem dpAll_cut {vs : List V} {lo hi : Option Int} (h : DpAll K H vs ds) : DpAll K H (cutV vs lo hi) (cutD ds lo hi) := by
  unfold cutV cutD
  rw [dpAll_len h]
  exact dpAll_take _ (dpAll_drop _ h)
theorem eo_none : EvO K B tNoPart σ G none := fun H e Q q => q G H (Ext.refl e)
theorem EvO.mono {to : TO} {o : Option Int} (e : Ex G G') (c : Cel K B G) (h : EvO K B to σ G o) : EvO K B to σ G' o := fun H eH Q q => h H (eH.less e c) Q fun G2 H2 X => q _ H2 (X.wide e eH).1
theorem eo_some {i : Int} (h : EvD K B te σ G (.int i)) : EvO K B (tPart te) σ G (some i) := fun H e Q q => h H e _ fun v G2 H2 X dv => ⟨i, dp_int dv, q G2 H2 X⟩
theorem ed_slT {tl th : TO} {lo hi : Option Int} (h : EvD K B te σ G (.tuple ds)) (h1 : EvO K B tl σ G lo) (h2 : EvO K B th σ G hi) (hn : ¬ (HT.sIx ds.length 0 lo = 0 ∧ HT.sIx ds.length ds.length hi = ds.length)) :
    EvD K B (tSl (rSlT K) te tl th) σ G (.tuple (cutD ds lo hi)) := fun H e Q q =>
  h H e _ fun v G2 H2 X dv => h1.mono X.gg e.c H2 X.ok _ fun G3 H3 X3 => h2.mono (X.gg.trans X3.gg) e.c H3 X3.ok _ fun G4 H4 X4 => by
    obtain ⟨a, xs, rfl, hs, hx⟩ := dp_tup (dp_mono (X3.gg.trans X4.gg) dv)
    have Y := X.trans (X3.trans X4)
    refine ⟨a, xs, rfl, ex_t X4.ok.e hs, ?_, fun p hp => q _ _ _ (Y.trans (Ext.new Y.ok hp)) (.tup (SqT.of upd_same) (dpAll_mono (Ex.new (Y.ok.e.off hp)) (dpAll_cut hx)))⟩
    rw [dpAll_len hx]
    exact hn
theorem ed_slL {tl th : TO} {lo hi : Option Int} (h : EvD K B te σ G (.list ds)) (h1 : EvO K B tl σ G lo) (h2 : EvO K B th σ G hi) :
    EvD K B (tSl (rSlL K) te tl th) σ G (.list (cutD ds lo hi)) := fun H e Q q =>
  h H e _ fun v G2 H2 X dv => h1.mono X.gg e.c H2 X.ok _ fun G3 H3 X3 => h2.mono (X.gg.trans X3.gg) e.c H3 X3.ok _ fun G4 H4 X4 => by
    obtain ⟨a, xs, rfl, hs, hx⟩ := dp_lst (dp_mono (X3.gg.trans X4.gg) dv)
    have Y := X.trans (X3.trans X4)
    exact ⟨a, xs, rfl, ex_l X4.ok.e hs, fun p hp => q _ _ _ (Y.trans (Ext.new Y.ok hp)) (.lst (SqL.of upd_same) (dpAll_mono (Ex.new (Y.ok.e.off hp)) (dpAll_cut hx)))⟩
theorem rd_catT (h0 : ds ≠ []) (h1 : es ≠ []) (hl : ds.length + es.length ≤ 100000) : RvD K B (rCatT K) G (.tuple ds) (.tuple es) (.tuple (ds ++ es)) := fun u v G2 H2 _ e du dv Q q => by
  obtain ⟨a, xs, rfl, hs, hx⟩ := dp_tup du
  obtain ⟨a', ys, rfl, hs', hy⟩ := dp_tup dv
  refine ⟨a, a', xs, ys, rfl, rfl, ex_t e.e hs, ex_t e.e hs', fun z => ?_, ?_, fun z => ?_, fun _ p hp => ?_⟩
  · subst z
    cases hx
    exact h0 rfl
  · rw [dpAll_len hx, dpAll_len hy]
    exact sz hl
  · subst z
    cases hy
    exact absurd rfl h1
  · exact q _ _ _ (Ext.new e hp) (.tup (SqT.of upd_same) (dpAll_mono (Ex.new (e.e.off hp)) (dpAll_app hx hy)))
/-- a list made anew, outside of what stays -/
def RetF (K : Fg) (B : Bg) (G H : Hp) (Q : VK) (ds : List PyData) : Prop := ∀ p xs G2 H2, Ext K B G H G2 H2 → H p = none → G2 p = none → ¬ isB B p → H2 p = some (.lst xs) → DpAll K G2 xs ds → Q (.ref p) H2
def EvF (K : Fg) (B : Bg) (te : TE) (σ : L2.St) (G : Hp) (ds : List PyData) : Prop := ∀ H, Ok K B G H → ∀ Q : VK, RetF K B G H Q ds → te σ H Q
theorem Ext.freeze {G2 H2 : Hp} {p : Addr} {o : HO} (X : Ext K B G H G2 H2) (hp : H p = none) (hg : G2 p = none) (hb : ¬ isB B p) (h2 : H2 p = some o) : Ext K B G H (upd G2 p o) H2 :=
  ⟨X.gg.trans (Ex.new hg), X.hh, fun a u h g => by
    rw [upd_ne (ne_of_none h hp)]
    exact X.fr a u h g, ⟨fun a u h => by
      by_cases c : a = p
      · subst c
        rw [upd_same] at h
        rw [h2, ← h]
      · rw [upd_ne c] at h
        exact X.ok.e a u h, X.ok.c.mono (Ex.new hg), X.ok.b.keep (fun a z g => by
        rw [upd_ne (show a ≠ p from fun c => hb (by rw [← c]; exact z))]
        exact g) fun _ _ _ q => q⟩⟩
theorem RetF.of {Q : VK} (h : Ret K B G H Q (.list ds)) : RetF K B G H Q ds := fun p xs G2 H2 X hp hg hb h2 a =>
  h _ _ H2 (X.freeze hp hg hb h2) (.lst (SqL.of upd_same) (dpAll_mono (Ex.new hg) a))
theorem EvF.ed (h : EvF K B te σ G ds) : EvD K B te σ G (.list ds) := fun H e Q q => h H e Q (.of q)
theorem RetF.mono {Q : VK} {G1 H1 : Hp} (X : Ext K B G H G1 H1) (h : RetF K B G H Q ds) : RetF K B G1 H1 Q ds := fun p xs G2 H2 X2 hp hg hb h2 a => h p xs G2 H2 (X.trans X2) (by
  cases q : H p with
  | none => rfl
  | some o =>
    have z := X.hh p o hb q
    rw [hp] at z
    cases z) hg hb h2 a
theorem EvF.mono (e : Ex G G') (c : Cel K B G) (h : EvF K B te σ G ds) : EvF K B te σ G' ds := fun H eH Q q =>
  h H (eH.less e c) Q fun p xs G2 H2 X hp hg hb h2 a => by
    obtain ⟨X2, e2⟩ := X.wide e eH
    exact q p xs _ H2 X2 hp (join_none (eH.e.off hp) hg) hb h2 (dpAll_mono e2 a)
theorem ef_lst (h : EvA K B tr σ G ds) (hl : ds.length ≤ 100000) : EvF K B (tLst tr) σ G ds := fun H e Q q =>
  h H e _ fun vs G2 H2 X dv => ⟨by rw [dpAll_len dv]; exact sz hl, fun p hp => by
    have nb := X.ok.b.ne hp
    refine q p vs G2 _ (X.trans (Ext.loose X.ok hp)) ?_ (X.ok.e.off hp) nb upd_same dv
    cases z : H p with
    | none => rfl
    | some o =>
      have z2 := X.hh p o nb z
      rw [hp] at z2
      cases z2⟩
theorem Ext.old {G2 H2 : Hp} {p : Addr} (X : Ext K B G H G2 H2) (nb : ¬ isB B p) (hp : H2 p = none) : H p = none := by
  cases z : H p with
  | none => rfl
  | some o =>
    have z2 := X.hh p o nb z
    rw [hp] at z2
    cases z2
/-! ### comprehensions -/
theorem range_one (j : Nat) (f : Int → Option PyData) : (List.range (j + 1)).filterMap (fun i : Nat => f (i : Int)) = (List.range j).filterMap (fun i : Nat => f (i : Int)) ++ (f (j : Int)).toList := by
  rw [List.range_succ, List.filterMap_append]
  cases h : f (j : Int) <;> simp [List.filterMap_cons, h]
theorem lc_turn {G1 H1 : Hp} {D : Addr} {xs : List V} {es : List PyData} {o : Option PyData} {σ2 : L2.St} {H3 G3 : Hp} {Nx : Hp → Prop} (hD : H1 D = none) (nb : ¬ isB B D)
    (X : Ext K B G1 H1 G3 H3) (hg : G3 D = none) (h3 : H3 D = some (.lst xs)) (hx : DpAll K G3 xs es) (hl : es.length < 100000)
    (ht : EvB K B tt σ2 G3 o.isSome) (he : ∀ d, o = some d → EvD K B te σ2 G3 d)
    (k : ∀ G4 H4 ys, Ext K B G1 H1 G4 H4 → G4 D = none → H4 D = some (.lst ys) → DpAll K G4 ys (es ++ o.toList) → Nx H4) :
    tt σ2 H3 fun b H3 => if b = true then te σ2 H3 fun y H4 => ∃ acc, H4 D = some (.lst acc) ∧ acc.length < sizeLine ∧ Nx (upd H4 D (.lst (acc ++ [y]))) else Nx H3 :=
  ht H3 X.ok _ fun G4 H4 X4 => by
    have g4 := X4.fr D _ h3 hg
    have h4 := X4.hh D _ nb h3
    have a4 := dpAll_mono X4.gg hx
    cases o with
    | none =>
      show (if false = true then _ else _)
      rw [ifF]
      refine k G4 H4 xs (X.trans X4) g4 h4 ?_
      rw [Option.toList_none, List.append_nil]
      exact a4
    | some d =>
      refine (show (if true = true then _ else _) from ?_)
      rw [if_pos rfl]
      refine (he d rfl).mono X4.gg X.ok.c H4 X4.ok _ fun y G5 H5 X5 dy => ?_
      have h5 := X5.hh D _ nb h4
      have g5 := X5.fr D _ h4 g4
      refine ⟨xs, h5, by rw [dpAll_len hx]; exact szl hl, ?_⟩
      have Y := X.trans (X4.trans X5)
      refine k G5 _ (xs ++ [y]) ⟨Y.gg, fun a u n q => ?_, Y.fr, Y.ok.mut g5 nb⟩ g5 upd_same (dpAll_app (dpAll_mono X5.gg a4) (.cons dy .nil))
      rw [upd_ne (ne_of_none q hD)]
      exact Y.hh a u n q
/-- [e for x in range(n) if t] -/
theorem ef_lcR {i : Nat} {n : Nat} {f : Int → Option PyData} (ha : EvA K B tr σ G [.int (n : Int)]) (hn : n ≤ 100000)
    (ht : ∀ j : Nat, j < n → EvB K B tt ((σ.set i none).set i (some (.int (j : Int)))) G (f j).isSome)
    (he : ∀ (j : Nat) d, j < n → f j = some d → EvD K B te ((σ.set i none).set i (some (.int (j : Int)))) G d) :
    EvF K B (tLc (iRng1 tr) (gName i) tt te [i]) σ G ((List.range n).filterMap fun j : Nat => f (j : Int)) := fun H e Q q =>
  ha H e _ fun vs G1 H1 X dv => by
    have ev : vs = [.int (n : Int)] := by
      cases dv with
      | cons h a =>
        cases a
        rw [dp_int h]
    refine ⟨(n : Int), ev, by omega, by omega, fun D hD => ?_⟩
    have nb := X.ok.b.ne hD
    show ∃ W, _
    refine lc_range (lo := 0) (n := (n : Int).toNat) (Qd := fun H => Q (.ref D) H) (fun j H' => ∃ G' xs, Ext K B G1 H1 G' H' ∧ G' D = none ∧ H' D = some (.lst xs) ∧ DpAll K G' xs ((List.range j).filterMap fun j : Nat => f (j : Int)))
      ⟨G1, [], Ext.loose X.ok hD, X.ok.e.off hD, upd_same, .nil⟩ ?_ ?_
    · rintro j H' hj ⟨G', xs, X', g', h', a'⟩
      have hj' : j < n := by omega
      have ez : (0 : Int) + (j : Int) = (j : Int) := by omega
      refine ⟨?_, ?_⟩
      · show (((σ.set i none).set i (some (.int (0 + (j : Int))))).set i none) = σ.set i none
        rw [List.set_set, List.set_set]
      · rw [ez]
        have hlen : ((List.range j).filterMap fun j : Nat => f (j : Int)).length < 100000 := by
          have z := List.length_filterMap_le (fun j : Nat => f (j : Int)) (List.range j)
          rw [List.length_range] at z
          omega
        refine lc_turn (o := f j) hD nb X' g' h' a' hlen ((ht j hj').mono (X.gg.trans X'.gg) e.c) (fun d ed => (he j d hj' ed).mono (X.gg.trans X'.gg) e.c) fun G4 H4 ys X4 g4 h4 a4 => ⟨G4, ys, X4, g4, h4, ?_⟩
        rw [range_one]
        exact a4
    · rintro H' ⟨G', xs, X', g', h', a'⟩
      have z : (n : Int).toNat = n := Int.toNat_natCast n
      rw [z] at a'
      exact q D xs G' H' (X.trans X') (X.old nb hD) g' nb h' a'
theorem take_filterMap {ds : List PyData} {f : PyData → Option PyData} {j : Nat} {d : PyData} (h : ds[j]? = some d) : (ds.take (j + 1)).filterMap f = (ds.take j).filterMap f ++ (f d).toList := by
  rw [List.take_add_one, h, List.filterMap_append]
  cases q : f d <;> simp [q]
/-- [e for x in xs if t], xs a list -/
theorem ef_lcL {i : Nat} {f : PyData → Option PyData} (ha : EvD K B ta σ G (.list ds)) (hn : ds.length ≤ 100000)
    (ht : ∀ d v G', d ∈ ds → Ex G G' → Cel K B G' → Dp K G' v d → EvB K B tt ((σ.set i none).set i (some v)) G' (f d).isSome)
    (he : ∀ d v y G', d ∈ ds → Ex G G' → Cel K B G' → Dp K G' v d → f d = some y → EvD K B te ((σ.set i none).set i (some v)) G' y) :
    EvF K B (tLc (iList K ta) (gName i) tt te [i]) σ G (ds.filterMap f) := fun H e Q q =>
  ha H e _ fun v G1 H1 X dv => by
    obtain ⟨a, xs, rfl, hs, hx⟩ := dp_lst dv
    refine ⟨a, rfl, ⟨xs, ex_l X.ok.e hs⟩, fun D hD => ?_⟩
    have nb := X.ok.b.ne hD
    show ∃ W, _
    refine lc_list (K := K) (a := a) (xs := xs) (Qd := fun H => Q (.ref D) H) (fun j H' => ∃ G' ys, Ext K B G1 H1 G' H' ∧ G' D = none ∧ H' D = some (.lst ys) ∧ DpAll K G' ys ((ds.take j).filterMap f))
      ⟨G1, [], Ext.loose X.ok hD, X.ok.e.off hD, upd_same, .nil⟩ ?_ ?_ ?_
    · rintro j H' _ ⟨G', ys, X', _⟩
      exact ex_l (X'.gg.trans X'.ok.e) hs
    · rintro j x H' hj ⟨G', ys, X', g', h', a'⟩
      obtain ⟨d, hd, dx⟩ := dpAll_at hx hj
      have md : d ∈ ds := List.mem_of_getElem? hd
      have jl : j < ds.length := (List.getElem?_eq_some_iff.mp hd).1
      refine ⟨?_, ?_⟩
      · show (((σ.set i none).set i (some x)).set i none) = σ.set i none
        rw [List.set_set, List.set_set]
      · have hlen : ((ds.take j).filterMap f).length < 100000 := by
          have z := List.length_filterMap_le f (ds.take j)
          rw [List.length_take] at z
          omega
        have c' := (e.c.mono X.gg).mono X'.gg
        refine lc_turn (o := f d) hD nb X' g' h' a' hlen (ht d x G' md (X.gg.trans X'.gg) c' (dp_mono X'.gg dx)) (fun y ey => he d x y G' md (X.gg.trans X'.gg) c' (dp_mono X'.gg dx) ey) fun G4 H4 ys X4 g4 h4 a4 => ⟨G4, ys, X4, g4, h4, ?_⟩
        rw [take_filterMap hd]
        exact a4
    · rintro H' ⟨G', ys, X', g', h', a'⟩
      rw [dpAll_len hx, List.take_length] at a'
      exact q D ys G' H' (X.trans X') (X.old nb hD) g' nb h' a'
theorem eb_yes : EvB K B tYes σ G true := fun H e Q q => q G H (Ext.refl e)
/-- all(xs), a list of truths -/
theorem dpAll_bls : ∀ {vs : List V} {bs : List Bool}, DpAll K H vs (bs.map PyData.bool) → vs = bs.map V.bl
  | _, [], .nil => rfl
  | _, b :: bs, .cons h a => by rw [dp_bl h, dpAll_bls a]; rfl
theorem dpAll_intsV : ∀ {vs : List V} {bs : List Int}, DpAll K H vs (bs.map PyData.int) → vs = bs.map V.int
  | _, [], .nil => rfl
  | _, b :: bs, .cons h a => by rw [dp_int h, dpAll_intsV a]; rfl
theorem ed_all {bs : List Bool} (h : EvD K B ta σ G (.list (bs.map PyData.bool))) : EvD K B (tCB (rAll K) (tCons ta tNil)) σ G (.bool (bs.all id)) := fun H e Q q =>
  h H e _ fun v G2 H2 X dv => by
    obtain ⟨a, xs, rfl, hs, hx⟩ := dp_lst dv
    rw [dpAll_bls hx] at hs
    exact ⟨a, bs, rfl, ex_l X.ok.e hs, q _ G2 H2 X (.bl _)⟩
theorem ed_listOf {ds : List PyData} (h : EvD K B ta σ G (.list ds)) : EvF K B (tCB (rListS K) (tCons ta tNil)) σ G ds := fun H e Q q =>
  h H e _ fun v G2 H2 X dv => by
    obtain ⟨a, xs, rfl, hs, hx⟩ := dp_lst dv
    refine ⟨a, xs, rfl, .inl (ex_l X.ok.e hs), fun l hl => ?_⟩
    have nb := X.ok.b.ne hl
    exact q l xs G2 _ (X.trans (Ext.loose X.ok hl)) (X.old nb hl) (X.ok.e.off hl) nb upd_same hx
theorem ed_listOfT {ds : List PyData} (h : EvD K B ta σ G (.tuple ds)) : EvF K B (tCB (rListS K) (tCons ta tNil)) σ G ds := fun H e Q q =>
  h H e _ fun v G2 H2 X dv => by
    obtain ⟨a, xs, rfl, hs, hx⟩ := dp_tup dv
    refine ⟨a, xs, rfl, .inr (ex_t X.ok.e hs), fun l hl => ?_⟩
    have nb := X.ok.b.ne hl
    exact q l xs G2 _ (X.trans (Ext.loose X.ok hl)) (X.old nb hl) (X.ok.e.off hl) nb upd_same hx
/-! ### a value that is not told but by what holds of it -/
def RetS (K : Fg) (B : Bg) (G H : Hp) (Q : VK) (S : PyData → Prop) : Prop := ∀ d v G2 H2, S d → Ext K B G H G2 H2 → Dp K G2 v d → Q v H2
def EvS (K : Fg) (B : Bg) (te : TE) (σ : L2.St) (G : Hp) (S : PyData → Prop) : Prop := ∀ H, Ok K B G H → ∀ Q : VK, RetS K B G H Q S → te σ H Q
theorem EvD.toS {S : PyData → Prop} (h : EvD K B te σ G d) (hs : S d) : EvS K B te σ G S := fun H e Q q => h H e Q fun v G2 H2 X dv => q d v G2 H2 hs X dv
theorem EvS.mono {S : PyData → Prop} (e : Ex G G') (c : Cel K B G) (h : EvS K B te σ G S) : EvS K B te σ G' S := fun H eH Q q =>
  h H (eH.less e c) Q fun d v G2 H2 hs X dv => by
    obtain ⟨X2, e2⟩ := X.wide e eH
    exact q d v _ H2 hs X2 (dp_mono e2 dv)
theorem es_op {S1 S2 S : PyData → Prop} (ha : EvS K B ta σ G S1) (hb : EvS K B tb σ G S2) (hr : ∀ x y, S1 x → S2 y → ∃ z, S z ∧ RvD K B r G x y z) : EvS K B (tOp r ta tb) σ G S := fun H e Q q =>
  ha H e _ fun x u G2 H2 s1 X2 d2 => hb.mono X2.gg e.c H2 X2.ok _ fun y v G3 H3 s2 X3 d3 => by
    obtain ⟨z, sz, hr'⟩ := hr x y s1 s2
    exact hr' u v G3 H3 (X2.gg.trans X3.gg) X3.ok (dp_mono X3.gg d2) d3 Q fun w G4 H4 X4 d4 => q z w G4 H4 sz (X2.trans (X3.trans X4)) d4
def EvAS (K : Fg) (B : Bg) (ta : TA) (σ : L2.St) (G : Hp) (S : List PyData → Prop) : Prop := ∀ H, Ok K B G H → ∀ Q : List V → Hp → Prop, (∀ ds vs G2 H2, S ds → Ext K B G H G2 H2 → DpAll K G2 vs ds → Q vs H2) → ta σ H Q
theorem EvAS.mono {S : List PyData → Prop} (e : Ex G G') (c : Cel K B G) (h : EvAS K B tr σ G S) : EvAS K B tr σ G' S := fun H eH Q q =>
  h H (eH.less e c) Q fun d v G2 H2 hs X dv => by
    obtain ⟨X2, e2⟩ := X.wide e eH
    exact q d v _ H2 hs X2 (dpAll_mono e2 dv)
theorem eas_nil {S : List PyData → Prop} (h : S []) : EvAS K B tNil σ G S := fun H e Q q => q [] [] G H h (Ext.refl e) .nil
theorem eas_cons {S1 : PyData → Prop} {S : List PyData → Prop} (ha : EvS K B ta σ G S1) (hr : ∀ d, S1 d → EvAS K B tr σ G (fun ds => S (d :: ds))) : EvAS K B (tCons ta tr) σ G S := fun H e Q q =>
  ha H e _ fun d v G2 H2 s1 X dv => (hr d s1).mono X.gg e.c H2 X.ok _ fun ds vs G3 H3 s2 X3 dvs => q (d :: ds) (v :: vs) G3 H3 s2 (X.trans X3) (.cons (dp_mono X3.gg dv) dvs)
theorem es_lst {S : List PyData → Prop} (h : EvAS K B tr σ G S) (hl : ∀ ds, S ds → ds.length ≤ 100000) : EvS K B (tLst tr) σ G (fun d => ∃ ds, d = .list ds ∧ S ds) := fun H e Q q =>
  h H e _ fun ds vs G2 H2 s X dv => ⟨by rw [dpAll_len dv]; exact sz (hl ds s), fun p hp =>
    q _ _ _ _ ⟨ds, rfl, s⟩ (X.trans (Ext.new X.ok hp)) (.lst (SqL.of upd_same) (dpAll_mono (Ex.new (X.ok.e.off hp)) dv))⟩
variable {D : Ends} {t u : TS}
theorem sq_setS {i : Nat} {S : PyData → Prop} (h : EvS K B te σ G S) (e : Ok K B G H) (k : ∀ d v G2 H2, S d → Ext K B G H G2 H2 → Dp K G2 v d → u D (σ.set i (some v)) H2) : tSeq (tAsg te (gName i)) u D σ H := h H e _ fun d v G2 H2 s X dv => k d v G2 H2 s X dv
/-- a, b = e -/
theorem sq_unpack {n : Nat} {g : TGs} (h : EvD K B te σ G (.tuple ds)) (e : Ok K B G H) (hl : ds.length = n) (k : ∀ vs G2 H2, Ext K B G H G2 H2 → DpAll K G2 vs ds → g vs σ H2 (u D)) : tSeq (tAsg te (gTup K n g)) u D σ H :=
  h H e _ fun v G2 H2 X dv => by
    obtain ⟨a, xs, rfl, hs, hx⟩ := dp_tup dv
    exact ⟨a, xs, rfl, ex_t X.ok.e hs, (dpAll_len hx).trans hl, k xs G2 H2 X hx⟩
end
end Lw

namespace Lw
open PySem.Spec PySem L2 PyProof.Rows
open Evl (Ex Ex.refl Ex.trans Ex.new Ex.off ex_rd ex_l ex_t)
theorem pss_ex {X : Cx} {st : List Stmt} {α : Type} {t : α → TS} {p : α → Prop} (h : ∀ a, p a → PSs X st (t a)) : PSs X st (fun D σ H => ∃ a, p a ∧ t a D σ H) := ⟨fun pins s σ H D I ⟨a, hp, hw⟩ => (h a hp).run pins s σ H D I hw⟩
section
variable {K : Fg} {B : Bg} {σ : L2.St} {G G' H : Hp} {te ta tb tc : TE} {tt tu : TT} {tr : TA} {d x y z : PyData} {ds es : List PyData} {r r' : R2} {b c : Bool} {D : Ends} {t u : TS}
/-- the ends of a loop's turn -/
def lpE (D : Ends) (u : TS) (N : L2.St → Hp → Prop) : Ends := { D with nx := N, ct := N, bk := u D }
/-- for x in xs, a list -/
theorem sq_forL {i : Nat} {Pv : Nat → L2.St → Hp → Hp → Prop} (h : EvD K B te σ G (.list ds)) (e : Ok K B G H) (h0 : ∀ G2 H2, Ext K B G H G2 H2 → Pv 0 σ G2 H2)
    (hs : ∀ G1 H1, Ext K B G H G1 H1 → ∀ (j : Nat) d v σ' G' H', ds[j]? = some d → Ext K B G1 H1 G' H' → Pv j σ' G' H' → Dp K G' v d →
      t (lpE D u fun σ2 H2 => ∃ G2, Ext K B G1 H1 G2 H2 ∧ Pv (j + 1) σ2 G2 H2) (σ'.set i (some v)) H')
    (hd : ∀ σ' G' H', Ext K B G H G' H' → Pv ds.length σ' G' H' → u D σ' H') : tSeq (tFor (iList K te) (gName i) t) u D σ H :=
  h H e _ fun v G1 H1 X dv => by
    obtain ⟨a, xs, rfl, hl, hx⟩ := dp_lst dv
    refine ⟨a, rfl, ⟨xs, ex_l X.ok.e hl⟩, for_list (K := K) (a := a) (xs := xs) (fun j σ' H' => ∃ G', Ext K B G1 H1 G' H' ∧ Pv j σ' G' H') ⟨G1, Ext.refl X.ok, h0 G1 H1 X⟩ ?_ ?_ ?_⟩
    · rintro j σ' H' _ ⟨G', X', _⟩
      exact ex_l (X'.gg.trans X'.ok.e) hl
    · rintro j y σ' H' hj ⟨G', X', p⟩
      obtain ⟨d, hd', dy⟩ := dpAll_at hx hj
      exact hs G1 H1 X j d y σ' G' H' hd' X' p (dp_mono X'.gg dy)
    · rintro σ' H' ⟨G', X', p⟩
      rw [dpAll_len hx] at p
      exact hd σ' G' H' (X.trans X') p
/-- for x in range(n) -/
theorem sq_forR {i n : Nat} {Pv : Nat → L2.St → Hp → Hp → Prop} (h : EvA K B tr σ G [.int (n : Int)]) (hn : n ≤ 100000) (e : Ok K B G H) (h0 : ∀ G2 H2, Ext K B G H G2 H2 → Pv 0 σ G2 H2)
    (hs : ∀ G1 H1, Ext K B G H G1 H1 → ∀ (j : Nat) σ' G' H', j < n → Ext K B G1 H1 G' H' → Pv j σ' G' H' →
      t (lpE D u fun σ2 H2 => ∃ G2, Ext K B G1 H1 G2 H2 ∧ Pv (j + 1) σ2 G2 H2) (σ'.set i (some (.int (j : Int)))) H')
    (hd : ∀ σ' G' H', Ext K B G H G' H' → Pv n σ' G' H' → u D σ' H') : tSeq (tFor (iRng1 tr) (gName i) t) u D σ H :=
  h H e _ fun vs G1 H1 X dv => by
    have ev : vs = [.int (n : Int)] := dpAll_intsV (bs := [(n : Int)]) dv
    refine ⟨(n : Int), ev, by omega, by omega, for_range (lo := 0) (n := (n : Int).toNat) (fun j σ' H' => ∃ G', Ext K B G1 H1 G' H' ∧ Pv j σ' G' H') ⟨G1, Ext.refl X.ok, h0 G1 H1 X⟩ ?_ ?_⟩
    · rintro j σ' H' hj ⟨G', X', p⟩
      have ez : (0 : Int) + (j : Int) = (j : Int) := by omega
      have z := hs G1 H1 X j σ' G' H' (by omega) X' p
      rw [← ez] at z
      exact z
    · rintro σ' H' ⟨G', X', p⟩
      rw [Int.toNat_natCast] at p
      exact hd σ' G' H' (X.trans X') p
theorem eas_of {S : List PyData → Prop} (h : EvA K B tr σ G ds) (hs : S ds) : EvAS K B tr σ G S := fun H e Q q => h H e Q fun vs G2 H2 X dv => q ds vs G2 H2 hs X dv
theorem lg {u : Int} (h0 : 0 < u) (h : u < 2 ^ 250) : u.natAbs.log2 < 9000 := Nat.lt_of_lt_of_le (PySem.Flt.log2_lt_of (k := 250) (by decide) (by omega)) (by decide)
theorem ed_isF (h : EvF K B te σ G ds) (e : ds = es) : EvF K B te σ G es := e ▸ h
theorem sq_ifN {w : TS} (h : EvB K B tt σ G b) (e : Ok K B G H) (k1 : b = true → ∀ G2 H2, Ext K B G H G2 H2 → t { D with nx := w D } σ H2) (k2 : b = false → ∀ G2 H2, Ext K B G H G2 H2 → w D σ H2) : tSeq (tIfS tt t tNext) w D σ H := st_if h e k1 k2
theorem st_ifD {b : Bool} (h : EvB K B tt σ G b) (e : Ok K B G H) (k : b = true → ∀ G2 H2, Ext K B G H G2 H2 → t D σ H2) (k2 : b = false → ∀ G2 H2, Ext K B G H G2 H2 → D.nx σ H2) : tIfS tt t tNext D σ H := st_if h e k k2
/-- a list of the same item, [x] * n -/
theorem rd_rep {n : Nat} (hl : ds.length * n ≤ 100000) (hn : n ≤ 100000) : ∀ {te : TE} {tb : TE}, EvF K B te σ G ds → EvD K B tb σ G (.int (n : Int)) → EvF K B (tOp rRep te tb) σ G (List.replicate n ds).flatten := fun {te tb} ha hb H e Q q =>
  ha H e _ fun p xs G2 H2 X hp hg nb h2 a => hb.mono X.gg e.c H2 X.ok _ fun v G3 H3 X3 d3 => by
    have h3 := X3.hh p _ nb h2
    refine ⟨p, (n : Int), xs, rfl, dp_int d3, h3, by omega, by omega, ?_, fun l hl2 => ?_⟩
    · rw [dpAll_len a, Int.toNat_natCast]
      exact sz hl
    · have Y := X.trans X3
      have nb2 := Y.ok.b.ne hl2
      refine q l _ G3 _ (Y.trans (Ext.loose Y.ok hl2)) (Y.old nb2 hl2) (Y.ok.e.off hl2) nb2 upd_same ?_
      rw [Int.toNat_natCast]
      have key : ∀ n : Nat, DpAll K G3 (List.replicate n xs).flatten (List.replicate n ds).flatten := fun n => by
        induction n with
        | zero => exact .nil
        | succ n ih =>
          simp only [List.replicate_succ, List.flatten_cons]
          exact dpAll_app (dpAll_mono X3.gg a) ih
      exact key n
end
end Lw

namespace Lw
open PySem.Spec PySem L2 PyProof.Rows
open Evl (Ex Ex.refl Ex.trans Ex.new Ex.off ex_rd ex_l ex_t)
section
variable {s : Shared} {prog : Program} {w : World} {A : Around} {E : Value → Shared → Prop}
/-! ### sorted of tuples of ints, of any length, any number of them -/
theorem kat_lexL {b : Bool} {Q : Bool → Shared → Prop} : ∀ {xs ys : List Value} {ns ms : List Int} (i : Nat), IntsAre xs ns → IntsAre ys ms → Q (HT.lexLt ns ms) s →
    PySem.W.KatLex prog w A b (decide (ns.length < ms.length)) Q (xs.zip ys) i s
  | _, _, _, _, _, .nil, .nil, h => PySem.W.kat_nil h
  | _, _, _, _, _, .nil, .cons (ns := ms) _ _ _, h => PySem.W.kat_nil (by
    rw [show decide (([] : List Int).length < (_ :: ms).length) = true from decide_eq_true (Nat.succ_pos _)]
    exact h)
  | _, _, _, _, _, .cons (ns := ns) _ _ _, .nil, h => PySem.W.kat_nil (by
    rw [show decide ((_ :: ns).length < ([] : List Int).length) = false from decide_eq_false (Nat.not_lt_zero _)]
    exact h)
  | _, _, _, _, i, .cons (ns := ns) p t hx, .cons (ns := ms) q u hy, h => by
    have e0 : decide ((p :: ns).length < (q :: ms).length) = decide (ns.length < ms.length) := decide_eq_decide.mpr ⟨Nat.lt_of_succ_lt_succ, Nat.succ_lt_succ⟩
    rw [e0]
    rw [HT.lexLt_cons] at h
    refine PySem.W.kat_cons ?_
    refine wpAny_eqBool_int ?_
    by_cases c : p = q
    · rw [if_pos c] at h
      rw [show (p == q) = true from beq_iff_eq.mpr c]
      exact PySem.W.kat_yes (kat_lexL (i + 1) hx hy h)
    · rw [if_neg c] at h
      rw [show (p == q) = false from beq_eq_false_iff_ne.mpr c]
      exact PySem.W.kat_no (TS.oneLt_ints _ h)
theorem kat_first {h : Heap} {k : Value → List Int} : ∀ {vs : List Value}, (∀ v ∈ vs, TS.TupInts h v (k v) ∧ k v ≠ []) → ∃ fs, PySem.W.KatTups h vs fs ∧ fs.length = vs.length ∧ ∀ f ∈ fs, ∃ n t, f = Value.int n t
  | [], _ => ⟨[], .nil, rfl, fun _ hm => by cases hm⟩
  | v :: vs, hp => by
    obtain ⟨fs, h1, h2, h3⟩ := kat_first (vs := vs) fun u hu => hp u (List.mem_cons_of_mem _ hu)
    obtain ⟨⟨a, xs, e, ⟨o, ho, hc, n, hd⟩, hi⟩, hn⟩ := hp v List.mem_cons_self
    generalize k v = ns at hi hn
    subst e
    cases q : xs.toList with
    | nil =>
      rw [q] at hi
      cases hi
      exact absurd rfl hn
    | cons y ys =>
      rw [q] at hi
      cases hi with
      | cons m t hr =>
        refine ⟨.int m t :: fs, .cons ho hc hd ?_ h1, congrArg Nat.succ h2, fun f hf => ?_⟩
        · rw [← Array.getElem?_toList, q]
          rfl
        · cases hf with
          | head => exact ⟨m, t, rfl⟩
          | tail _ hf => exact h3 f hf
theorem sortable_lexL {a : Addr} {vs : List Value} {k : Value → List Int} (h0 : 0 < vs.length) (hp : ∀ v ∈ vs, TS.TupInts s.heap v (k v) ∧ k v ≠ []) (ha : ∀ o, s.heap.get? a = some o → o.cls ≠ .type "tuple") :
    SrtO.SortableO prog w A s a vs fun v u => HT.lexLt (k v) (k u) := fun h' keep => by
  have hp' : ∀ v ∈ vs, TS.TupInts h' v (k v) ∧ k v ≠ [] := fun v hv => ⟨(hp v hv).1.keeps fun b o e c => keep b o (fun z => ha o (by rw [← z]; exact e) c) e, (hp v hv).2⟩
  obtain ⟨fs, h1, h2, h3⟩ := kat_first hp'
  refine ⟨tuples' true, fun Q E hq => PySem.W.kat_kind (T := .type "int") h1 (by omega) (fun f hf => ?_) rfl hq, fun p q hm hm' => ?_⟩
  · exact (h3 f hf).elim fun n z => z.elim fun t e => e ▸ PySem.W.Looks.of_pure rfl
  · obtain ⟨b, xs, e1, ⟨o, ho, hc, n, hd⟩, i1⟩ := (hp' _ hm).1
    obtain ⟨b', ys, e2, ⟨o', ho', hc', n', hd'⟩, i2⟩ := (hp' _ hm').1
    show wpAny _ _ (keyLt' (tuples' true) p.1 q.1) (fun r s' => s' = _ ∧ r = HT.lexLt (k p.1) (k q.1)) _ _
    rw [e1, e2] at *
    have l1 := (Array.length_toList (xs := xs)).symm.trans i1.length
    have l2 := (Array.length_toList (xs := ys)).symm.trans i2.length
    exact PySem.W.kat_lt ho hd ho' hd' (by rw [l1, l2]; exact kat_lexL 0 i1 i2 ⟨rfl, rfl⟩)
end
/-- sorted(xs), xs a list of tuples of ints (ks: where each stands, and its ints): a new list of them, rising -/
def rSortedL (K : Fg) : List V → Hp → VK → Prop := fun vs H Q => ∃ (a : Addr) (ks : List (Addr × List Int)), vs = [V.ref a] ∧ SqL K H a (ks.map fun p => V.ref p.1) ∧ (∀ p ∈ ks, SqT K H p.1 (p.2.map V.int) ∧ p.2 ≠ []) ∧
  ∀ (L : List (Addr × List Int)) (p : Addr), L.Perm ks → L.Pairwise (fun x y => HT.lexLt y.2 x.2 = false) → H p = none → Q (.ref p) (upd H p (.lst (L.map fun q => V.ref q.1)))
def adrV : Value → Addr
  | .ref a => a
  | _ => 0
theorem refs_vals : ∀ {ks : List (Addr × List Int)} {us : List Value}, Vals (ks.map fun p => V.ref p.1) us → us = ks.map fun p => Value.ref p.1
  | [], _, .nil => rfl
  | p :: ks, _, .cons r t => by
    obtain rfl := (show _ = Value.ref p.1 from r)
    rw [refs_vals t]
    rfl
theorem vals_refs : ∀ ks : List (Addr × List Int), Vals (ks.map fun p => V.ref p.1) (ks.map fun p => Value.ref p.1)
  | [] => .nil
  | p :: ks => .cons (show RelV (.ref p.1) (.ref p.1) from rfl) (vals_refs ks)
theorem cr_sortedL {X : Cx} : CallR X (.builtin "sorted") (rSortedL X.K) := by
  rintro pins s σ H _ us Q I r ⟨a, ks, rfl, hs, hx, q⟩
  rcases I.list hs with ⟨its, rv, hl, hz⟩
  rw [Vals.ref1 r]
  have ei := refs_vals rv
  have hT : ∀ p ∈ ks, TS.TupInts s.heap (.ref p.1) p.2 := fun p hp => by
    obtain ⟨ys, ry, ht, _⟩ := I.tuple (hx p hp).1
    exact ⟨p.1, ys.toArray, rfl, ht, ry.ints⟩
  have hk : ∀ p ∈ ks, TS.intsOf s.heap (.ref p.1) = p.2 := fun p hp => (hT p hp).ints
  refine SrtO.sorted_ord (NtL.swo_lexL (TS.intsOf s.heap)) hl.isList (by rw [← rv.length]; exact hz) (fun h2 h₁ a' ha kk => ?_) fun out h1 h2 => ?_
  · refine sortable_lexL (s := { s with heap := h₁ }) (by omega) (fun v hv => ?_) fun o e c => ?_
    · rw [ei] at hv
      obtain ⟨p, hp, rfl⟩ := List.mem_map.mp hv
      rw [hk p hp]
      exact ⟨(hT p hp).keeps fun b o e _ => (kk b o e).2, (hx p hp).2⟩
    · have e' : some o = some (seqObj "list" its.toArray 0) := e.symm.trans ha
      cases e'
      exact (by decide : ("list" : String) ≠ "tuple") (Value.type.inj c)
  · obtain ⟨ep, he⟩ := PyProof.Rows.sortedAll_at s.heap its out.toArray
    have pm : (out.map fun v => (adrV v, TS.intsOf s.heap v)).Perm ks := by
      have z := h2.perm.map fun v => (adrV v, TS.intsOf s.heap v)
      rw [ei, List.map_map] at z
      have e0 : ks.map ((fun v => (adrV v, TS.intsOf s.heap v)) ∘ fun p => Value.ref p.1) = ks := by
        refine (List.map_congr_left fun p hp => ?_).trans (List.map_id ks)
        show (p.1, TS.intsOf s.heap (.ref p.1)) = p
        rw [hk p hp]
      rw [e0] at z
      exact z
    have eo : (out.map fun v => (adrV v, TS.intsOf s.heap v)).map (fun p => Value.ref p.1) = out := by
      rw [List.map_map]
      refine (List.map_congr_left fun v hv => ?_).trans (List.map_id out)
      have hv' := h2.perm.mem_iff.mp hv
      rw [ei] at hv'
      obtain ⟨p, _, rfl⟩ := List.mem_map.mp hv'
      rfl
    have pw : (out.map fun v => (adrV v, TS.intsOf s.heap v)).Pairwise fun x y => HT.lexLt y.2 x.2 = false := List.pairwise_map.mpr h1
    generalize (out.map fun v => (adrV v, TS.intsOf s.heap v)) = L at pm eo pw
    have rl := vals_refs L
    rw [eo] at rl
    have hlen : (L.map fun p => V.ref p.1).length ≤ sizeLine := by
      rw [List.length_map, pm.length_eq]
      rw [List.length_map] at hz
      exact hz
    exact ⟨.ref _, upd H (s.heap.objs.size + 1) (.lst (L.map fun p => V.ref p.1)), I.laid (t' := s.toks) (fun _ _ => PyProof.Rows.sortedAll_old) (Nat.le_succ _) ⟨hlen, out, ep, rl, he⟩, rfl, q L _ pm pw (I.hok.fresh (Nat.le_succ _))⟩
end Lw

namespace Lw
open PySem.Spec PySem L2 PyProof.Rows
open Evl (Ex Ex.refl Ex.trans Ex.new Ex.off ex_rd ex_l ex_t)
/-- an empty set, as it is made -/
abbrev fsO (w : World) : Obj := { cls := .type "set", dict := none, data := .set #[] 0 (.fresh 0 0 (!w.params.followText "set-order")) }
section
variable {s : Shared} {P : Program} {w : World} {A : Around} {E : Value → Shared → Prop}
/-- set(xs), a list of ints -/
theorem set_of_list {l : Addr} {its : Array Value} (ns : List Int) {Q : Value → Shared → Prop} (hh : A.handled = none) (hl : s.heap.IsList l its) (hi : IntsAre its.toList ns) (hb : ns.length + 1 < scanBound)
    (k : ∀ (h' : Heap) (tk c : Nat), SetR w h' s.heap.objs.size (fun j => decide (j ∈ ns)) c → c ≤ ns.length → (∀ b o, s.heap.get? b = some o → h'.get? b = some o) → Q (.ref s.heap.objs.size) { s with heap := h', toks := tk }) : wpAny (model P w) A (call (.type "set") [.ref l]) Q E s := by
  have sz : its.size = ns.length := (Array.length_toList (xs := its)).symm.trans hi.length
  obtain ⟨mc, ml, mro⟩ := F.called_set.mro
  have made := F.called_set.made
  have sub := F.called_set.sub
  have nT := F.called_set.notType
  have cC := F.called_set.canCreate
  have tc := F.typeCall_set_1 (.ref l)
  refine wpAny_call (codeAny_of_tree (show wpAny _ _ (callAny (.type "set") _) _ _ _ from wpAny_pure ⟨Code.quiet_builtin _ (by decide +kernel), codeAny_builtin F.entry_type_call ?_⟩))
  have light := weight_type_call_type "set" [.ref l] []
  rw [Around.under_plain light rfl]
  repeat any_goals first | assumption | wp_step
  refine codeAny_mono (code_set_led1 (.ref l) (E := E) (Q₁ := fun v s₁ => v = .ref s.heap.objs.size ∧ s₁ = { s with heap := s.heap.push (fsO w) }) ⟨rfl, rfl⟩) fun r s₁ hr => ?_
  cases r with
  | error e => exact hr
  | ok fl =>
    cases fl with
    | ret v =>
      obtain ⟨rfl, rfl⟩ := hr
      have at0 : (s.heap.push (fsO w)).get? s.heap.objs.size = some (fsO w) := Heap.get?_push_size _ rfl
      have ty0 : Shared.TypeIs { s with heap := s.heap.push (fsO w) } (.ref s.heap.objs.size) "set" := ⟨_, at0, rfl⟩
      have li := F.called_set.init.lookup
      have bi := F.called_set.init.bind (.ref s.heap.objs.size)
      repeat any_goals first | assumption | wp_step
      refine codeAny_mono (codeAny_call_builtin (R := wants (fun r s₂ => r = .none ∧ ∃ h' tk c, s₂ = { s with heap := h', toks := tk } ∧ SetR w h' s.heap.objs.size (fun j => decide (j ∈ ns)) c ∧ c ≤ ns.length ∧ ∀ b o, s.heap.get? b = some o → h'.get? b = some o) E)
        F.called_set.init.plain F.entry_set_init (check_set_init_1 ty0 ?_)) fun r₂ s₂ hr₂ => ?_
      · obtain ⟨⟨oc, od, ot, os⟩, ho, rfl, n, rfl⟩ := hl
        have ho1 : (s.heap.push (fsO w)).get? l = some ⟨.type "list", od, .seq its n, os⟩ := Heap.get?_push_of_some _ ho
        have l1 : (s.heap.push (fsO w)).IsList l its := ⟨_, ho1, rfl, n, rfl⟩
        have ls := F.sub_list_set
        have lf := F.sub_list_frozenset
        have nd : (Value.type "list" == Value.type "dict") = false := by decide
        have lt : l < s.heap.objs.size := Heap.lt_size ho
        have z1 : (s.heap.push (fsO w)).objs.size = s.heap.objs.size + 1 := Heap.size_push ..
        have h3 : A.in1.in1.in1.handled = none := by simp [hh]
        unfold Builtin.«set.__init__»
        unfold noKeywords Builtin.Frozenset.updateFrom
        generalize eI : pyIter = PI
        wp_walk
        subst eI
        refine wpAny_pyIter_list l1 (wpAny_bind (wpAny_runValue ?_))
        have nI : l ≠ (s.heap.push (fsO w)).objs.size := by rw [z1]; exact Nat.ne_of_lt (Nat.lt_succ_of_lt lt)
        have nf : s.heap.objs.size ∉ [(s.heap.push (fsO w)).objs.size, l] := by
          rw [z1]
          intro m
          rcases List.mem_cons.mp m with e | m
          · exact absurd e (Nat.ne_of_lt (Nat.lt_succ_self _))
          · exact absurd (List.mem_singleton.mp m) (Nat.ne_of_gt lt)
        refine set_update_ints ((Walks.list h3 _ l nI its).toS) s.heap.objs.size nf ns sz hb (fun i v hv => ?_) (its.size - 0) 0 _ (by omega) (Nat.zero_le _)
          ⟨⟨_, Heap.get?_push_size _ rfl, rfl, rfl⟩, l1.push _⟩ ⟨0, Nat.le_refl 0, setR_new_at (Heap.get?_push_of_some _ at0)⟩ fun s' c' hm hc' hS' => ?_
        · have lt2 : i < ns.length := by rw [← sz]; exact (Array.getElem?_eq_some_iff.mp hv).1
          obtain ⟨t, e⟩ := PyProof.Rows.IntsAre.int_at hi i v ((Array.getElem?_toList ..).trans hv)
          refine ⟨ns[i], t, List.getElem?_eq_getElem lt2, e.trans ?_⟩
          rw [List.getD_eq_getElem?_getD, List.getElem?_eq_getElem lt2] <;> rfl
        · obtain ⟨h', g2, d2, t2, o2⟩ := s'
          obtain rfl : g2 = s.gens := hm.gens
          obtain rfl : d2 = s.drawn := hm.drawn
          obtain rfl : o2 = s.os := hm.os
          show wpAny _ _ _ _ _ _
          refine wpAny_pure (show wpAny _ _ (ret Value.none) _ _ _ from wpAny_pure ⟨rfl, h', t2, c', rfl, hS', by rw [← sz]; exact hc', fun b o e => ?_⟩)
          have lb : b < s.heap.objs.size := Heap.lt_size e
          refine hm.heap b o (fun m => ?_) (Heap.get?_push_of_some _ (Heap.get?_push_of_some _ e))
          rcases List.mem_cons.mp m with e | m
          · exact absurd e (Nat.ne_of_lt lb)
          · have e := List.mem_singleton.mp m
            rw [z1] at e
            exact absurd e (Nat.ne_of_lt (Nat.lt_succ_of_lt lb))
      · cases r₂ with
        | error e => exact hr₂
        | ok fl₂ =>
          cases fl₂ with
          | ret r =>
            rcases hr₂ with ⟨rfl, h', tk, c', rfl, hS', hc', hk'⟩
            repeat any_goals first | assumption | wp_step
            exact k _ _ _ hS' hc' hk'
          | _ => exact hr₂.elim
    | _ => exact hr.elim
/-- sorted(set of ints), any number -/
theorem sorted_of_set {a : Addr} {S : Int → Bool} {n : Nat} {Q : Value → Shared → Prop} (R : SetR w s.heap a S n) (hh : A.handled = none)
    (k : ∀ s' p (out : List Value) (c : Nat) (ns : List Int), (∀ b o, s.heap.get? b = some o → s'.heap.get? b = some o) → s'.gens = s.gens → s'.os = s.os → s.heap.objs.size ≤ p →
      s'.heap.get? p = some (seqObj "list" out.toArray c) → IntsAre out ns → ns.Pairwise (· < ·) → (∀ j, j ∈ ns ↔ S j = true) → ns.length = n → Q (.ref p) s') : wpAny (model P w) A (call (.builtin "sorted") [.ref a]) Q E s := by
  obtain ⟨o, es, ep, t, ho, hx, hd, ge, nd, hm, hb, hf, hn, ri, ld⟩ := R
  refine Calls.call_function_entry kind_sorted plain_sorted entry_sorted (args_sorted1 (.ref a)) ?_
  unfold Builtin.«sorted»
  refine wpAny_bind (m := checkCount "sorted" 1 1 _) (wpAny_pure (wpAny_bind (collect_set (A := A.in1) hh ⟨o, ho, hx.1, hd⟩ hf hb ri ld fun s1 vs k1 z1 g1 o1 pm => ?_)))
  have lv : vs.length = n := by
    rw [pm.length_eq, List.length_map, Array.length_toList]
    exact hn
  have iv : IntsAre vs (vs.map SrtO.iv) := SrtO.ints_iv fun v hv => by
    rcases List.mem_map.mp (pm.mem_iff.mp hv) with ⟨e, he, q⟩
    obtain ⟨j, tk, h1, _⟩ := ge e he
    exact ⟨j, tk, q.symm.trans h1⟩
  have pk : (vs.map SrtO.iv).Perm (es.toList.map keyOf) := by
    have q := pm.map SrtO.iv
    rw [List.map_map] at q
    have e0 : es.toList.map (SrtO.iv ∘ fun e => e.2) = es.toList.map keyOf := List.map_congr_left fun e he => by
      obtain ⟨j, tk, h1, _⟩ := ge e he
      show SrtO.iv e.2 = keyOf e
      unfold keyOf
      rw [h1]
      rfl
    rw [← e0]
    exact q
  have zl : vs.length ≤ sizeLine := by
    rw [lv, ← hn]
    exact fits_of_scanBound hb
  refine wpAny_bind (wpAny_newList ?_ zl)
  have oL : (s1.heap.push (seqObj "list" vs.toArray 0)).get? s1.heap.objs.size = some (seqObj "list" vs.toArray 0) := Heap.get?_push_size _ rfl
  refine wpAny_bind (wpAny_holding (wpAny_call_entry slot_list_sort ⟨_, oL, rfl⟩ entry_list_sort (SrtO.list_sort_ord SrtO.swo_int oL zl (fun h2 => SrtO.ints_sortable iv h2) fun out q1 q2 => ⟨_, rfl, ?_⟩) (args_list_sort _)))
  obtain ⟨c, hc⟩ := sortedHeap_at (vs := vs) (out := out.toArray) oL
  obtain ⟨i1, i2, i3⟩ := SrtO.ints_out iv q1 q2
  have pn := i2.trans pk
  refine wpAny_pure ⟨_, rfl, k _ s1.heap.objs.size out c _ (fun b u e => ?_) g1 o1 z1 hc i1 (lt_of_le_nodup _ i3 (pn.nodup_iff.mpr nd)) (fun j => by rw [pn.mem_iff, ← hm j]) ?_⟩
  · have q := k1 b u e
    have lt := Heap.lt_size q
    show (sortedHeap (s1.heap.push (seqObj "list" vs.toArray 0)) s1.heap.objs.size vs out.toArray).get? b = some u
    rw [sortedHeap_old (Nat.ne_of_lt lt) (by rw [size_push']; exact Nat.lt_succ_of_lt lt)]
    exact Heap.get?_push_of_some (seqObj "list" vs.toArray 0) q
  · rw [pn.length_eq, List.length_map, Array.length_toList]
    exact hn
end
def rSetI (K : Fg) (w : World) : List V → Hp → VK → Prop := fun xs H Q => ∃ (a : Addr) (ns : List Int), xs = [V.ref a] ∧ SqL K H a (ns.map V.int) ∧ ns.length < 4000 ∧ ∀ p n, H p = none → n ≤ ns.length → Q (.ref p) (upd H p (SetO w p (fun j => decide (j ∈ ns)) n))
def rSortI1 (w : World) : List V → Hp → VK → Prop := fun xs H Q => ∃ (a : Addr) (S : Int → Bool) (n : Nat), xs = [V.ref a] ∧ H a = some (SetO w a S n) ∧ n < 4000 ∧
  ∀ (ns : List Int) (p : Addr), ns.Pairwise (· < ·) → (∀ j : Int, j ∈ ns ↔ S j = true) → ns.length = n → H p = none → Q (.ref p) (upd H p (.lst (ns.map V.int)))
section
variable {X : Cx}
theorem cr_setI (hc : X.calm = true) : CallR X (.type "set") (rSetI X.K X.w) := by
  rintro pins s σ H _ us Q I r ⟨a, ns, rfl, hs, hl, q⟩
  rw [Vals.ref1 r]
  obtain ⟨its, rv, pl, _⟩ := I.list hs
  refine set_of_list (P := X.prog) (w := X.w) ns (I.ok.hd hc) pl.isList rv.ints (by show ns.length + 1 < 4096; omega) fun h' tk c R hc' kp => ?_
  exact ⟨.ref _, upd H s.heap.objs.size (SetO X.w s.heap.objs.size (fun j => decide (j ∈ ns)) c), I.laid (t' := tk) kp (Nat.le_refl _) (setO_new R), rfl, q _ c (I.hok.fresh (Nat.le_refl _)) hc'⟩
theorem cr_sortI1 (hc : X.calm = true) : CallR X (.builtin "sorted") (rSortI1 X.w) := by
  rintro pins s σ H _ us Q I r ⟨a, S, n, rfl, ha, hl, q⟩
  rw [Vals.ref1 r]
  refine sorted_of_set (setO_get I ha) (I.ok.hd hc) fun s' p out c ns k g o hp hg hi hs hm hn => ?_
  have zl : (ns.map V.int).length ≤ sizeLine := by
    rw [List.length_map, hn]
    exact Nat.le_trans (Nat.le_of_lt hl) (by decide)
  have hf : H p = none := I.hok.fresh hp
  have J : Inv X pins σ (upd H p (.lst (ns.map V.int))) { s with toks := s'.toks, drawn := s'.drawn, gens := s'.gens, heap := s'.heap } := I.call (ch := []) (Un.laid k hp hf) (I.hok.laid k hp ⟨zl, out, c, vals_of_ints hi, hg⟩) (by rw [g]; exact I.bare) (fun _ z => nomatch z)
  rcases s' with ⟨h', g', d', t', o'⟩
  obtain rfl := o
  exact ⟨.ref p, _, J, rfl, q ns p hs hm hn hf⟩
end
end Lw

namespace Lw
open PySem.Spec PySem L2 PyProof.Rows
open Evl (Ex Ex.refl Ex.trans Ex.new Ex.off ex_rd ex_l ex_t)
/-! ### tuples of ints as data -/
def encT (ns : List Int) : PyData := .tuple (ns.map .int)
def leL (x y : List Int) : Bool := !HT.lexLt y x
def srtL (ls : List (List Int)) : List (List Int) := ls.mergeSort leL
theorem lex_anti : ∀ x y : List Int, HT.lexLt x y = false → HT.lexLt y x = false → x = y
  | [], [], _, _ => rfl
  | [], _ :: _, h, _ => by
    rw [HT.lexLt_nil_cons] at h
    cases h
  | _ :: _, [], _, h => by
    rw [HT.lexLt_nil_cons] at h
    cases h
  | a :: x, b :: y, h1, h2 => by
    rw [HT.lexLt_cons] at h1 h2
    by_cases c : a = b
    · rw [if_pos c] at h1
      rw [if_pos c.symm] at h2
      rw [c, lex_anti x y h1 h2]
    · rw [if_neg c] at h1
      rw [if_neg fun e => c e.symm] at h2
      have := of_decide_eq_false h1
      have := of_decide_eq_false h2
      omega
theorem leL_iff {x y : List Int} : leL x y = true ↔ HT.lexLt y x = false := by
  unfold leL
  cases HT.lexLt y x <;> simp
theorem leL_trans (a b c : List Int) (h1 : leL a b = true) (h2 : leL b c = true) : leL a c = true := leL_iff.mpr (NtL.lex_tr a b c (leL_iff.mp h1) (leL_iff.mp h2))
theorem leL_total (a b : List Int) : (leL a b || leL b a) = true := by
  unfold leL
  cases h : HT.lexLt b a with
  | false => rfl
  | true =>
    rw [NtL.lex_asym b a h]
    rfl
theorem srtL_perm (ls : List (List Int)) : (srtL ls).Perm ls := List.mergeSort_perm ls leL
theorem srtL_srt (ls : List (List Int)) : (srtL ls).Pairwise fun x y => HT.lexLt y x = false := (List.pairwise_mergeSort leL_trans leL_total ls).imp fun h => leL_iff.mp h
theorem srtL_uniq {ls ms : List (List Int)} (p : ms.Perm ls) (h : ms.Pairwise fun x y => HT.lexLt y x = false) : ms = srtL ls :=
  List.Perm.eq_of_pairwise (fun a b _ _ h1 h2 => lex_anti a b h2 h1) h (srtL_srt ls) (p.trans (srtL_perm ls).symm)
section
variable {K : Fg} {B : Bg} {σ : L2.St} {G G' H : Hp} {te ta tb tc : TE} {tt tu : TT} {tr : TA} {d x y z : PyData} {ds es : List PyData} {r r' : R2} {b c : Bool} {D : Ends} {t u : TS}
theorem dp_enc {v : V} {ns : List Int} (h : Dp K G v (encT ns)) : ∃ a, v = .ref a ∧ SqT K G a (ns.map V.int) := by
  obtain ⟨a, xs, e, hs, hx⟩ := dp_tup h
  rw [dpAll_intsV hx] at hs
  exact ⟨a, e, hs⟩
theorem dp_encs : ∀ {vs : List V} {ls : List (List Int)}, DpAll K G vs (ls.map encT) → ∃ ks : List (Addr × List Int), vs = ks.map (fun p => V.ref p.1) ∧ ks.map (·.2) = ls ∧ ∀ p ∈ ks, SqT K G p.1 (p.2.map V.int)
  | _, [], .nil => ⟨[], rfl, rfl, fun _ h => by cases h⟩
  | _, l :: ls, .cons h a => by
    obtain ⟨p, e, hs⟩ := dp_enc h
    obtain ⟨ks, e1, e2, hk⟩ := dp_encs a
    refine ⟨(p, l) :: ks, by rw [e, e1]; rfl, by rw [← e2]; rfl, fun q hq => ?_⟩
    cases hq with
    | head => exact hs
    | tail _ hq => exact hk q hq
theorem encs_dp : ∀ {ks : List (Addr × List Int)}, (∀ p ∈ ks, SqT K G p.1 (p.2.map V.int)) → DpAll K G (ks.map fun p => V.ref p.1) ((ks.map (·.2)).map encT)
  | [], _ => .nil
  | p :: ks, h => .cons (.tup (h p List.mem_cons_self) (dpAll_ints p.2)) (encs_dp fun q hq => h q (List.mem_cons_of_mem _ hq))
/-- sorted(xs), tuples of ints -/
theorem ef_sorted {ls : List (List Int)} (h : EvD K B ta σ G (.list (ls.map encT))) (hn : ∀ l ∈ ls, l ≠ []) : EvF K B (tCB (rSortedL K) (tCons ta tNil)) σ G ((srtL ls).map encT) := fun H e Q q =>
  h H e _ fun v G2 H2 X dv => by
    obtain ⟨a, xs, rfl, hs, hx⟩ := dp_lst dv
    obtain ⟨ks, rfl, rfl, hk⟩ := dp_encs hx
    refine ⟨a, ks, rfl, ex_l X.ok.e hs, fun p hp => ⟨ex_t X.ok.e (hk p hp), hn _ (List.mem_map.mpr ⟨p, hp, rfl⟩)⟩, fun L p pm pw hp => ?_⟩
    have nb := X.ok.b.ne hp
    refine q p _ G2 _ (X.trans (Ext.loose X.ok hp)) (X.old nb hp) (X.ok.e.off hp) nb upd_same ?_
    have e0 : L.map (·.2) = srtL (ks.map (·.2)) := srtL_uniq (pm.map _) (List.pairwise_map.mpr pw)
    rw [← e0]
    exact encs_dp fun r hr => hk r (pm.mem_iff.mp hr)
/-! ### what is in what -/
def rInTD (K : Fg) : R2 := fun x y H Q => ∃ d ds, Dp K H x d ∧ Dp K H y (.tuple ds) ∧ SeqAt.shaped d = true ∧ SeqAt.shaped (.tuple ds) = true ∧ Q (.bl (ds.any fun z => PyData.eqv z d)) H
def rNotInTD (K : Fg) : R2 := fun x y H Q => ∃ d ds, Dp K H x d ∧ Dp K H y (.tuple ds) ∧ SeqAt.shaped d = true ∧ SeqAt.shaped (.tuple ds) = true ∧ Q (.bl (!ds.any fun z => PyData.eqv z d)) H
theorem op_inTD {X : Cx} (hu : X.A.units + 65 < cLine) : OpR X (compareOp .In) (rInTD X.K) := fun pins s σ H x y v u Q I rx ry ⟨d, ds, hd, he, sd, se, q⟩ => by
  obtain ⟨_, r1⟩ := Dp.reads I d x v hd rx
  obtain ⟨_, r2⟩ := Dp.reads I (.tuple ds) y u he ry
  exact SeqAt.in_tuple_reads r2 r1 (SeqAt.canLay_of_shaped se) (SeqAt.canLay_of_shaped sd) (room_in_shaped sd hu) ⟨.bl _, H, I, rfl, q⟩
theorem op_notInTD {X : Cx} (hu : X.A.units + 65 < cLine) : OpR X (compareOp .NotIn) (rNotInTD X.K) := fun pins s σ H x y v u Q I rx ry ⟨d, ds, hd, he, sd, se, q⟩ => by
  obtain ⟨_, r1⟩ := Dp.reads I d x v hd rx
  obtain ⟨_, r2⟩ := Dp.reads I (.tuple ds) y u he ry
  exact SeqAt.notIn_tuple_reads r2 r1 (SeqAt.canLay_of_shaped se) (SeqAt.canLay_of_shaped sd) (room_in_shaped sd hu) ⟨.bl _, H, I, rfl, q⟩
theorem lay_ints : ∀ ns : List Int, PyData.canLayAll0 (ns.map .int) = true ∧ PyData.depthAll (ns.map .int) = 0
  | [] => ⟨by simp [PyData.canLayAll0], by simp [PyData.depthAll]⟩
  | n :: ns => by
    obtain ⟨h1, h2⟩ := lay_ints ns
    exact ⟨by simp [PyData.canLayAll0, PyData.canLay0, h1], by simp [PyData.depthAll, PyData.depth, h2]⟩
theorem lay_encs : ∀ ls : List (List Int), PyData.canLayAll0 (ls.map encT) = true ∧ PyData.depthAll (ls.map encT) ≤ 1
  | [] => ⟨by simp [PyData.canLayAll0], by simp [PyData.depthAll]⟩
  | l :: ls => by
    obtain ⟨h1, h2⟩ := lay_encs ls
    obtain ⟨k1, k2⟩ := lay_ints l
    refine ⟨by simp [PyData.canLayAll0, PyData.canLay0, encT, k1, h1], ?_⟩
    simp only [List.map_cons, PyData.depthAll, encT, PyData.depth, k2]
    omega
theorem shp {d : PyData} (h1 : d.canLay0 = true) (h2 : d.depth ≤ 64) : SeqAt.shaped d = true := by
  show (d.canLay0 && decide (d.depth ≤ 64)) = true
  rw [h1, decide_eq_true h2]
  rfl
theorem shp_enc (l : List Int) : SeqAt.shaped (encT l) = true := by
  obtain ⟨k1, k2⟩ := lay_ints l
  exact shp (by simp [encT, PyData.canLay0, k1]) (by simp [encT, PyData.depth, k2])
theorem shp_none : SeqAt.shaped .none = true := by rfl
theorem shp_encsT (ls : List (List Int)) : SeqAt.shaped (.tuple (ls.map encT)) = true := by
  obtain ⟨k1, k2⟩ := lay_encs ls
  exact shp (by simp [PyData.canLay0, k1]) (by simp only [PyData.depth]; omega)
theorem shp_encsL (ls : List (List Int)) : SeqAt.shaped (.list (ls.map encT)) = true := by
  obtain ⟨k1, k2⟩ := lay_encs ls
  exact shp (by simp [PyData.canLay0, k1]) (by simp only [PyData.depth]; omega)
theorem eqv_ints : ∀ a b : List Int, PyData.eqvAll (a.map .int) (b.map .int) = decide (a = b)
  | [], [] => by
    simp [PyData.eqvAll]
  | [], _ :: _ => by
    simp [PyData.eqvAll]
  | _ :: _, [] => by
    simp [PyData.eqvAll]
  | x :: a, y :: b => by
    simp only [List.map_cons, PyData.eqvAll, PyData.eqv, eqv_ints a b]
    by_cases c : x = y
    · subst c
      simp
    · simp [c]
theorem eqv_enc (a b : List Int) : PyData.eqv (encT a) (encT b) = decide (a = b) := by
  simp only [encT, PyData.eqv, eqv_ints]
theorem eqv_non (a : List Int) : PyData.eqv (encT a) .none = false := by simp [encT, PyData.eqv]
theorem any_enc (ls : List (List Int)) (a : List Int) : ((ls.map encT).any fun z => PyData.eqv z (encT a)) = decide (a ∈ ls) := by
  induction ls with
  | nil => simp
  | cons l ls ih =>
    rw [List.map_cons, List.any_cons, ih, eqv_enc]
    by_cases c : a = l
    · subst c
      simp
    · have : ¬ l = a := fun e => c e.symm
      simp [c, this]
theorem any_non (ls : List (List Int)) : ((ls.map encT).any fun z => PyData.eqv z .none) = false := by
  induction ls with
  | nil => rfl
  | cons l ls ih => rw [List.map_cons, List.any_cons, ih, eqv_non]; rfl
theorem rd_inT {ls : List (List Int)} {a : List Int} : RvD K B (rInTD K) G (encT a) (.tuple (ls.map encT)) (.bool (decide (a ∈ ls))) := fun u v G2 H2 _ e du dv Q q =>
  ⟨encT a, ls.map encT, dp_mono e.e du, dp_mono e.e dv, shp_enc a, shp_encsT ls, by rw [any_enc]; exact q.here e (.bl _)⟩
theorem rd_notInT {ls : List (List Int)} {a : List Int} : RvD K B (rNotInTD K) G (encT a) (.tuple (ls.map encT)) (.bool (!decide (a ∈ ls))) := fun u v G2 H2 _ e du dv Q q =>
  ⟨encT a, ls.map encT, dp_mono e.e du, dp_mono e.e dv, shp_enc a, shp_encsT ls, by rw [any_enc]; exact q.here e (.bl _)⟩
/-! ### numbers -/
theorem ed_min {i j : Int} (ha : EvA K B tr σ G [.int i, .int j]) : EvD K B (tCB (fun xs H Q => ∃ i j, xs = [.int i, .int j] ∧ Q (.int (if j < i then j else i)) H) tr) σ G (.int (min i j)) := ed_cb ha fun vs G2 H2 _ e dv Q q => ⟨i, j, dpAll_intsV (bs := [i, j]) dv, by
  have z : (if j < i then j else i) = min i j := by
    rw [Int.min_def]
    split <;> split <;> omega
  rw [z]
  exact q.here e (.int _)⟩
theorem ed_max {i j : Int} (ha : EvA K B tr σ G [.int i, .int j]) : EvD K B (tCB (fun xs H Q => ∃ i j, xs = [.int i, .int j] ∧ Q (.int (if j > i then j else i)) H) tr) σ G (.int (max i j)) := ed_cb ha fun vs G2 H2 _ e dv Q q => ⟨i, j, dpAll_intsV (bs := [i, j]) dv, by
  have z : (if j > i then j else i) = max i j := by
    rw [Int.max_def]
    split <;> split <;> omega
  rw [z]
  exact q.here e (.int _)⟩
abbrev rInt1 : List V → Hp → VK → Prop := fun xs H Q => (∃ i, xs = [.int i] ∧ Q (.int i) H) ∨ ∃ k, xs = [.bl k] ∧ Q (.int (if k then 1 else 0)) H
theorem ed_intB (ha : EvD K B ta σ G (.bool b)) : EvD K B (tCB rInt1 (tCons ta tNil)) σ G (.int (if b then 1 else 0)) := fun H e Q q =>
  ha H e _ fun v G2 H2 X dv => .inr ⟨b, by rw [dp_bl dv], q _ G2 H2 X (.int _)⟩
/-- for target in xs, a list -/
theorem sq_forG {g : TG} {Pv : Nat → L2.St → Hp → Hp → Prop} (h : EvD K B te σ G (.list ds)) (e : Ok K B G H) (h0 : ∀ G2 H2, Ext K B G H G2 H2 → Pv 0 σ G2 H2)
    (hs : ∀ G1 H1, Ext K B G H G1 H1 → ∀ (j : Nat) d v σ' G' H', ds[j]? = some d → Ext K B G1 H1 G' H' → Pv j σ' G' H' → Dp K G' v d →
      g v σ' H' fun σ2 H2 => t (lpE D u fun σ2 H2 => ∃ G2, Ext K B G1 H1 G2 H2 ∧ Pv (j + 1) σ2 G2 H2) σ2 H2)
    (hd : ∀ σ' G' H', Ext K B G H G' H' → Pv ds.length σ' G' H' → u D σ' H') : tSeq (tFor (iList K te) g t) u D σ H :=
  h H e _ fun v G1 H1 X dv => by
    obtain ⟨a, xs, rfl, hl, hx⟩ := dp_lst dv
    refine ⟨a, rfl, ⟨xs, ex_l X.ok.e hl⟩, for_list (K := K) (a := a) (xs := xs) (fun j σ' H' => ∃ G', Ext K B G1 H1 G' H' ∧ Pv j σ' G' H') ⟨G1, Ext.refl X.ok, h0 G1 H1 X⟩ ?_ ?_ ?_⟩
    · rintro j σ' H' _ ⟨G', X', _⟩
      exact ex_l (X'.gg.trans X'.ok.e) hl
    · rintro j y σ' H' hj ⟨G', X', p⟩
      obtain ⟨d, hd', dy⟩ := dpAll_at hx hj
      exact hs G1 H1 X j d y σ' G' H' hd' X' p (dp_mono X'.gg dy)
    · rintro σ' H' ⟨G', X', p⟩
      rw [dpAll_len hx] at p
      exact hd σ' G' H' (X.trans X') p
/-- [e for a, b in xs if t], xs a list of pairs -/
theorem ef_lcP {i j : Nat} {f : PyData → Option PyData} (ha : EvD K B ta σ G (.list ds)) (hn : ds.length ≤ 100000) (hp : ∀ d ∈ ds, ∃ a b, d = .tuple [a, b])
    (ht : ∀ a b v w G', .tuple [a, b] ∈ ds → Ex G G' → Cel K B G' → Dp K G' v a → Dp K G' w b → EvB K B tt (((wipe σ [i, j]).set i (some v)).set j (some w)) G' (f (.tuple [a, b])).isSome)
    (he : ∀ a b v w y G', .tuple [a, b] ∈ ds → Ex G G' → Cel K B G' → Dp K G' v a → Dp K G' w b → f (.tuple [a, b]) = some y → EvD K B te (((wipe σ [i, j]).set i (some v)).set j (some w)) G' y)
    (hw : ∀ v w, wipe (((wipe σ [i, j]).set i (some v)).set j (some w)) [i, j] = wipe σ [i, j]) :
    EvF K B (tLc (iList K ta) (gTup K 2 (gCons (gName i) (gCons (gName j) gNil))) tt te [i, j]) σ G (ds.filterMap f) := fun H e Q q =>
  ha H e _ fun v G1 H1 X dv => by
    obtain ⟨a, xs, rfl, hs, hx⟩ := dp_lst dv
    refine ⟨a, rfl, ⟨xs, ex_l X.ok.e hs⟩, fun D hD => ?_⟩
    have nb := X.ok.b.ne hD
    show ∃ W, _
    refine lc_list (K := K) (a := a) (xs := xs) (Qd := fun H => Q (.ref D) H) (fun j H' => ∃ G' ys, Ext K B G1 H1 G' H' ∧ G' D = none ∧ H' D = some (.lst ys) ∧ DpAll K G' ys ((ds.take j).filterMap f))
      ⟨G1, [], Ext.loose X.ok hD, X.ok.e.off hD, upd_same, .nil⟩ ?_ ?_ ?_
    · rintro j H' _ ⟨G', ys, X', _⟩
      exact ex_l (X'.gg.trans X'.ok.e) hs
    · rintro m x H' hj ⟨G', ys, X', g', h', a'⟩
      obtain ⟨d, hd, dx⟩ := dpAll_at hx hj
      have md : d ∈ ds := List.mem_of_getElem? hd
      have jl : m < ds.length := (List.getElem?_eq_some_iff.mp hd).1
      obtain ⟨d1, d2, rfl⟩ := hp d md
      obtain ⟨p, zs, rfl, hz, hzz⟩ := dp_tup (dp_mono X'.gg dx)
      cases hzz with
      | cons k1 r1 =>
        cases r1 with
        | cons k2 r2 =>
          cases r2
          refine ⟨p, _, rfl, ex_t X'.ok.e hz, rfl, _, _, rfl, _, _, rfl, rfl, hw _ _, ?_⟩
          have hlen : ((ds.take m).filterMap f).length < 100000 := by
            have z := List.length_filterMap_le f (ds.take m)
            rw [List.length_take] at z
            omega
          have c' := (e.c.mono X.gg).mono X'.gg
          refine lc_turn (o := f (.tuple [d1, d2])) hD nb X' g' h' a' hlen (ht d1 d2 _ _ G' md (X.gg.trans X'.gg) c' k1 k2) (fun y ey => he d1 d2 _ _ y G' md (X.gg.trans X'.gg) c' k1 k2 ey) fun G4 H4 ys X4 g4 h4 a4 => ⟨G4, ys, X4, g4, h4, ?_⟩
          rw [take_filterMap hd]
          exact a4
    · rintro H' ⟨G', ys, X', g', h', a'⟩
      rw [dpAll_len hx, List.take_length] at a'
      exact q D ys G' H' (X.trans X') (X.old nb hD) g' nb h' a'
/-- a, b = x, y -/
theorem sq_par {i j : Nat} {d1 d2 : PyData} (h : EvA K B tr σ G [d1, d2]) (e : Ok K B G H) (k : ∀ v w G2 H2, Ext K B G H G2 H2 → Dp K G2 v d1 → Dp K G2 w d2 → u D ((σ.set i (some v)).set j (some w)) H2) : tSeq (tPar i j tr) u D σ H :=
  h H e _ fun vs G2 H2 X dv => by
    cases dv with
    | cons h1 a1 =>
      cases a1 with
      | cons h2 a2 =>
        cases a2
        exact ⟨_, _, rfl, k _ _ G2 H2 X h1 h2⟩
/-! ### lists that are made anew again and again -/
theorem ef_catV {i : Nat} {p : Addr} {xs : List V} (hσ : σ[i]? = some (some (.ref p))) (hp : G p = some (.lst xs)) (hx : DpAll K G xs ds) (hb : EvF K B tb σ G es) (hl : ds.length + es.length ≤ 100000) : EvF K B (tOp rCat (tVar i) tb) σ G (ds ++ es) := fun H e Q q =>
  ⟨.ref p, hσ, hb H e _ fun o ys G2 H2 X ho hg nb h2 a => by
    refine ⟨p, o, xs, ys, rfl, rfl, X.ok.e _ _ (X.gg _ _ hp), h2, ?_, fun r hr => ?_⟩
    · rw [dpAll_len hx, dpAll_len a]
      exact sz hl
    · have n2 := X.ok.b.ne hr
      exact q r _ G2 _ (X.trans (Ext.loose X.ok hr)) (X.old n2 hr) (X.ok.e.off hr) n2 upd_same (dpAll_app (dpAll_mono X.gg hx) a)⟩
theorem RetF.frz {Q : VK} (k : ∀ p xs G2 H2, Ext K B G H G2 H2 → G2 p = some (.lst xs) → DpAll K G2 xs ds → Q (.ref p) H2) : RetF K B G H Q ds := fun p xs G2 H2 X hp hg nb h2 a =>
  k p xs _ H2 (X.freeze hp hg nb h2) upd_same (dpAll_mono (Ex.new hg) a)
theorem sq_setZ {i : Nat} (h : EvF K B te σ G ds) (e : Ok K B G H) (k : ∀ p xs G2 H2, Ext K B G H G2 H2 → G2 p = some (.lst xs) → DpAll K G2 xs ds → u D (σ.set i (some (.ref p))) H2) : tSeq (tAsg te (gName i)) u D σ H := h H e _ (RetF.frz k)
theorem st_setZ {i : Nat} (h : EvF K B te σ G ds) (e : Ok K B G H) (k : ∀ p xs G2 H2, Ext K B G H G2 H2 → G2 p = some (.lst xs) → DpAll K G2 xs ds → D.nx (σ.set i (some (.ref p))) H2) : tAsg te (gName i) D σ H := h H e _ (RetF.frz k)
theorem st_forR {i n : Nat} {Pv : Nat → L2.St → Hp → Hp → Prop} (h : EvA K B tr σ G [.int (n : Int)]) (hn : n ≤ 100000) (e : Ok K B G H) (h0 : ∀ G2 H2, Ext K B G H G2 H2 → Pv 0 σ G2 H2)
    (hs : ∀ G1 H1, Ext K B G H G1 H1 → ∀ (j : Nat) σ' G' H', j < n → Ext K B G1 H1 G' H' → Pv j σ' G' H' →
      t (lpE D tNext fun σ2 H2 => ∃ G2, Ext K B G1 H1 G2 H2 ∧ Pv (j + 1) σ2 G2 H2) (σ'.set i (some (.int (j : Int)))) H')
    (hd : ∀ σ' G' H', Ext K B G H G' H' → Pv n σ' G' H' → D.nx σ' H') : tFor (iRng1 tr) (gName i) t D σ H := sq_forR (u := tNext) h hn e h0 hs hd
/-- a list that is returned as it was made -/
theorem st_retF (h : EvF K B te σ G ds) (e : Ok K B G H) (k : RetF K B G H D.rt ds) : tRet te D σ H := h H e _ k
/-- return of a name that holds a list made meanwhile -/
theorem st_retV {i : Nat} {p : Addr} {xs : List V} {G0 H0 : Hp} (hσ : σ[i]? = some (some (.ref p))) (X : Ext K B G0 H0 G H) (h0 : H0 p = none) (hg : G p = none) (nb : ¬ isB B p) (hp : H p = some (.lst xs)) (hx : DpAll K G xs ds) (k : RetF K B G0 H0 D.rt ds) : tRet (tVar i) D σ H := ⟨.ref p, hσ, k p xs G H X h0 hg nb hp hx⟩
theorem hu65 {k : Nat} {A : Around} (hr : Room k A) : A.units + 65 < cLine := by
  have := hr.un
  omega
/-- list(range(n)) -/
theorem ef_range {n : Nat} (h : EvD K B ta σ G (.int (n : Int))) (hn : n ≤ 100000) : EvF K B (tLstRg (tRg1 ta)) σ G ((List.range n).map fun i : Nat => .int (i : Int)) := fun H e Q q =>
  h H e _ fun v G2 H2 X dv => ⟨(n : Int), dp_int dv, ⟨by omega, by omega, by omega, by omega, by omega⟩, fun p hp => by
    have nb := X.ok.b.ne hp
    refine q p _ G2 _ (X.trans (Ext.loose X.ok hp)) (X.old nb hp) (X.ok.e.off hp) nb upd_same ?_
    unfold rgV
    have e0 : ((n : Int) - 0).toNat = n := by omega
    rw [e0]
    clear hn dv h q
    induction n with
    | zero => exact .nil
    | succ n ih =>
      rw [List.range_succ, List.map_append, List.map_append]
      refine dpAll_app (ih (by omega)) (.cons ?_ .nil)
      have e1 : (0 : Int) + ((n : Nat) : Int) = (n : Int) := by omega
      show Dp K G2 (.int (0 + (n : Int))) (.int (n : Int))
      rw [e1]
      exact .int _⟩
/-! ### dicts with int keys -/
def EvK (K : Fg) (B : Bg) (trs : List (TE × TE)) (σ : L2.St) (G : Hp) (ks : List Int) (ds : List PyData) : Prop := ∀ H, Ok K B G H → ∀ Q : List (V × V) → Hp → Prop, (∀ vs G2 H2, Ext K B G H G2 H2 → DpAll K G2 vs ds → Q ((ks.map V.int).zip vs) H2) → tPairs trs σ H Q
theorem EvK.mono {trs : List (TE × TE)} {ks : List Int} (e : Ex G G') (c : Cel K B G) (h : EvK K B trs σ G ks ds) : EvK K B trs σ G' ks ds := fun H eH Q q =>
  h H (eH.less e c) Q fun v G2 H2 X dv => by
    obtain ⟨X2, e2⟩ := X.wide e eH
    exact q v _ H2 X2 (dpAll_mono e2 dv)
theorem ek_nil : EvK K B [] σ G [] [] := fun H e Q q => q [] G H (Ext.refl e) .nil
theorem ek_cons {trs : List (TE × TE)} {ks : List Int} {k : Int} (h : EvD K B te σ G d) (hr : EvK K B trs σ G ks ds) : EvK K B ((tC (.int k), te) :: trs) σ G (k :: ks) (d :: ds) := fun H e Q q =>
  h H e _ fun v G2 H2 X dv => hr.mono X.gg e.c H2 X.ok _ fun vs G3 H3 X3 dvs => q (v :: vs) G3 H3 (X.trans X3) (.cons (dp_mono X3.gg dv) dvs)
theorem kV_zip : ∀ (ks : List Int) (vs : List V), (ks.map V.int).zip vs = ((ks.map (Sum.inl (β := Str))).zip vs).map fun kv => (kV kv.1, kv.2)
  | [], _ => rfl
  | _ :: _, [] => rfl
  | k :: ks, v :: vs => by
    rw [List.map_cons, List.map_cons, List.zip_cons_cons, List.zip_cons_cons, List.map_cons, kV_zip ks vs]
    rfl
/-- {k: v, ..}[k] -/
theorem ed_dispGet {trs : List (TE × TE)} {ks : List Int} {ty : TE} {k : Int} (h : EvK K B trs σ G ks ds) (hy : EvD K B ty σ G (.int k)) (hl : ks.length ≤ 15)
    (hv : ∀ (Gx : Hp) vs, DpAll K Gx vs ds → ∃ v, valV (mergeK [] ((ks.map Sum.inl).zip vs)) (Sum.inl k) = some v ∧ Dp K Gx v d) : EvD K B (tDGet (tDisp trs) ty) σ G d := fun H e Q q p hp => by
  have X0 : Ext K B G H G (upd H p (.dK [])) := Ext.loose e hp
  have nb := e.b.ne hp
  refine h _ X0.ok _ fun vs G2 H2 X dv => ?_
  have hp2 : H2 p = some (.dK []) := X.hh p _ nb upd_same
  have g2 : G2 p = none := X.fr p _ upd_same (e.e.off hp)
  obtain ⟨v, hv1, hv2⟩ := hv G2 vs dv
  refine ⟨hp2, (ks.map Sum.inl).zip vs, kV_zip ks vs, ?_, ?_⟩
  · rw [List.length_zip, List.length_map]
    omega
  · have ok2 : Ok K B G2 (upd H2 p (.dK (mergeK [] ((ks.map Sum.inl).zip vs)))) := X.ok.mut g2 nb
    have Y : Ext K B G H G2 (upd H2 p (.dK (mergeK [] ((ks.map Sum.inl).zip vs)))) := ⟨X.gg, fun a o n z => by
      rw [upd_ne (ne_of_none z hp)]
      exact X.hh a o n (by rw [upd_ne (ne_of_none z hp)]; exact z), fun a o z g => X.fr a o (by rw [upd_ne (ne_of_none z hp)]; exact z) g, ok2⟩
    refine hy.mono Y.gg e.c _ ok2 _ fun w G3 H3 X3 dw => ?_
    obtain rfl := dp_int dw
    have hp3 : H3 p = some (.dK (mergeK [] ((ks.map Sum.inl).zip vs))) := X3.hh p _ nb upd_same
    refine ⟨p, v, rfl, ?_, q v G3 H3 (Y.trans X3) (dp_mono X3.gg hv2)⟩
    rw [← hv1]
    exact DGet.k (k := Sum.inl k) hp3
/-! ### a list that grows by append -/
structure Loo (K : Fg) (B : Bg) (G0 H0 G H : Hp) (p : Addr) (ds : List PyData) : Prop where
  x : Ext K B G0 H0 G H
  h0 : H0 p = none
  g : G p = none
  nb : ¬ isB B p
  h : ∃ xs, H p = some (.lst xs) ∧ DpAll K G xs ds
theorem Loo.step {G0 H0 G2 H2 : Hp} {p : Addr} (l : Loo K B G0 H0 G H p ds) (X : Ext K B G H G2 H2) : Loo K B G0 H0 G2 H2 p ds := by
  obtain ⟨xs, h1, h2⟩ := l.h
  exact ⟨l.x.trans X, l.h0, X.fr p _ h1 l.g, l.nb, xs, X.hh p _ l.nb h1, dpAll_mono X.gg h2⟩
theorem st_append {G0 H0 : Hp} {p : Addr} {i : Nat} (hσ : σ[i]? = some (some (.ref p))) (l : Loo K B G0 H0 G H p ds) (h : EvD K B ta σ G d) (hl : ds.length < 100000) (k : ∀ G2 H2, Loo K B G0 H0 G2 H2 p (ds ++ [d]) → Ex G G2 → D.nx σ H2) :
    tDrop (tBM K "list" rAppend (tVar i) (tCons ta tNil)) D σ H := by
  obtain ⟨xs0, h1, _⟩ := l.h
  refine ⟨.ref p, hσ, .inl ⟨rfl, _, SqL.of h1⟩, h H l.x.ok _ fun v G2 H2 X dv => ?_⟩
  have l2 := l.step X
  obtain ⟨xs, h3, h4⟩ := l2.h
  refine ⟨p, xs, v, rfl, rfl, h3, by rw [dpAll_len h4]; exact szl hl, ?_⟩
  refine k G2 _ ⟨⟨l2.x.gg, fun a o n z => ?_, l2.x.fr, l2.x.ok.mut l2.g l.nb⟩, l.h0, l2.g, l.nb, xs ++ [v], upd_same, dpAll_app h4 (.cons dv .nil)⟩ X.gg
  rw [upd_ne (ne_of_none z l.h0)]
  exact l2.x.hh a o n z
theorem Loo.frz {G0 H0 : Hp} {p : Addr} (l : Loo K B G0 H0 G H p ds) : ∃ G2 xs, Ext K B G0 H0 G2 H ∧ Ex G G2 ∧ G2 p = some (.lst xs) ∧ DpAll K G2 xs ds := by
  obtain ⟨xs, h1, h2⟩ := l.h
  exact ⟨_, xs, l.x.freeze l.h0 l.g l.nb h1, Ex.new l.g, upd_same, dpAll_mono (Ex.new l.g) h2⟩
theorem sq_setL {i : Nat} (h : EvF K B te σ G ds) (e : Ok K B G H) (k : ∀ p G2 H2, Loo K B G H G2 H2 p ds → u D (σ.set i (some (.ref p))) H2) : tSeq (tAsg te (gName i)) u D σ H := h H e _ fun p xs G2 H2 X h0 hg nb h2 a => k p G2 H2 ⟨X, h0, hg, nb, xs, h2, a⟩
theorem Loo.dp {G0 H0 : Hp} {p : Addr} (l : Loo K B G0 H0 G H p ds) : Dp K H (.ref p) (.list ds) := by
  obtain ⟨xs, h1, h2⟩ := l.h
  exact .lst (SqL.of h1) (dpAll_mono l.x.ok.e h2)
/-- for x in range(n), the invariant over the whole heap -/
theorem sq_forR0 {i n : Nat} {Pv : Nat → L2.St → Hp → Prop} (h : EvA K B tr σ G [.int (n : Int)]) (hn : n ≤ 100000) (e : Ok K B G H) (h0 : ∀ G2 H2, Ext K B G H G2 H2 → Pv 0 σ H2)
    (hs : ∀ (j : Nat) σ' H', j < n → Pv j σ' H' → t (lpE D u fun σ2 H2 => Pv (j + 1) σ2 H2) (σ'.set i (some (.int (j : Int)))) H')
    (hd : ∀ σ' H', Pv n σ' H' → u D σ' H') : tSeq (tFor (iRng1 tr) (gName i) t) u D σ H :=
  h H e _ fun vs G1 H1 X dv => by
    have ev : vs = [.int (n : Int)] := dpAll_intsV (bs := [(n : Int)]) dv
    refine ⟨(n : Int), ev, by omega, by omega, for_range (lo := 0) (n := (n : Int).toNat) (fun j σ' H' => Pv j σ' H') (h0 G1 H1 X) ?_ ?_⟩
    · intro j σ' H' hj p
      have ez : (0 : Int) + (j : Int) = (j : Int) := by omega
      have z := hs j σ' H' (by omega) p
      rw [← ez] at z
      exact z
    · intro σ' H' p
      rw [Int.toNat_natCast] at p
      exact hd σ' H' p
/-- a list that grows, looked at -/
def hide (p : Addr) (G : Hp) : Hp := fun a => if a = p then none else G a
theorem Loo.see {G0 H0 : Hp} {p : Addr} (l : Loo K B G0 H0 G H p ds) : ∃ G1, Ex G G1 ∧ Ok K B G1 H ∧ Dp K G1 (.ref p) (.list ds) ∧ (∀ G2 H2, Ext K B G1 H G2 H2 → ∃ G3, Loo K B G0 H0 G3 H2 p ds ∧ Ex G G3 ∧ ∀ v d, (∀ a, ¬ isB B a → True) → Dp K (hide p G2) v d → Dp K G3 v d) := by
  obtain ⟨xs, h1, h2⟩ := l.h
  have F := l.x.freeze l.h0 l.g l.nb h1
  refine ⟨upd G p (.lst xs), Ex.new l.g, F.ok, .lst (SqL.of upd_same) (dpAll_mono (Ex.new l.g) h2), fun G2 H2 X => ?_⟩
  have gg : Ex G (hide p G2) := fun a o z => by
    have ne : a ≠ p := ne_of_none z l.g
    show (if a = p then none else G2 a) = some o
    rw [if_neg ne]
    exact X.gg a o (by rw [upd_ne ne]; exact z)
  have hx : Ext K B G H (hide p G2) H2 := ⟨gg, X.hh, fun a o z g => by
    show (if a = p then none else G2 a) = none
    by_cases c : a = p
    · rw [if_pos c]
    · rw [if_neg c]
      exact X.fr a o z (by rw [upd_ne c]; exact g), ⟨fun a o z => by
      have z' : (if a = p then none else G2 a) = some o := z
      by_cases c : a = p
      · rw [if_pos c] at z'
        cases z'
      · rw [if_neg c] at z'
        exact X.ok.e a o z', l.x.ok.c.mono gg, X.ok.b.keep (fun a _ g => by
      show (if a = p then none else G2 a) = none
      by_cases c : a = p
      · rw [if_pos c]
      · rw [if_neg c]
        exact g) fun _ _ _ q => q⟩⟩
  exact ⟨hide p G2, l.step hx, gg, fun _ _ _ z => z⟩
theorem Loo.test {G0 H0 : Hp} {p : Addr} (l : Loo K B G0 H0 G H p ds) (k : ∀ G1, Ex G G1 → Dp K G1 (.ref p) (.list ds) → EvB K B tt σ G1 b) {Q : Bool → Hp → Prop} (q : ∀ G2 H2, Loo K B G0 H0 G2 H2 p ds → Ex G G2 → Q b H2) : tt σ H Q := by
  obtain ⟨G1, e1, o1, d1, z⟩ := l.see
  refine k G1 e1 d1 H o1 Q fun G2 H2 X => ?_
  obtain ⟨G3, l3, e3, _⟩ := z G2 H2 X
  exact q G3 H2 l3 e3
theorem sq_ifL {G0 H0 : Hp} {p : Addr} {w : TS} (l : Loo K B G0 H0 G H p ds) (k : ∀ G1, Ex G G1 → Dp K G1 (.ref p) (.list ds) → EvB K B tt σ G1 b) (k1 : b = true → ∀ G2 H2, Loo K B G0 H0 G2 H2 p ds → Ex G G2 → t D σ H2) (k2 : b = false → ∀ G2 H2, Loo K B G0 H0 G2 H2 p ds → Ex G G2 → D.nx σ H2) : tIfS tt t tNext D σ H := l.test k fun G2 H2 l2 e2 => by
  cases b with
  | true =>
    rw [if_pos rfl]
    exact k1 rfl G2 H2 l2 e2
  | false =>
    rw [ifF]
    exact k2 rfl G2 H2 l2 e2
/-- tuple(xs) -/
theorem ed_tupOf (h : EvD K B ta σ G (.list ds)) : EvD K B (tCB (rTupS K) (tCons ta tNil)) σ G (.tuple ds) := fun H e Q q =>
  h H e _ fun v G2 H2 X dv => by
    obtain ⟨a, xs, rfl, hs, hx⟩ := dp_lst dv
    exact ⟨a, xs, rfl, .inl ⟨ex_l X.ok.e hs, fun p hp => q _ _ _ (X.trans (Ext.new X.ok hp)) (.tup (SqT.of upd_same) (dpAll_mono (Ex.new (X.ok.e.off hp)) hx))⟩⟩
/-! ### a dict that grows -/
structure LoD (K : Fg) (B : Bg) (G0 H0 G H : Hp) (p : Addr) (kvs : List (Key × V)) : Prop where
  x : Ext K B G0 H0 G H
  h0 : H0 p = none
  g : G p = none
  nb : ¬ isB B p
  h : H p = some (.dK kvs)
theorem LoD.step {G0 H0 G2 H2 : Hp} {p : Addr} {kvs : List (Key × V)} (l : LoD K B G0 H0 G H p kvs) (X : Ext K B G H G2 H2) : LoD K B G0 H0 G2 H2 p kvs := ⟨l.x.trans X, l.h0, X.fr p _ l.h l.g, l.nb, X.hh p _ l.nb l.h⟩
theorem LoD.put {G0 H0 : Hp} {p : Addr} {kvs : List (Key × V)} (kvs' : List (Key × V)) (l : LoD K B G0 H0 G H p kvs) : LoD K B G0 H0 G (upd H p (.dK kvs')) p kvs' := ⟨⟨l.x.gg, fun a o n z => by
  rw [upd_ne (ne_of_none z l.h0)]
  exact l.x.hh a o n z, l.x.fr, l.x.ok.mut l.g l.nb⟩, l.h0, l.g, l.nb, upd_same⟩
theorem LoD.frz {G0 H0 : Hp} {p : Addr} {kvs : List (Key × V)} (l : LoD K B G0 H0 G H p kvs) : Ext K B G0 H0 (upd G p (.dK kvs)) H := l.x.freeze l.h0 l.g l.nb l.h
/-- d[k], d known -/
theorem ed_dget {p : Addr} {kvs : List (Key × V)} {ty : TE} {i : Nat} {k : Int} {v : V} (hσ : σ[i]? = some (some (.ref p))) (hp : G p = some (.dK kvs)) (hy : EvD K B ty σ G (.int k)) (hv : valV kvs (Sum.inl k) = some v) (dv : Dp K G v d) : EvD K B (tDGet (tVar i) ty) σ G d := fun H e Q q =>
  ⟨.ref p, hσ, hy H e _ fun w G2 H2 X dw => by
    obtain rfl := dp_int dw
    refine ⟨p, v, rfl, ?_, q v G2 H2 X (dp_mono X.gg dv)⟩
    rw [← hv]
    exact DGet.k (k := Sum.inl k) (X.ok.e _ _ (X.gg _ _ hp))⟩
/-! ### the same item again and again -/
theorem rep_flat (n : Nat) (d : PyData) : (List.replicate n [d]).flatten = List.replicate n d := by
  induction n with
  | zero => rfl
  | succ n ih => rw [List.replicate_succ, List.flatten_cons, ih]; rfl
end
end Lw

namespace Lw
open PySem.Spec PySem L2 PyProof.Rows
open Evl (Ex Ex.refl Ex.trans Ex.new Ex.off ex_rd ex_l ex_t)
/-! ### list comprehensions of any number of clauses -/
/-- what stands behind the tests of clause k - 1: clause k, or the item -/
def innW (M : Model) (A : Around) (elt : Expr) (gens : List Comprehension) (scope : Scope) (pos : Pos) (k : Nat) (acc : Value) (env : Env) (E : Value → Shared → Prop) (Nx : Shared → Prop) (s : Shared) : Prop :=
  match gens[k]? with
  | some g => wpAny M A (eval g.iter env) (fun x s1 => wpAny M A (pyIter x) (fun j s2 => codeAny M A (.compStart (.ListComp elt gens scope pos) k j acc env) (fun r s3 => match r with
      | .ok _ => Nx s3
      | .error _ => False) s2) E s1) E s
  | none => wpAny M A (eval elt env) (fun x s1 => wpAny M A (call (.builtin "list.append") [acc, x]) (fun _ s2 => Nx s2) E s1) E s
/-- one turn of a clause -/
def turnW (M : Model) (A : Around) (tg : Expr) (ifs : List Expr) (it : Value) (env : Env) (E : Value → Shared → Prop) (Stop : Shared → Prop) (Inn Nx : Shared → Prop) (s : Shared) : Prop :=
  wpAny M A (pyNext it) (fun r s1 => match r with
    | none => Stop s1
    | some v => wpAny M A (letOwnedTupleGo tg it v) (fun _ s2 => wpAny M A (assign tg env v) (fun _ s3 =>
        wpAny M A (forIn ifs true fun c r => if r = true then (do
          let ok ← isTrue c env (eval c env)
          pure (ForInStep.yield ok)) else pure (ForInStep.yield r)) (fun b s4 => if b = true then Inn s4 else Nx s4) E s3) E s2) E s1) E s
section
variable {prog : Program} {w : World} {A : Around} {R : Result → Shared → Prop} {s : Shared} {elt tg iter : Expr} {ifs : List Expr} {gens : List Comprehension} {scope : Scope} {pos : Pos} {it acc : Value} {env : Env} {k : Nat}
theorem loop_turns (hk : gens[k]? = some ⟨tg, iter, ifs, 0⟩) (hn : ∀ g, gens[k + 1]? = some g → g.is_async = 0 ∧ ∀ x, foldedSetIterable g.iter env x = pure x) (I : Nat → Shared → Prop)
    (turn : ∀ n s, I n s → turnW (model prog w) A tg ifs it env (notedBy (model prog w) A env fun e s' => R (.error e) s') (fun s' => R (.ok .next) s')
      (innW (model prog w) A elt gens scope pos (k + 1) acc env (notedBy (model prog w) A env fun e s' => R (.error e) s') fun s' => ∃ m, m < n ∧ I m s') (fun s' => ∃ m, m < n ∧ I m s') s)
    (n : Nat) (h : I n s) : codeAny (model prog w) A (.compLoop (.ListComp elt gens scope pos) k it acc env) R s := by
  refine codeAny_loop rfl I (fun m t hI => ?_) n h
  show wpAny _ A ((compTurn (.ListComp elt gens scope pos) k it acc env).onRaise fun x => do
    noteFrame x env
    theTreesLotGoes x) _ _ t
  refine wpAny_noted ?_
  have z := turn m t hI
  unfold turnW at z
  unfold compTurn
  simp only [hk]
  refine wpAny_bind (wpAny_standAt (wpAny_bind (wpAny_mono z (fun r t1 h1 => ?_) fun _ _ q => q)))
  cases r with
  | none => exact wpAny_pure h1
  | some v =>
    refine wpAny_bind (wpAny_mono h1 (fun _ t2 h2 => ?_) fun _ _ q => q)
    refine wpAny_bind (wpAny_mono h2 (fun _ t3 h3 => ?_) fun _ _ q => q)
    refine wpAny_bind (wpAny_mono h3 (fun b t4 h4 => ?_) fun _ _ q => q)
    cases b with
    | false => exact wpAny_pure ⟨rfl, h4⟩
    | true =>
      have h4 : innW (model prog w) A elt gens scope pos (k + 1) acc env _ _ t4 := h4
      unfold innW at h4
      cases hg : gens[k + 1]? with
      | none =>
        rw [hg] at h4
        simp only [hg]
        show wpAny _ A ((do
          let _ ← call (.builtin "list.append") [acc, ← eval elt env]) >>= fun _ => again (.compLoop (.ListComp elt gens scope pos) k it acc env)) _ _ _
        refine wpAny_bind (wpAny_bind (wpAny_mono h4 (fun x t5 h5 => ?_) fun _ _ q => q))
        exact wpAny_bind (wpAny_mono h5 (fun _ t6 h6 => wpAny_pure (wpAny_pure ⟨rfl, h6⟩)) fun _ _ q => q)
      | some g =>
        rw [hg] at h4
        simp only [hg]
        obtain ⟨ga, gf⟩ := hn g hg
        have gb : (g.is_async != 0) = false := by rw [ga]; rfl
        refine wpAny_bind (wpAny_mono h4 (fun x t5 h5 => ?_) fun _ _ q => q)
        refine wpAny_bind ?_
        refine wpAny_standAt ?_
        simp only [gb, Bool.false_eq_true, if_false]
        refine wpAny_bind (wpAny_of_eq (gf x) (wpAny_bind (wpAny_holding (wpAny_mono h5 (fun j t6 h6 => ?_) fun _ _ q => q))))
        refine wpAny_bind ?_
        refine wpAny_runOwn ?_
        rw [Around.mark_none]
        refine codeAny_mono h6 fun r t7 hr => ?_
        cases r with
        | ok f =>
          first
            | exact wpAny_pure ⟨rfl, hr⟩
            | exact wpAny_bind <| wpAny_pure <| wpAny_pure ⟨rfl, hr⟩
        | error e => exact hr.elim
/-- a clause's start -/
theorem loop_start (hk : gens[k]? = some ⟨tg, iter, ifs, 0⟩) (h0 : codeAny (model prog w) A (.compLoop (.ListComp elt gens scope pos) k it acc env) R s)
    (h : wpAny (model prog w) A (pyIter it) (fun j s' => codeAny (model prog w) A (.compLoop (.ListComp elt gens scope pos) k j acc env) R s') (notedBy (model prog w) A env fun x s' => R (.error x) s') s) :
    codeAny (model prog w) A (.compStart (.ListComp elt gens scope pos) k it acc env) R s := by
  refine codeAny_of_tree ?_
  show wpAny _ _ ((compStart (.ListComp elt gens scope pos) k it acc env).onRaise fun x => do
    noteFrame x env
    standAt theWindowsPlace) _ _ s
  refine wpAny_notedAt ?_
  have hc : (clausesOf (.ListComp elt gens scope pos))[k]? = some ⟨tg, iter, ifs, 0⟩ := hk
  unfold compStart
  simp only [hc]
  refine (show wpAny _ _ (ask >>= _) _ _ s from wpAny_bind (wpAny_askSetting (wpAny_ite ?_)))
  split
  · first
      | exact wpAny_bind <| wpAny_pure <| wpAny_pure ⟨rfl, h0⟩
      | exact wpAny_pure ⟨rfl, h0⟩
  · first
      | exact wpAny_bind (wpAny_rule (wpAny_bind (wpAny_standAt (wpAny_bind (wpAny_mono h (fun j t hj => wpAny_pure (And.intro rfl hj)) fun _ _ q => q)))))
      | (refine wpAny_bind ?_
         refine wpAny_rule ?_
         show wpAny _ _ (standAt iter.pos >>= _) _ _ s
         exact wpAny_bind (wpAny_standAt (wpAny_bind (wpAny_mono h (fun j t hj => wpAny_pure (And.intro rfl hj)) fun _ _ q => q))))
end
/-- what a body of a clause asks: the new list, the slots, the heap, what is to be reached -/
abbrev TBd := Addr → L2.St → Hp → (Hp → Prop) → Prop
def bE (te : TE) : TBd := fun D σ H Nx => te σ H fun y H4 => ∃ acc, H4 D = some (.lst acc) ∧ acc.length < sizeLine ∧ Nx (upd H4 D (.lst (acc ++ [y])))
/-- the turns of a clause: `Z` at its end -/
def tTurns (J : It) (g : TG) (tt : TT) (tb : TBd) (vs : List Nat) (D : Addr) (σ : L2.St) (H1 : Hp) (Z : Hp → Prop) : Prop :=
  ∃ W : Nat → Nat → Hp → Prop, (∃ m, W 0 m H1) ∧ ∀ i m H, W i m H →
    (J.stop i H ∧ Z H) ∨ (J.go i H ∧ ∃ Nx : Hp → Prop, (∀ H', Nx H' → ∃ m', m' < m ∧ W (i + 1) m' H') ∧ ∀ x H', J.yld i H x H' →
      g x (wipe σ vs) H' fun σ2 H2 => wipe σ2 vs = wipe σ vs ∧ tt σ2 H2 fun b H3 => if b = true then tb D σ2 H3 Nx else Nx H3)
def bF (wi : TI) (g : TG) (tt : TT) (tb : TBd) (vs : List Nat) : TBd := fun D σ H Nx => wi σ H fun J H4 => tTurns J g tt tb vs D σ H4 Nx
def tLcB (wi : TI) (g : TG) (tt : TT) (tb : TBd) (vs : List Nat) : TE := fun σ H Q => wi σ H fun J H1 => ∀ D, H1 D = none → tTurns J g tt tb vs D σ (upd H1 D (.lst [])) fun H2 => Q (.ref D) H2
/-- the body behind clause k - 1 -/
structure PBd (Y : Cx) (elt : Expr) (gens : List Comprehension) (scope : Scope) (pos : Pos) (k : Nat) (vs : List Nat) (tb : TBd) : Prop where
  syn : ∀ g, gens[k]? = some g → g.is_async = 0 ∧ ∀ x, foldedSetIterable g.iter Y.env x = pure x
  run : ∀ (D : Addr) (pins : List (Addr × Obj)) (s : Shared) (σ : L2.St) (H : Hp) (Nx : Hp → Prop) (E : Value → Shared → Prop), Inv Y pins σ H s → tb D σ H Nx →
    innW (model Y.prog Y.w) Y.A elt gens scope pos k (.ref D) Y.env E (fun s' => ∃ σ' H', Inv Y pins σ' H' s' ∧ σ'.length = σ.length ∧ (∀ (j : Nat) v, j ∉ vs → σ[j]? = some (some v) → σ'[j]? = some (some v)) ∧ Nx H') s
section
variable {Y : Cx} {elt tg iter : Expr} {ifs : List Expr} {gens : List Comprehension} {scope : Scope} {pos : Pos} {k : Nat}
theorem pb_elt {te : TE} (hx : Y.xe = fun _ _ => False) (hk : gens[k]? = none) (he : PE Y elt te) : PBd Y elt gens scope pos k [] (bE te) where
  syn := fun g hg => by
    rw [hk] at hg
    cases hg
  run := fun D pins s σ H Nx E I h => by
    unfold innW
    rw [hk]
    have z := he.run pins s σ H _ I h
    rw [hx] at z
    refine thnF z fun u s1 h1 => ?_
    obtain ⟨y, H1, I1, r1, acc, hD, hz, nx⟩ := h1
    exact app_ok I1 hD hz r1 fun s2 I2 => ⟨σ, _, I2, rfl, fun _ _ _ e => e, nx⟩
/-- the turns of a clause, from an iterator on -/
theorem turns_run {J : It} {fp : List Addr} {it : Addr} {tn : Nat → Heap → Prop} {g : TG} {tt : TT} {tb : TBd} {vs vs' : List Nat} {D : Addr} {σ : L2.St} {H1 : Hp} {s1 : Shared} {pins : List (Addr × Obj)} {Z : Hp → Prop} {R : Result → Shared → Prop}
    (hx : Y.xe = fun _ _ => False) (hc : Y.calm = true) (hk : gens[k]? = some ⟨tg, iter, ifs, 0⟩) (hg : PG Y tg g) (ht : PTs Y ifs tt) (hv : ∀ i ∈ vs', i ∈ vs) (hb : PBd Y elt gens scope pos (k + 1) vs' tb)
    (T : Turn Y.prog Y.w Y.K tg J fp it tn) (I1 : Inv Y pins (wipe σ vs) H1 s1) (st : tn 0 s1.heap) (fo : ∀ H', (∀ b ∈ fp, H' b = none) → ∀ b ∈ fp, FpOk Y pins H' b) (fn : ∀ b ∈ fp, H1 b = none)
    (hT : tTurns J g tt tb vs D σ H1 Z) (hR : ∀ H' s', Inv Y pins (wipe σ vs) H' s' → Z H' → R (.ok .next) s') :
    codeAny (model Y.prog Y.w) Y.A (.compLoop (.ListComp elt gens scope pos) k (.ref it) (.ref D) Y.env) R s1 := by
  obtain ⟨W, ⟨m0, w0⟩, turn⟩ := hT
  refine loop_turns hk hb.syn (fun n s' => ∃ i H', Inv Y pins (wipe σ vs) H' s' ∧ tn i s'.heap ∧ (∀ b ∈ fp, H' b = none) ∧ W i n H') ?_ m0 ⟨0, H1, I1, st, fn, w0⟩
  intro n s5 inv
  obtain ⟨i, H5, I5, st5, n5, w5⟩ := inv
  unfold turnW
  rcases turn i n H5 w5 with ⟨stop, zz⟩ | ⟨go, Nx, hNx, step⟩
  · refine thnF (T.done Y rfl rfl rfl hc i pins s5 _ H5 (fun _ _ => False) I5 (fo H5 n5) st5 stop) fun r s6 hr => ?_
    obtain ⟨rfl, I6⟩ := hr
    exact hR H5 s6 I6 zz
  · refine thnF (T.item Y rfl rfl rfl hc i pins s5 _ H5 (fun _ _ => False) I5 (fo H5 n5) st5 go) fun r s6 hr => ?_
    obtain ⟨u, rfl, h6⟩ := hr
    refine thnF h6 fun _ s7 h7 => ?_
    obtain ⟨x, H7, I7, r7, y7, st7, n7⟩ := h7
    have J7 := I7.pinned (fo H7 n7) (T.obj _ _ st7)
    have z8 := hg.run _ s7 _ H7 x u _ J7 r7 (step x H7 y7)
    rw [hx] at z8
    refine thnF z8 fun _ s8 h8 => ?_
    obtain ⟨σ8, H8, I8, hw8, q8⟩ := h8
    have z9 := ht.run _ s8 σ8 H8 _ I8 q8
    rw [hx] at z9
    refine thnF z9 fun b s9 h9 => ?_
    obtain ⟨H9, I9, q9⟩ := h9
    have l8 : (wipe σ vs).length = σ8.length := by
      rw [← hw8]
      exact wipe_length σ8 vs
    have k8 : ∀ (j : Nat) v, (wipe σ vs)[j]? = some (some v) → σ8[j]? = some (some v) ∧ j ∉ vs := fun j v e => by
      rw [← hw8] at e
      exact wipe_some e
    have fin : ∀ {σ9 : L2.St} {t : Shared} {H' : Hp}, Inv Y (pins ++ pinsAt fp s7.heap) σ9 H' t → σ9.length = σ8.length → (∀ (j : Nat) v, j ∉ vs' → σ8[j]? = some (some v) → σ9[j]? = some (some v)) → Nx H' →
        ∃ m, m < n ∧ ∃ i H', Inv Y pins (wipe σ vs) H' t ∧ tn i t.heap ∧ (∀ b ∈ fp, H' b = none) ∧ W i m H' := fun {σ9 t H'} I' hl hk nx => by
      rcases hNx H' nx with ⟨m', hm, w'⟩
      have pn : ∀ b ∈ fp, ∀ o, s7.heap.get? b = some o → t.heap.get? b = some o ∧ H' b = none := fun b hb o e =>
        have z := I'.pin (b, o) (List.mem_append_right _ (List.mem_append_right _ (mem_pinsAt hb e)))
        ⟨z.1, z.2.1⟩
      refine ⟨m', hm, i + 1, H', I'.unpinned.weak (l8.trans hl.symm) (fun j v e => hk j v (fun c => (k8 j v e).2 (hv j c)) (k8 j v e).1), T.keep _ _ _ st7 (fun b hb o e => (pn b hb o e).1), fun b hb => ?_, w'⟩
      exact (T.obj _ _ st7 b hb).elim fun o z => (pn b hb o z.1).2
    cases b with
    | false =>
      have q9 : Nx H9 := q9
      exact fin I9 rfl (fun _ _ _ e => e) q9
    | true =>
      have q9 : tb D σ8 H9 Nx := q9
      have z := hb.run D _ s9 σ8 H9 Nx (notedBy (model Y.prog Y.w) Y.A Y.env fun e s' => R (.error e) s') I9 q9
      show innW _ _ _ _ _ _ _ _ _ _ _ _
      unfold innW at z ⊢
      cases hq : gens[k + 1]? with
      | none =>
        rw [hq] at z
        exact wpAny_mono z (fun x t1 h1 => wpAny_mono h1 (fun _ t2 h2 => by
          obtain ⟨σ', H', I', a, b, c⟩ := h2
          exact fin I' a b c) fun _ _ e => e) fun _ _ e => e
      | some g' =>
        rw [hq] at z
        exact wpAny_mono z (fun x t1 h1 => wpAny_mono h1 (fun _ t2 h2 => codeAny_mono h2 fun r t3 h3 => by
          cases r with
          | ok f =>
            obtain ⟨σ', H', I', a, b, c⟩ := h3
            exact fin I' a b c
          | error e => exact h3) fun _ _ e => e) fun _ _ e => e
theorem pb_for {wi : TI} {g : TG} {tt : TT} {tb : TBd} {vs vs' : List Nat} (hx : Y.xe = fun _ _ => False) (hc : Y.calm = true) (hk : gens[k]? = some ⟨tg, iter, ifs, 0⟩) (hi : PI Y tg iter wi) (hg : PG Y tg g) (ht : PTs Y ifs tt) (hv : ∀ i ∈ vs', i ∈ vs)
    (hb : PBd Y elt gens scope pos (k + 1) vs' tb) (hs : ∀ x, foldedSetIterable iter Y.env x = pure x := by intro _; rfl) : PBd Y elt gens scope pos k vs (bF wi g tt tb vs) where
  syn := fun g hg => by
    rw [hk] at hg
    obtain rfl := Option.some.inj hg
    exact ⟨rfl, hs⟩
  run := fun D pins s σ H Nx E I h => by
    unfold innW
    rw [hk]
    have z := hi.run pins s σ H _ I h
    rw [hx] at z
    refine thnF z fun u s1 h1 => thnF h1 fun itv s2 h2 => ?_
    rcases h2 with ⟨it, fp, tn, J, H2, rfl, I2, T, st2, f2, q⟩
    have lp := turns_run (s1 := s2) (Z := Nx) (R := fun r s3 => match r with
      | .ok _ => ∃ σ' H', Inv Y pins σ' H' s3 ∧ σ'.length = σ.length ∧ (∀ (j : Nat) v, j ∉ vs → σ[j]? = some (some v) → σ'[j]? = some (some v)) ∧ Nx H'
      | .error _ => False) hx hc hk hg ht hv hb T (I2.weak (wipe_length _ _) fun j v e => (wipe_some e).1) st2 (fun H' hn b hb => ⟨hn b hb, (f2 b hb).2⟩) (fun b hb => (f2 b hb).1) q
      fun H' s' I' zz => ⟨wipe σ vs, H', I', wipe_length _ _, fun j v hj e => by rw [wipe_out hj]; exact e, zz⟩
    exact loop_start hk lp (T.self Y.A 0 _ _ _ st2 lp)
end
section
variable {X : Cx} {elt tg iter : Expr} {ifs : List Expr} {gr : List Comprehension} {scope : Scope} {pos : Pos}
theorem lcB_core {pins : List (Addr × Obj)} {s : Shared} {σ : L2.St} {H : Hp} {Q : VK} {own : List (Str × Nat)} {vs' : List Nat} {pos' : Pos} {wi : TI} {g : TG} {tt : TT} {tb : TBd} {use : Option (Value → Sem Unit)} {Qf : Value → Shared → Prop}
    (hc : X.calm = true) (hN : X.N.Nodup) (I : Inv X pins σ H s) (hi : PI X tg iter wi) (ok : BlkOk X.N X.env.scope scope own) (hv : ∀ i ∈ vs', i ∈ own.map (·.2))
    (hg : ∀ (s : Shared) (H : Hp) (C : Addr) (cl : List (Str × Addr)) (fp : List Addr), PG (X.blk s H scope (compEnvC scope cl C X.env) fp) tg g)
    (ht : ∀ (s : Shared) (H : Hp) (C : Addr) (cl : List (Str × Addr)) (fp : List Addr), PTs (X.blk s H scope (compEnvC scope cl C X.env) fp) ifs tt)
    (hb : ∀ (s : Shared) (H : Hp) (C : Addr) (cl : List (Str × Addr)) (fp : List Addr), PBd (X.blk s H scope (compEnvC scope cl C X.env) fp) elt (⟨tg, iter, ifs, 0⟩ :: gr) scope pos 1 vs' tb)
    (hs : ∀ x, foldedSetIterable iter X.env x = pure x) (h : tLcB wi g tt tb (own.map (·.2)) σ H Q)
    (hRR : ∀ (D C : Addr) (s' : Shared) (m : Str → Option Value) (H' : Hp), Inv X pins σ H' s' → Q (.ref D) H' → s'.heap.Ns C m → FpOk X pins H' C → compPost (model X.prog X.w) X.A X.xe use Qf (.ref D) C (.ok .next) s') :
    wpAny (model X.prog X.w) X.A (comprehension (.ListComp elt (⟨tg, iter, ifs, 0⟩ :: gr) scope pos) scope X.env pos' (newList []) false (eval iter X.env) use) Qf X.xe s := by
  have fr : ∀ y ∈ scope.names, y.2 = .free → ∃ c, X.env.cells.lookup y.1 = some c := fun y hy e => (ok.free y hy e).elim (fun z => I.ok.has _ (.inl z)) fun z => I.ok.has _ (.inr z)
  refine wpAny_comprehension_free (use := use) rfl hs (closure_ok fr) ok.kind (fun y hy e => (by rw [ok.uniq y hy, e] : scope.names.lookup y.1 = some .local)) ?_
  refine thn (hi.run pins s σ H _ I h) fun u t1 h1 => thn h1 fun itv t2 h2 => ?_
  rcases h2 with ⟨it, fp, tn, J, H2, rfl, I2, T, st2, f2, q⟩
  refine wpAny_newObj_type (newEnv_comp ?_) (Nat.zero_le _)
  generalize eD : t2.heap.objs.size = D
  have nD : H2 D = none := I2.hok.fresh (Nat.le_of_eq eD)
  have qT := q D nD
  generalize e3 : ({ t2 with heap := t2.heap.push { cls := .type "list", data := .seq ([] : List Value).toArray } } : Shared) = t3
  have hp3 : t3.heap = t2.heap.push { cls := .type "list", data := .seq ([] : List Value).toArray } := by rw [← e3]
  have I3 : Inv X pins σ (upd H2 D (.lst [])) t3 := by
    rw [← e3]
    refine I2.laid (t' := t2.toks) (fun b o e => Heap.get?_push_of_some _ e) (Nat.le_of_eq eD) ⟨Nat.zero_le _, [], 0, .nil, ?_⟩
    exact eD ▸ Heap.get?_push_size _ rfl
  have lt2 : ∀ b ∈ fp, b < t2.heap.objs.size := fun b hb => (T.obj _ _ st2 b hb).elim fun o z => Heap.lt_size z.1
  have f3 : ∀ b ∈ fp, FpOk X pins (upd H2 D (.lst [])) b ∧ b < t3.heap.objs.size := fun b hb =>
    ⟨⟨by rw [upd_ne (by rw [← eD]; exact Nat.ne_of_lt (lt2 b hb))]; exact (f2 b hb).1, (f2 b hb).2⟩, by rw [hp3, Heap.size_push]; exact Nat.lt_succ_of_lt (lt2 b hb)⟩
  have st3 : tn 0 t3.heap := T.keep _ _ _ st2 fun b _ o e => hp3 ▸ Heap.get?_push_of_some _ e
  have I4 := block_start (X := X) (pins := pins) I3 ok hN f3
  generalize ecl : cellsFrom (t3.heap.objs.size + 1) scope.names (cloFrom X.env.cells scope.names []) = cl at I4
  generalize e4 : ({ t3 with heap := pushCells (t3.heap.push { cls := .type "dict", data := .dict #[] }) scope.names } : Shared) = t4 at I4
  have st4 : tn 0 t4.heap := T.keep _ _ _ st3 fun b _ o e => by
    rw [← e4]
    exact pushCells_keeps _ _ _ _ (Heap.get?_push_of_some _ e)
  have pg := hg t3 (upd H2 D (.lst [])) t3.heap.objs.size cl fp
  have pt := ht t3 (upd H2 D (.lst [])) t3.heap.objs.size cl fp
  have pb := hb t3 (upd H2 D (.lst [])) t3.heap.objs.size cl fp
  have lp := turns_run (Y := X.blk t3 (upd H2 D (.lst [])) scope (compEnvC scope cl t3.heap.objs.size X.env) fp) (s1 := t4) (pins := []) (Z := fun H' => Q (.ref D) H') (R := compPost (model X.prog X.w) X.A X.xe use Qf (.ref D) t3.heap.objs.size) rfl hc rfl pg pt hv pb T I4 st4
    (fun H' hn b hb => ⟨hn b hb, (I4.ok.exf b hb).1, I4.ok.exfs b hb, .inl hb, fun x c e => (I4.ok.exf b hb).2 x c e, fun p hp => absurd hp List.not_mem_nil⟩) (fun b hb => (f3 b hb).1.1) qT
    fun H5 s6 I6 zz => by
      have I7 : Inv X pins σ H5 s6 := I3.call' (ch := fp) I6.os I6.base I6.hok I6.bare fun b hb =>
        have z := (f3 b hb).1.2
        ⟨z.2.2.1, z.1, z.2.2.2.1, z.2.2.2.2⟩
      obtain ⟨m, hn, _⟩ := I6.loc
      exact hRR D t3.heap.objs.size s6 m H5 I7 zz hn (I3.fpOk (Nat.le_refl _) I6.free)
  subst eD e4 ecl
  exact codeAny_compStart_list lp (T.self X.A 0 _ _ _ st4 lp)
/-- as a value -/
theorem pe_lcB {own : List (Str × Nat)} {vs' : List Nat} {wi : TI} {g : TG} {tt : TT} {tb : TBd} (hc : X.calm = true) (hN : X.N.Nodup) (hi : PI X tg iter wi) (ok : BlkOk X.N X.env.scope scope own) (hv : ∀ i ∈ vs', i ∈ own.map (·.2))
    (hg : ∀ (s : Shared) (H : Hp) (C : Addr) (cl : List (Str × Addr)) (fp : List Addr), PG (X.blk s H scope (compEnvC scope cl C X.env) fp) tg g)
    (ht : ∀ (s : Shared) (H : Hp) (C : Addr) (cl : List (Str × Addr)) (fp : List Addr), PTs (X.blk s H scope (compEnvC scope cl C X.env) fp) ifs tt)
    (hb : ∀ (s : Shared) (H : Hp) (C : Addr) (cl : List (Str × Addr)) (fp : List Addr), PBd (X.blk s H scope (compEnvC scope cl C X.env) fp) elt (⟨tg, iter, ifs, 0⟩ :: gr) scope pos 1 vs' tb) (hs : ∀ x, foldedSetIterable iter X.env x = pure x := by intro _; rfl) :
    PE X (.ListComp elt (⟨tg, iter, ifs, 0⟩ :: gr) scope pos) (tLcB wi g tt tb (own.map (·.2))) := by
  constructor
  intro pins s σ H Q I h
  rw [eval_ListComp]
  refine lcB_core hc hN I hi ok hv hg ht hb hs h fun D C s' m H' I' q hn f => ⟨m, hn, fun h2 sb => ?_⟩
  exact ⟨.ref D, H', I'.turned (t' := s'.toks) (fun b o hb e => (sb.2 b hb).trans e) f.1 f.2.1 f.2.2.2.1 f.2.2.2.2.1 f.2.2.2.2.2, rfl, q⟩
end
end Lw

namespace Lw
open PySem.Spec PySem L2 PyProof.Rows
open Evl (Ex Ex.refl Ex.trans Ex.new Ex.off ex_rd ex_l ex_t)
section
variable {K : Fg} {B : Bg} {G G' H : Hp} {σ : L2.St} {te ta : TE} {tr : TA} {tt : TT} {tb : TBd} {d : PyData} {ds es new : List PyData}
/-- a body that appends `new` -/
def EvBd (K : Fg) (B : Bg) (tb : TBd) (σ : L2.St) (G : Hp) (new : List PyData) : Prop :=
  ∀ (D : Addr) (G1 H1 G3 H3 : Hp) (xs : List V) (es : List PyData) (Nx : Hp → Prop), Ex G G3 → Cel K B G → H1 D = none → ¬ isB B D → Ext K B G1 H1 G3 H3 → G3 D = none → H3 D = some (.lst xs) → DpAll K G3 xs es → es.length + new.length ≤ 100000 →
    (∀ G4 H4 ys, Ext K B G1 H1 G4 H4 → Ex G3 G4 → G4 D = none → H4 D = some (.lst ys) → DpAll K G4 ys (es ++ new) → Nx H4) → tb D σ H3 Nx
theorem EvBd.is {m : List PyData} (h : EvBd K B tb σ G new) (e : new = m) : EvBd K B tb σ G m := e ▸ h
theorem EvBd.mono (e : Ex G G') (c : Cel K B G) (h : EvBd K B tb σ G new) : EvBd K B tb σ G' new := fun D G1 H1 G3 H3 xs es Nx e3 _ => h D G1 H1 G3 H3 xs es Nx (e.trans e3) c
theorem bd_E (h : EvD K B te σ G d) : EvBd K B (bE te) σ G [d] := fun D G1 H1 G3 H3 xs es Nx e3 c hD nb X g3 h3 hx hl k => by
  refine h.mono e3 c H3 X.ok _ fun y G5 H5 X5 dy => ?_
  have h5 := X5.hh D _ nb h3
  have g5 := X5.fr D _ h3 g3
  have z : es.length + 1 ≤ 100000 := hl
  refine ⟨xs, h5, by rw [dpAll_len hx]; exact szl (by omega), ?_⟩
  have Y := X.trans X5
  refine k G5 _ (xs ++ [y]) ⟨Y.gg, fun a u n q => ?_, Y.fr, Y.ok.mut g5 nb⟩ X5.gg g5 upd_same (dpAll_app (dpAll_mono X5.gg hx) (.cons dy .nil))
  rw [upd_ne (ne_of_none q hD)]
  exact Y.hh a u n q
/-- a test ahead of it -/
theorem bd_T {b : Bool} (ht : EvB K B tt σ G b) (h : b = true → EvBd K B tb σ G new) (hn : b = false → new = []) : EvBd K B (fun D σ H Nx => tt σ H fun c H3 => if c = true then tb D σ H3 Nx else Nx H3) σ G new := fun D G1 H1 G3 H3 xs es Nx e3 c hD nb X g3 h3 hx hl k => by
  refine ht.mono e3 c H3 X.ok _ fun G4 H4 X4 => ?_
  have g4 := X4.fr D _ h3 g3
  have h4 := X4.hh D _ nb h3
  have a4 := dpAll_mono X4.gg hx
  cases b with
  | false =>
    show (if false = true then _ else _)
    rw [ifF]
    refine k G4 H4 xs (X.trans X4) X4.gg g4 h4 ?_
    rw [hn rfl, List.append_nil]
    exact a4
  | true =>
    refine (show (if true = true then _ else _) from ?_)
    rw [if_pos rfl]
    exact h rfl D G1 H1 G4 H4 xs es Nx (e3.trans X4.gg) c hD nb (X.trans X4) g4 h4 a4 hl fun G5 H5 ys X5 e5 => k G5 H5 ys X5 (X4.gg.trans e5)
theorem wipe_set {i : Nat} {v : V} : ∀ {vs : List Nat} {σ : L2.St}, i ∈ vs → wipe ((wipe σ vs).set i (some v)) vs = wipe σ vs := by
  intro vs σ hi
  apply List.ext_getElem?
  intro j
  by_cases c : j ∈ vs
  · have z : ∀ {us : List Nat} {τ : L2.St}, j ∈ us → (wipe τ us)[j]? = if j < τ.length then some none else none := by
      intro us
      induction us with
      | nil => intro τ h; cases h
      | cons u us ih =>
        intro τ h
        unfold wipe
        by_cases e : u = j
        · subst e
          rw [List.getElem?_set]
          rw [if_pos rfl, wipe_length]
        · rw [List.getElem?_set_ne e]
          exact ih ((List.mem_cons.mp h).resolve_left fun q => e q.symm)
    rw [z c, z c, List.length_set, wipe_length]
  · rw [wipe_out c, wipe_out c, List.getElem?_set_ne (fun e : i = j => c (by rw [← e]; exact hi)), wipe_out c]
theorem turns_range {n i : Nat} {vs : List Nat} {D : Addr} {H1 : Hp} {Z : Hp → Prop} (Pv : Nat → Hp → Prop) (hi : i ∈ vs) (h0 : Pv 0 H1)
    (hs : ∀ (j : Nat) H, j < n → Pv j H → (tt ((wipe σ vs).set i (some (.int (j : Int)))) H fun b H3 => if b = true then tb D ((wipe σ vs).set i (some (.int (j : Int)))) H3 (Pv (j + 1)) else Pv (j + 1) H3)) (hd : ∀ H, Pv n H → Z H) :
    tTurns (Itr 0 n) (gName i) tt tb vs D σ H1 Z := by
  refine ⟨fun j m H => m = n - j ∧ j ≤ n ∧ Pv j H, ⟨n, by omega, Nat.zero_le _, h0⟩, ?_⟩
  rintro j m H ⟨rfl, hj, p⟩
  by_cases c : j < n
  · refine .inr ⟨c, Pv (j + 1), fun H' p' => ⟨n - (j + 1), by omega, rfl, c, p'⟩, fun x H' y => ?_⟩
    obtain ⟨rfl, rfl⟩ := y
    rw [Int.zero_add]
    exact ⟨wipe_set hi, hs j _ c p⟩
  · obtain rfl : j = n := by omega
    exact .inl ⟨Nat.le_refl j, hd H p⟩
theorem flat_one {α β : Type} (f : Nat → List β) (j : Nat) : (List.range (j + 1)).flatMap f = (List.range j).flatMap f ++ f j := by
  rw [List.range_succ, List.flatMap_append, List.flatMap_cons, List.flatMap_nil, List.append_nil]
theorem flat_len {β : Type} (f : Nat → List β) {j n : Nat} (h : j ≤ n) : ((List.range j).flatMap f).length ≤ ((List.range n).flatMap f).length := by
  obtain ⟨m, rfl⟩ := Nat.exists_eq_add_of_le h
  rw [List.range_add, List.flatMap_append, List.length_append]
  omega
/-- for x in range(n) if t, within -/
theorem bd_R {i n : Nat} {vs : List Nat} {b : Nat → Bool} {f : Nat → List PyData} (ha : EvA K B tr σ G [.int (n : Int)]) (hi : i ∈ vs)
    (ht : ∀ j, j < n → EvB K B tt ((wipe σ vs).set i (some (.int (j : Int)))) G (b j)) (hb : ∀ j, j < n → b j = true → EvBd K B tb ((wipe σ vs).set i (some (.int (j : Int)))) G (f j)) (hn : ∀ j, j < n → b j = false → f j = []) (hm : n ≤ 100000) :
    EvBd K B (bF (iRng1 tr) (gName i) tt tb vs) σ G ((List.range n).flatMap f) := fun D G1 H1 G3 H3 xs es Nx e3 c hD nb X g3 h3 hx hl k => by
  refine ha.mono e3 c H3 X.ok _ fun us G4 H4 X4 dv => ?_
  have ev : us = [.int (n : Int)] := by
    cases dv with
    | cons h a =>
      cases a
      rw [dp_int h]
  refine ⟨(n : Int), ev, by omega, by omega, ?_⟩
  show tTurns (Itr 0 (n : Int).toNat) (gName i) tt tb vs D σ H4 Nx
  rw [Int.toNat_natCast]
  refine turns_range (fun j H' => ∃ G' ys, Ext K B G1 H1 G' H' ∧ Ex G3 G' ∧ G' D = none ∧ H' D = some (.lst ys) ∧ DpAll K G' ys (es ++ (List.range j).flatMap f)) hi ⟨G4, xs, X.trans X4, X4.gg, X4.fr D _ h3 g3, X4.hh D _ nb h3, ?_⟩ ?_ ?_
  · rw [List.range_zero, List.flatMap_nil, List.append_nil]
    exact dpAll_mono X4.gg hx
  · rintro j H' hj ⟨G', ys, X', e', g', h', a'⟩
    have lj := flat_len f (show j + 1 ≤ n from hj)
    rw [flat_one (α := Nat), List.length_append] at lj
    refine bd_T (ht j hj) (hb j hj) (hn j hj) D G1 H1 G' H' ys _ _ (e3.trans e') c hD nb X' g' h' a' (by rw [List.length_append]; omega) fun G5 H5 zs X5 e5 g5 h5 a5 => ⟨G5, zs, X5, e'.trans e5, g5, h5, ?_⟩
    rw [flat_one (α := Nat), ← List.append_assoc]
    exact a5
  · rintro H' ⟨G', ys, X', e', g', h', a'⟩
    exact k G' H' ys X' e' g' h' a'
/-- [.. for x in range(n) if t ..] -/
theorem ef_lcBR {i n : Nat} {vs : List Nat} {b : Nat → Bool} {f : Nat → List PyData} (ha : EvA K B tr σ G [.int (n : Int)]) (hi : i ∈ vs)
    (ht : ∀ j, j < n → EvB K B tt ((wipe σ vs).set i (some (.int (j : Int)))) G (b j)) (hb : ∀ j, j < n → b j = true → EvBd K B tb ((wipe σ vs).set i (some (.int (j : Int)))) G (f j)) (hn : ∀ j, j < n → b j = false → f j = []) (hm : n ≤ 100000) (hl : ((List.range n).flatMap f).length ≤ 100000) :
    EvF K B (tLcB (iRng1 tr) (gName i) tt tb vs) σ G ((List.range n).flatMap f) := fun H e Q q =>
  ha H e _ fun us G1 H1 X dv => by
    have ev : us = [.int (n : Int)] := by
      cases dv with
      | cons h a =>
        cases a
        rw [dp_int h]
    refine ⟨(n : Int), ev, by omega, by omega, fun D hD => ?_⟩
    have nb := X.ok.b.ne hD
    show tTurns (Itr 0 (n : Int).toNat) (gName i) tt tb vs D σ (upd H1 D (.lst [])) _
    rw [Int.toNat_natCast]
    refine turns_range (fun j H' => ∃ G' ys, Ext K B G1 H1 G' H' ∧ G' D = none ∧ H' D = some (.lst ys) ∧ DpAll K G' ys ((List.range j).flatMap f)) hi ⟨G1, [], Ext.loose X.ok hD, X.ok.e.off hD, upd_same, .nil⟩ ?_ ?_
    · rintro j H' hj ⟨G', ys, X', g', h', a'⟩
      have lj := flat_len f (show j + 1 ≤ n from hj)
      rw [flat_one (α := Nat), List.length_append] at lj
      refine bd_T (ht j hj) (hb j hj) (hn j hj) D G1 H1 G' H' ys _ _ (X.gg.trans X'.gg) e.c hD nb X' g' h' a' (by omega) fun G5 H5 zs X5 e5 g5 h5 a5 => ⟨G5, zs, X5, g5, h5, ?_⟩
      rw [flat_one (α := Nat)]
      exact a5
    · rintro H' ⟨G', ys, X', g', h', a'⟩
      exact q D ys G' H' (X.trans X') (X.old nb hD) g' nb h' a'
variable {D : Ends} {t : TS}
end
end Lw

namespace Lw
open PySem.Spec PySem L2 PyProof.Rows
open Evl (Ex Ex.refl Ex.trans Ex.new Ex.off ex_rd ex_l ex_t)
/-! ### the round of x -> 5 x + 1 by any power of two -/
def gS : Nat → Nat
  | 0 => 0
  | b + 1 => gS b * 5 + 1
theorem gS_lcg (m : Nat) : ∀ b, lcgN m b = gS b % (m + 1)
  | 0 => (Nat.zero_mod _).symm
  | b + 1 => by
    show (lcgN m b * 5 + 1) % (m + 1) = (gS b * 5 + 1) % (m + 1)
    rw [gS_lcg m b, Nat.add_mod, Nat.mul_mod, Nat.mod_mod, ← Nat.mul_mod, ← Nat.add_mod]
theorem gS_add (a : Nat) : ∀ b, gS (a + b) = gS b * (4 * gS a + 1) + gS a
  | 0 => by
    show gS a = 0 * _ + gS a
    omega
  | b + 1 => by
    show gS (a + b) * 5 + 1 = (gS b * 5 + 1) * (4 * gS a + 1) + gS a
    rw [gS_add a b, Nat.add_mul, Nat.add_mul, Nat.mul_assoc, Nat.mul_comm _ 5, ← Nat.mul_assoc, Nat.mul_assoc (gS b) 5, ← Nat.mul_comm 5]
    have e : gS b * (5 * (4 * gS a + 1)) = 5 * (gS b * (4 * gS a + 1)) := by rw [← Nat.mul_assoc, ← Nat.mul_assoc, Nat.mul_comm (gS b) 5]
    generalize gS b * (4 * gS a + 1) = q at *
    omega
theorem gS_two : ∀ n, ∃ o, gS (2 ^ n) = 2 ^ n * (2 * o + 1)
  | 0 => ⟨0, rfl⟩
  | n + 1 => by
    obtain ⟨o, e⟩ := gS_two n
    have e2 : 2 ^ (n + 1) = 2 ^ n + 2 ^ n := by rw [Nat.pow_succ]; omega
    refine ⟨2 * o * gS (2 ^ n) + o + gS (2 ^ n), ?_⟩
    rw [e2, gS_add]
    generalize hg : gS (2 ^ n) = g at e ⊢
    have e3 : g * (4 * g + 1) + g = g * (2 * (2 * g + 1)) := by
      rw [show 2 * (2 * g + 1) = 4 * g + 1 + 1 by omega, Nat.mul_add g (4 * g + 1) 1, Nat.mul_one]
    rw [e3]
    conv => lhs; rw [e]
    rw [Nat.mul_assoc]
    have e4 : (2 * o + 1) * (2 * (2 * g + 1)) = 2 * (2 * (2 * o * g + o + g) + 1) := by
      rw [Nat.add_mul, Nat.mul_add, Nat.mul_add]
      have : 2 * o * (2 * (2 * g)) = 4 * (2 * o * g) := by
        rw [show 2 * (2 * g) = 4 * g by omega, ← Nat.mul_assoc, Nat.mul_comm (2 * o) 4, Nat.mul_assoc]
      omega
    have e5 : (2 * o + 1) * (2 * (2 * (2 ^ n * (2 * o + 1)) + 1)) = (2 * o + 1) * (2 * (2 * g + 1)) := by rw [← e]
    rw [show 2 ^ n + 2 ^ n = 2 ^ n * 2 by omega, Nat.mul_assoc]
    first
      | rw [e4]
      | (rw [e5, e4])
theorem gS_full : ∀ n j, j < 2 ^ n → ∃ b, b < 2 ^ n ∧ gS b % 2 ^ n = j
  | 0, j, h => ⟨0, by decide, by
    have : j = 0 := by omega
    rw [this]
    rfl⟩
  | n + 1, j, h => by
    have e2 : 2 ^ (n + 1) = 2 ^ n + 2 ^ n := by rw [Nat.pow_succ]; omega
    have pos : 0 < 2 ^ n := Nat.pow_pos (by decide)
    obtain ⟨b, hb, e⟩ := gS_full n (j % 2 ^ n) (Nat.mod_lt _ pos)
    obtain ⟨o, eo⟩ := gS_two n
    have e6 : gS (2 ^ n + b) = gS b + 2 ^ n + (2 ^ n + 2 ^ n) * (2 * gS b * (2 * o + 1) + o) := by
      rw [gS_add, eo, Nat.mul_add, Nat.mul_one]
      have a1 : gS b * (4 * (2 ^ n * (2 * o + 1))) = (2 ^ n + 2 ^ n) * (2 * gS b * (2 * o + 1)) := by
        rw [show 2 ^ n + 2 ^ n = 2 * 2 ^ n by omega]
        generalize 2 ^ n = p
        generalize 2 * o + 1 = r
        generalize gS b = g
        have l1 : g * (4 * (p * r)) = 4 * (p * (g * r)) := by
          rw [Nat.mul_left_comm g 4, Nat.mul_left_comm g p]
        have l2 : 2 * p * (2 * g * r) = 4 * (p * (g * r)) := by
          rw [Nat.mul_assoc 2 g, Nat.mul_assoc 2 p, Nat.mul_left_comm p 2, ← Nat.mul_assoc 2 2]
        rw [l1, l2]
      have a2 : 2 ^ n * (2 * o + 1) = 2 ^ n + (2 ^ n + 2 ^ n) * o := by
        rw [Nat.mul_add, Nat.mul_one, Nat.add_mul, ← Nat.mul_assoc, Nat.mul_comm (2 ^ n) 2, show 2 * 2 ^ n = 2 ^ n + 2 ^ n by omega, Nat.add_mul]
        omega
      rw [a1, a2, Nat.mul_add (2 ^ n + 2 ^ n)]
      omega
    have mo : ∀ x : Nat, x < 2 ^ n + 2 ^ n → x % 2 ^ n = if x < 2 ^ n then x else x - 2 ^ n := fun x hx => by
      split
      · rename_i c
        exact Nat.mod_eq_of_lt c
      · rename_i c
        rw [Nat.mod_eq_sub_mod (by omega), Nat.mod_eq_of_lt (by omega)]
    have hr : gS b % (2 ^ n + 2 ^ n) < 2 ^ n + 2 ^ n := Nat.mod_lt _ (by omega)
    have er : gS b % (2 ^ n + 2 ^ n) % 2 ^ n = j % 2 ^ n := by
      rw [Nat.mod_mod_of_dvd _ ⟨2, by omega⟩, e]
    rw [e2] at h
    rw [mo _ hr, mo j h] at er
    rw [e2]
    by_cases c : gS b % (2 ^ n + 2 ^ n) = j
    · exact ⟨b, by omega, c⟩
    · refine ⟨2 ^ n + b, by omega, ?_⟩
      rw [e6, Nat.add_mul_mod_self_left, Nat.add_mod, Nat.mod_eq_of_lt (show 2 ^ n < 2 ^ n + 2 ^ n by omega)]
      generalize gS b % (2 ^ n + 2 ^ n) = r at *
      by_cases c1 : r < 2 ^ n
      · rw [if_pos c1] at er
        by_cases c2 : j < 2 ^ n
        · rw [if_pos c2] at er
          exact absurd er c
        · rw [if_neg c2] at er
          rw [Nat.mod_eq_of_lt (by omega)]
          omega
      · rw [if_neg c1] at er
        by_cases c2 : j < 2 ^ n
        · rw [if_pos c2] at er
          rw [Nat.mod_eq_sub_mod (by omega), Nat.mod_eq_of_lt (by omega)]
          omega
        · rw [if_neg c2] at er
          omega
/-- the masks that come -/
def Msk (m : Nat) : Prop := ∃ n, 3 ≤ n ∧ n ≤ 13 ∧ m + 1 = 2 ^ n
theorem Msk.le {m : Nat} (h : Msk m) : 7 ≤ m ∧ m ≤ 8191 := by
  obtain ⟨n, h3, h13, e⟩ := h
  have a : 2 ^ 3 ≤ 2 ^ n := Nat.pow_le_pow_right (by decide) h3
  have b : 2 ^ n ≤ 2 ^ 13 := Nat.pow_le_pow_right (by decide) h13
  omega
theorem Msk.all {m : Nat} (h : Msk m) {i j : Nat} (hi : i ≤ m) (hj : j ≤ m) : ∃ k, k ≤ m ∧ lcgI m i k = j := by
  obtain ⟨n, _, _, e⟩ := h
  have one : ∀ j, j ≤ m → ∃ b, b ≤ m ∧ lcgN m b = j := fun j hj => by
    obtain ⟨b, hb, eb⟩ := gS_full n j (by omega)
    exact ⟨b, by omega, by rw [gS_lcg, e]; exact eb⟩
  have round : lcgN m (m + 1) = 0 := by
    obtain ⟨o, eo⟩ := gS_two n
    rw [gS_lcg, e, eo]
    exact Nat.mul_mod_right _ _
  have turn : ∀ k, lcgN m (m + 1 + k) = lcgN m k := fun k => by
    rw [← lcgN_add, round]
    have z := lcgN_add m 0 k
    rw [Nat.zero_add] at z
    exact z
  obtain ⟨a, ha, ea⟩ := one i hi
  obtain ⟨b, hb, eb⟩ := one j hj
  rw [← ea]
  by_cases c : a ≤ b
  · exact ⟨b - a, by omega, by rw [lcgN_add, show a + (b - a) = b by omega]; exact eb⟩
  · exact ⟨m + 1 + b - a, by omega, by rw [lcgN_add, show a + (m + 1 + b - a) = m + 1 + b by omega, turn]; exact eb⟩
theorem Msk.run {m : Nat} (hm : Msk m) (h : Int) {j : Nat} (hj : j ≤ m) : ∃ n, n ≤ m + 12 ∧ runI m (SetTable.bits h) n = j := by
  obtain ⟨k, hk, e⟩ := hm.all (runI_le m (SetTable.bits h) 12) hj
  exact ⟨12 + k, by omega, (runI_tail (bits_lt h) k).trans e⟩
theorem Msk.way {m : Nat} (hm : Msk m) (h : Int) {j : Nat} (hj : j ≤ m) : ∃ k, k < 10 * SetTable.turns m ∧ way m h k = j := by
  obtain ⟨n, hn, e⟩ := hm.run h hj
  rcases run_nth m (SetTable.bits h) n with ⟨k, hk, e2⟩
  refine ⟨k, Nat.lt_of_le_of_lt hk (by unfold SetTable.turns; omega), ?_⟩
  show (nth m (runAt m (SetTable.bits h % (m + 1)) (SetTable.bits h)) k).j = j
  rw [e2]
  exact e
theorem way_bd (m : Nat) (h : Int) (k : Nat) : way m h k ≤ m := by
  have b0 : SetTable.bits h % (m + 1) ≤ m := Nat.le_of_lt_succ (Nat.mod_lt _ (Nat.succ_pos _))
  have z := nth_in (m := m) k (runAt m (SetTable.bits h % (m + 1)) (SetTable.bits h)) (by
    have r := runEnd_bd b0
    refine (show SetTable.bits h % (m + 1) + (SetTable.runEnd m (SetTable.bits h % (m + 1)) - SetTable.bits h % (m + 1)) ≤ m from ?_)
    omega)
  exact Nat.le_trans (Nat.le_add_right _ _) z
/-! ### the table: each item is found again from its hash -/
structure Tb (t : SetTable) (hs : List Int) : Prop where
  up : Ris t.place.toList
  no : t.dummies = #[]
  ln : t.place.size = hs.length
  le : ∀ j ∈ t.place.toList, j ≤ t.mask
  to : ∀ (i : Nat) (h : Int) (j : Nat), hs[i]? = some h → t.place.toList[i]? = some j → ∃ k, way t.mask h k = j ∧ ∀ c, c < k → way t.mask h c ∈ t.place.toList
section
variable {t : SetTable} {hs : List Int}
theorem Tb.len (T : Tb t hs) : t.place.toList.length = hs.length := by
  rw [Array.length_toList]
  exact T.ln
/-- what has that hash stands ahead of it -/
theorem Tb.ahead (T : Tb t hs) {h : Int} {K i : Nat} (hK : way t.mask h K ∉ t.place.toList) (hi : hs[i]? = some h) : ∃ c, c < K ∧ t.place.toList[i]? = some (way t.mask h c) := by
  have li : i < t.place.toList.length := by
    rw [T.len]
    exact (List.getElem?_eq_some_iff.mp hi).1
  have ej := List.getElem?_eq_getElem li
  obtain ⟨c, e, b⟩ := T.to i h _ hi ej
  refine ⟨c, Classical.byContradiction fun z => ?_, by rw [ej, e]⟩
  rcases Nat.lt_or_ge K c with q | q
  · exact hK (b K q)
  · obtain rfl : c = K := by omega
    rw [e] at hK
    exact hK (List.mem_of_getElem? ej)
theorem Tb.put (T : Tb t hs) {h : Int} {K : Nat} (hK : way t.mask h K ∉ t.place.toList) (hb : ∀ c, c < K → way t.mask h c ∈ t.place.toList) :
    SetTable.below t.place (way t.mask h K) ≤ hs.length ∧ Tb (t.put (way t.mask h K)).1 (hs.take (SetTable.below t.place (way t.mask h K)) ++ h :: hs.drop (SetTable.below t.place (way t.mask h K))) ∧ (t.put (way t.mask h K)).1.fill = hs.length + 1 := by
  have hj := way_bd t.mask h K
  generalize ej : way t.mask h K = j at hK hj ⊢
  have cut := (below_cut T.up j).1
  have p1 : SetTable.below t.place j ≤ t.place.toList.length := by
    rw [Array.length_toList]
    exact cut
  have p2 : SetTable.below t.place j ≤ hs.length := by
    rw [← T.len]
    exact p1
  have pl := put_place t j
  have sz : (t.put j).1.place.size = hs.length + 1 := by
    have z := congrArg List.length pl
    rw [Array.length_toList, len_ins _ p1, T.len] at z
    exact z
  have grow : ∀ {x : Nat}, x ∈ t.place.toList → x ∈ (t.put j).1.place.toList := fun hx => by
    rw [pl]
    exact mem_ins.2 (.inr hx)
  refine ⟨p2, ⟨ris_insert T.up fun e => hK (List.mem_of_getElem? ((Array.getElem?_toList ..).trans e)), put_dm T.no j, ?_, ?_, ?_⟩, ?_⟩
  · rw [len_ins _ p2]
    exact sz
  · intro x hx
    rw [pl] at hx
    rcases mem_ins.1 hx with rfl | hx
    · exact hj
    · exact T.le x hx
  · intro i h' j' e1 e2
    rw [tins_get hs p2] at e1
    rw [pl, tins_get _ p1] at e2
    have old : ∀ i, hs[i]? = some h' → t.place.toList[i]? = some j' → ∃ k, way t.mask h' k = j' ∧ ∀ c, c < k → way t.mask h' c ∈ (t.put j).1.place.toList := fun i a b =>
      (T.to i h' j' a b).elim fun k z => ⟨k, z.1, fun c hc => grow (z.2 c hc)⟩
    show ∃ k, way t.mask h' k = j' ∧ ∀ c, c < k → way t.mask h' c ∈ (t.put j).1.place.toList
    split at e1
    · rename_i c
      rw [if_pos c] at e2
      exact old i e1 e2
    · rename_i c
      rw [if_neg c] at e2
      split at e1
      · rename_i d
        rw [if_pos d] at e2
        cases e1
        cases e2
        exact ⟨K, ej, fun c hc => grow (hb c hc)⟩
      · rename_i d
        rw [if_neg d] at e2
        exact old (i - 1) e1 e2
  · show (t.put j).1.place.size + (t.put j).1.dummies.size = _
    rw [sz, put_dm T.no j]
    rfl
end
/-! ### laid anew -/
end Lw

namespace Lw
open PySem.Spec PySem L2 PyProof.Rows
open Evl (Ex Ex.refl Ex.trans Ex.new Ex.off ex_rd ex_l ex_t)
/-! ### sets of tuples of ints, up to a thousand -/
/-- a set stands at a -/
def SetAt (h : Heap) (a : Addr) (es : Array (Int × Value)) (ep : Nat) (t : SetTable) : Prop := ∃ o, h.get? a = some o ∧ o.ExactSet ∧ o.data = .set es ep t
/-- its order is told, or none of it is led -/
def Led (w : World) (t : SetTable) : Prop := w.params.followText "set-order" = true ∨ t.led = true
structure SG (P : Program) (w : World) (h : Heap) (a : Addr) (L : List (Addr × List Int)) (es : Array (Int × Value)) (ep : Nat) (t : SetTable) : Prop where
  ob : SetAt h a es ep t
  row : es.toList = rowsOf P w L
  tab : Tb t (L.map fun p => thash P w p.2)
  msk : Msk t.mask
  one : (L.map (·.2)).Nodup
  plain : t.plain = true
  led : Led w t
  room : 5 * L.length < 3 * t.mask
  few : L.length ≤ 1998
/-- what a search asks of a key: how it compares with what lies there -/
structure KeyA (P : Program) (w : World) (A : Around) (s : Shared) (x : Value) (h : Int) (mt : Addr × List Int → Bool) (L : List (Addr × List Int)) : Prop where
  eq : ∀ p ∈ L, ∀ (E : Value → Shared → Prop) (Q : Bool → Shared → Prop), Q (mt p) s → wpAny (model P w) A (eqBool (.ref p.1) x) Q E s
  seen : ∀ ys : List Value, (∀ y ∈ ys, ∃ p ∈ L, y = .ref p.1) → ∀ (E : Value → Shared → Prop) (Q : Bool → Shared → Prop), Q false s → wpAny (model P w) A (searchCouldBeSeen x ys) Q E s
  hash : ∀ p ∈ L, mt p = true → thash P w p.2 = h
section
variable {P : Program} {w : World} {A : Around} {E : Value → Shared → Prop} {s : Shared} {a : Addr} {L : List (Addr × List Int)} {es : Array (Int × Value)} {ep : Nat} {t : SetTable} {x : Value} {h : Int} {mt : Addr × List Int → Bool}
theorem rows_len (e : es.toList = rowsOf P w L) : es.size = L.length := by
  rw [← Array.length_toList, e]
  exact List.length_map _
theorem fits_of (T : Tb t (L.map fun p => thash P w p.2)) (e : es.toList = rowsOf P w L) (hl : L.length ≤ t.mask) : t.fits es.size = true := by
  have z := T.ln
  rw [List.length_map] at z
  unfold SetTable.fits
  unfold SetTable.fill
  rw [T.no, rows_len e, z]
  simpa using hl
theorem SG.fit {hp : Heap} (R : SG P w hp a L es ep t) : t.fits es.size = true := fits_of R.tab R.row (by
  have := R.room
  omega)
end
end Lw

namespace Lw
open PySem.Spec PySem L2 PyProof.Rows
open Evl (Ex Ex.refl Ex.trans Ex.new Ex.off ex_rd ex_l ex_t)
section
variable {s : Shared} {P : Program} {w : World} {A : Around} {E : Value → Shared → Prop}
theorem SG.keep {h h' : Heap} {a : Addr} {L : List (Addr × List Int)} {es : Array (Int × Value)} {ep : Nat} {t : SetTable} (R : SG P w h a L es ep t) (e : ∀ o, h.get? a = some o → h'.get? a = some o) : SG P w h' a L es ep t := by
  obtain ⟨o, ho, r⟩ := R.ob
  exact ⟨⟨o, e o ho, r⟩, R.row, R.tab, R.msk, R.one, R.plain, R.led, R.room, R.few⟩
end
end Lw

namespace Lw
open PySem.Spec PySem L2 PyProof.Rows
open Evl (Ex Ex.refl Ex.trans Ex.new Ex.off ex_rd ex_l ex_t)
section
variable {X : Cx}
end
/-! ### as data that stays -/
section
variable {K : Fg} {P : Program} {w : World} {B : Bg} {G G' H : Hp} {σ : L2.St} {te : TE} {D : Ends} {u : TS} {ks : List (List Int)} {v : V} {k : List Int} {i : Nat}
end
end Lw

namespace Lw
open PySem.Spec PySem L2 PyProof.Rows
open Evl (Ex Ex.refl Ex.trans Ex.new Ex.off ex_rd ex_l ex_t)
section
variable {K : Fg} {B : Bg} {G G' H : Hp} {σ : L2.St} {te ta tb : TE} {tr : TA} {tt : TT} {d : PyData} {ds es : List PyData} {D : Ends} {t u : TS}
theorem ef_call {sp : Sp} {dvs : List V} {E : XK} (ha : EvA K B tr σ G ds) (hs : ∀ vs G2 H2, Ex G G2 → Ok K B G2 H2 → DpAll K G2 vs ds → ∀ Q, RetF K B G2 H2 Q es → sp (vs ++ dvs) H2 Q E) : EvF K B (tCall sp dvs E tr) σ G es := fun H e Q q =>
  ha H e _ fun vs G2 H2 X dv => hs vs G2 H2 X.gg X.ok dv Q (q.mono X)
theorem ef_catF (ha : EvF K B ta σ G ds) (hb : EvF K B tb σ G es) (hl : ds.length + es.length ≤ 100000) : EvF K B (tOp rCat ta tb) σ G (ds ++ es) := fun H e Q q =>
  ha H e _ fun p xs G1 H1 X1 hp g1 nb h1 a1 => hb.mono X1.gg e.c H1 X1.ok _ fun o ys G2 H2 X2 ho g2 nb2 h2 a2 => by
    refine ⟨p, o, xs, ys, rfl, rfl, X2.hh p _ nb h1, h2, ?_, fun r hr => ?_⟩
    · rw [dpAll_len a1, dpAll_len a2]
      exact sz hl
    · have n3 := X2.ok.b.ne hr
      exact q r _ G2 _ ((X1.trans X2).trans (Ext.loose X2.ok hr)) ((X1.trans X2).old n3 hr) (X2.ok.e.off hr) n3 upd_same (dpAll_app (dpAll_mono X2.gg a1) a2)
/-- what was laid fast for a while is loose again -/
theorem Ext.back {G1 G2 H2 : Hp} (X : Ext K B G1 H G2 H2) (e : Ex G G1) (c : Cel K B G) : Ext K B G H G H2 := ⟨Ex.refl G, X.hh, fun _ _ _ g => g, X.ok.less (e.trans X.gg) c⟩
/-- a list of two lists that were made anew -/
structure Two (K : Fg) (B : Bg) (G0 H0 G H : Hp) (p0 p1 pf : Addr) (ds es : List PyData) : Prop where
  x : Ext K B G0 H0 G H
  h0 : H0 p0 = none ∧ H0 p1 = none ∧ H0 pf = none
  g : G p0 = none ∧ G p1 = none ∧ G pf = none
  nb : ¬ isB B p0 ∧ ¬ isB B p1 ∧ ¬ isB B pf
  ne : p0 ≠ p1 ∧ p0 ≠ pf ∧ p1 ≠ pf
  a : ∃ xs ys, H p0 = some (.lst xs) ∧ H p1 = some (.lst ys) ∧ H pf = some (.lst [.ref p0, .ref p1]) ∧ DpAll K G xs ds ∧ DpAll K G ys es
theorem Two.step {G0 H0 G2 H2 : Hp} {p0 p1 pf : Addr} (l : Two K B G0 H0 G H p0 p1 pf ds es) (X : Ext K B G H G2 H2) : Two K B G0 H0 G2 H2 p0 p1 pf ds es := by
  obtain ⟨xs, ys, a0, a1, af, d0, d1⟩ := l.a
  exact ⟨l.x.trans X, l.h0, ⟨X.fr _ _ a0 l.g.1, X.fr _ _ a1 l.g.2.1, X.fr _ _ af l.g.2.2⟩, l.nb, l.ne, xs, ys, X.hh _ _ l.nb.1 a0, X.hh _ _ l.nb.2.1 a1, X.hh _ _ l.nb.2.2 af, dpAll_mono X.gg d0, dpAll_mono X.gg d1⟩
end
theorem nd_len {α : Type} [DecidableEq α] : ∀ (l D : List α), l.Nodup → (∀ x ∈ l, x ∈ D) → l.length ≤ D.length
  | [], D, _, _ => Nat.zero_le D.length
  | x :: l, D, hn, hs => by
    have h1 := List.nodup_cons.mp hn
    have mx := hs x List.mem_cons_self
    have z := nd_len l (D.erase x) h1.2 fun y hy => (List.mem_erase_of_ne fun e => h1.1 (by rw [← e]; exact hy)).mpr (hs y (List.mem_cons_of_mem _ hy))
    rw [List.length_erase_of_mem mx] at z
    have := List.length_pos_of_mem mx
    rw [List.length_cons]
    omega
end Lw

namespace Lw
open PySem.Spec PySem L2 PyProof.Rows
open Evl (Ex Ex.refl Ex.trans Ex.new Ex.off ex_rd ex_l ex_t)
/-! enumerate over a tuple; loops and comprehensions over pairs -/
section
variable {s : Shared} {prog : Program} {w : World} {A : Around} {E : Value → Shared → Prop}
end
theorem mem2 {α : Type} {a b x : α} (h : x ∈ [a, b]) : x = a ∨ x = b := (List.mem_cons.mp h).imp id List.mem_singleton.mp
/-- an iterator over n pairs, told by their numbers -/
def EvP (K : Fg) (B : Bg) (wi : TI) (σ : L2.St) (G : Hp) (n : Nat) (as bs : Nat → Option PyData) : Prop := ∀ H, Ok K B G H → ∀ R : It → Hp → Prop,
  (∀ J xs ys G1 H1, Ext K B G H G1 H1 → Walk J n (fun H' => Ex G1 H') (YPair xs ys) → (∀ i x, i < n → xs i = some x → ∃ d, as i = some d ∧ Dp K G1 x d) → (∀ i y, i < n → ys i = some y → ∃ d, bs i = some d ∧ Dp K G1 y d) → R J H1) → wi σ H R
section
variable {K : Fg} {B : Bg} {G G' H : Hp} {σ : L2.St} {te ta tb : TE} {tr : TA} {tt : TT} {d : PyData} {ds es : List PyData} {D : Ends} {t u : TS} {wi : TI} {as bs : Nat → Option PyData} {n : Nat}
theorem wipe2 (σ : L2.St) {i j : Nat} {x y : Option V} : wipe (((wipe σ [i, j]).set i x).set j y) [i, j] = wipe σ [i, j] := by
  show (((((σ.set j none).set i none).set i x).set j y).set j none).set i none = (σ.set j none).set i none
  apply List.ext_getElem?
  intro k
  simp only [List.getElem?_set, List.length_set]
  by_cases c : i = k
  · simp only [c, if_true]
  · by_cases c2 : j = k
    · simp only [c, c2, if_true, if_false]
    · simp only [c, c2, if_false]
theorem range_oneN (j : Nat) (f : Nat → Option PyData) : (List.range (j + 1)).filterMap f = (List.range j).filterMap f ++ (f j).toList := by
  rw [List.range_succ, List.filterMap_append]
  cases h : f j <;> simp [List.filterMap_cons, h]
/-- [e for a, b in pairs if t] -/
theorem ef_lcQ {i j : Nat} {f : Nat → Option PyData} (ha : EvP K B wi σ G n as bs) (hn : n ≤ 100000)
    (ht : ∀ k x y v u G', k < n → as k = some x → bs k = some y → Ex G G' → Cel K B G' → Dp K G' v x → Dp K G' u y → EvB K B tt (((wipe σ [i, j]).set i (some v)).set j (some u)) G' (f k).isSome)
    (he : ∀ k x y v u z G', k < n → as k = some x → bs k = some y → Ex G G' → Cel K B G' → Dp K G' v x → Dp K G' u y → f k = some z → EvD K B te (((wipe σ [i, j]).set i (some v)).set j (some u)) G' z) :
    EvF K B (tLc wi (gTup K 2 (gCons (gName i) (gCons (gName j) gNil))) tt te [i, j]) σ G ((List.range n).filterMap f) := fun H e Q q =>
  ha H e _ fun J xs ys G1 H1 X wk dx dy D hD => by
    have nb := X.ok.b.ne hD
    refine lc_it wk (Qd := fun H => Q (.ref D) H) (fun k H' => ∃ G' zs, Ext K B G1 H1 G' H' ∧ G' D = none ∧ H' D = some (.lst zs) ∧ DpAll K G' zs ((List.range k).filterMap f))
      ⟨G1, [], Ext.loose X.ok hD, X.ok.e.off hD, upd_same, .nil⟩ ?_ ?_ ?_
    · rintro k H' _ ⟨G', zs, X', _⟩
      exact X'.gg.trans X'.ok.e
    · rintro k v H' H2 hk ⟨G', zs, X', g', h', a'⟩ ⟨T, x, y, rfl, hT, rfl, ex, ey⟩
      obtain ⟨p, hp, pd⟩ := dx k x hk ex
      obtain ⟨r, hr, rd⟩ := dy k y hk ey
      have XT := Ext.new (o := .tup [x, y]) X'.ok hT
      refine ⟨T, [x, y], rfl, SqT.of upd_same, rfl, x, [y], rfl, y, [], rfl, rfl, wipe2 σ, ?_⟩
      have hlen : ((List.range k).filterMap f).length < 100000 := by
        have z := List.length_filterMap_le f (List.range k)
        rw [List.length_range] at z
        omega
      have hDT : D ≠ T := fun z => by
        rw [z, hT] at h'
        cases h'
      have eg := X'.gg.trans XT.gg
      have cg := (e.c.mono X.gg).mono eg
      refine lc_turn (o := f k) hD nb (X'.trans XT) (XT.fr D _ h' g') (XT.hh D _ nb h') (dpAll_mono XT.gg a') hlen (ht k p r x y _ hk hp hr (X.gg.trans eg) cg (dp_mono eg pd) (dp_mono eg rd))
        (fun z ez => he k p r x y z _ hk hp hr (X.gg.trans eg) cg (dp_mono eg pd) (dp_mono eg rd) ez) fun G4 H4 us X4 g4 h4 a4 => ⟨G4, us, X4, g4, h4, ?_⟩
      rw [range_oneN]
      exact a4
    · rintro H' ⟨G', zs, X', g', h', a'⟩
      exact q D zs G' H' (X.trans X') (X.old nb hD) g' nb h' a'
end
end Lw

namespace Lw
open PySem.Spec PySem L2 PyProof.Rows
open Evl (Ex Ex.refl Ex.trans Ex.new Ex.off ex_rd ex_l ex_t)
section
variable {K : Fg} {B : Bg} {G G' H : Hp} {σ : L2.St} {te ta tb : TE} {tr : TA} {tt : TT} {d : PyData} {ds es : List PyData} {D : Ends} {t u : TS} {b : Bool}
/-- t + u, tuples, empty ones too -/
theorem rd_catA (hl : ds.length + es.length ≤ 100000) : RvD K B (rCatA K) G (.tuple ds) (.tuple es) (.tuple (ds ++ es)) := fun u v G2 H2 _ e du dv Q q => by
  obtain ⟨a, xs, rfl, hs, hx⟩ := dp_tup du
  obtain ⟨a', ys, rfl, hs', hy⟩ := dp_tup dv
  refine ⟨a, a', xs, ys, rfl, rfl, ex_t e.e hs, ex_t e.e hs', ?_, fun z => ?_, fun _ z => ?_, fun _ _ p hp => ?_⟩
  · rw [dpAll_len hx, dpAll_len hy]
    exact sz hl
  · subst z
    cases hx
    exact q.here e (.tup hs' hy)
  · subst z
    cases hy
    rw [List.append_nil] at q
    exact q.here e (.tup hs hx)
  · exact q _ _ _ (Ext.new e hp) (.tup (SqT.of upd_same) (dpAll_mono (Ex.new (e.e.off hp)) (dpAll_app hx hy)))
theorem dp_encV {v : V} {l : List Int} (h : Dp K G v (encT l)) : ∃ a, v = .ref a ∧ SqT K G a (l.map V.int) := by
  obtain ⟨a, xs, rfl, hs, hx⟩ := dp_tup h
  exact ⟨a, rfl, dpAll_intsV hx ▸ hs⟩
/-- an if whose two ways meet again in Iv -/
theorem sq_ifJ {w : TS} (Iv : L2.St → Hp → Prop) (k : ∀ σ' H', Iv σ' H' → w D σ' H') (h : EvB K B tt σ G b) (e : Ok K B G H)
    (k1 : (∀ σ' H', Iv σ' H' → ({ D with nx := w D } : Ends).nx σ' H') → b = true → ∀ G2 H2, Ext K B G H G2 H2 → t { D with nx := w D } σ H2) (k2 : b = false → ∀ G2 H2, Ext K B G H G2 H2 → Iv σ H2) : tSeq (tIfS tt t tNext) w D σ H :=
  sq_ifN h e (k1 k) fun c G2 H2 X => k _ _ (k2 c G2 H2 X)
end
end Lw

namespace Lw
open PySem.Spec PySem L2 PyProof.Rows
open Evl (Ex Ex.refl Ex.trans Ex.new Ex.off ex_rd ex_l ex_t)
/-! dicts whose keys are tuples of numbers -/
abbrev tkd (P : Program) (w : World) : HeapKind P w (List Key) := tupleKind (mixKind P w)
abbrev Ent := List Int × Addr × V
def DRel : List Ent → List (List Key × Addr × Value) → Prop := Paired fun l x => x.1 = l.1.map Sum.inl ∧ x.2.1 = l.2.1 ∧ RelV l.2.2 x.2.2
def DGok (P : Program) (w : World) (h : Heap) (d : Addr) (L : List Ent) : Prop := (d == sysModules) = false ∧
  ∃ xs o es ep, h.get? d = some o ∧ o.ExactDict ∧ o.data = .dict es ep ∧ es.toList = xs.map (entryOfKey (tkd P w)) ∧ DRel L xs ∧ (xs.map (·.1)).Nodup
def DGO (P : Program) (w : World) (d : Addr) (L : List Ent) : HO := .ext fun h => DGok P w h d L
theorem dg_new {P : Program} {w : World} {H : Hp} {h : Heap} {d : Addr} {L : List Ent} (R : DGok P w h d L) : ObjOk P w H h d (DGO P w d L) := by
  refine ⟨R, ?_, fun h1 h2 z k => ?_⟩
  · obtain ⟨_, xs, o, es, ep, g, _⟩ := R
    exact ⟨o, g⟩
  · obtain ⟨s, xs, o, es, ep, g, r⟩ := z
    exact ⟨s, xs, o, es, ep, k o g, r⟩
def keysOf (K : Fg) (H : Hp) (L : List Ent) : Prop := ∀ p ∈ L, SqT K H p.2.1 (p.1.map V.int)
theorem keys_mono {K : Fg} {H H' : Hp} {L : List Ent} (e : Ex H H') (k : keysOf K H L) : keysOf K H' L := fun p hp => ex_t e (k p hp)
section
variable {X : Cx} {pins : List (Addr × Obj)} {s : Shared} {σ : L2.St} {H : Hp}
theorem key_sq {b : Addr} {ns : List Int} (I : Inv X pins σ H s) (h : SqT X.K H b (ns.map V.int)) : (tkd X.prog X.w).is s.heap (ns.map Sum.inl) b := by
  obtain ⟨its, rv, ⟨o, g1, g2, n, g3⟩, _⟩ := I.tuple h
  have e1 : ((ns.map Sum.inl : List Key).map kV) = ns.map V.int := by
    rw [List.map_map]
    rfl
  rw [← e1] at rv
  exact ⟨o, its.toArray, n, g1, g2, g3, by simpa using items_are rv⟩
theorem dict_sq {d : Addr} {L : List Ent} (I : Inv X pins σ H s) (h : H d = some (DGO X.prog X.w d L)) (k : keysOf X.K H L) :
    (d == sysModules) = false ∧ ∃ xs, DRel L xs ∧ s.heap.DictOfH (tkd X.prog X.w) d xs := by
  obtain ⟨⟨y, xs, o, es, ep, g, g2, g3, g4, r, nd⟩, rest⟩ := (show ObjOk X.prog X.w H s.heap d (DGO X.prog X.w d L) from I.hok d _ h)
  refine ⟨y, xs, r, o, es, ep, g, g2, g3, g4, ?_, nd⟩
  clear g4 nd g h rest
  induction r with
  | nil => exact fun x hx => nomatch hx
  | @cons p q ps qs hq t ih =>
    intro x hx
    cases hx with
    | head =>
      rw [hq.1, hq.2.1]
      exact key_sq I (k p List.mem_cons_self)
    | tail _ hx => exact ih (fun z hz => k z (List.mem_cons_of_mem _ hz)) x hx
theorem inl_inj {a b : List Int} (h : (a.map Sum.inl : List Key) = b.map Sum.inl) : a = b := by
  induction a generalizing b with
  | nil =>
    cases b with
    | nil => rfl
    | cons _ _ => cases h
  | cons x a ih =>
    cases b with
    | nil => cases h
    | cons y b =>
      injection h with h1 h2
      rw [Sum.inl.inj h1, ih h2]
def valG (L : List Ent) (k : List Int) : Option V := (L.find? fun p => decide (p.1 = k)).map (·.2.2)
theorem rel_find {L : List Ent} {xs : List (List Key × Addr × Value)} (r : DRel L xs) (k : List Int) : RelO (valG L k) ((atKey xs (k.map Sum.inl)).map (·.2)) := by
  unfold valG atKey
  induction r with
  | nil => exact True.intro
  | @cons p q ps qs hq t ih =>
    rw [List.find?_cons, List.find?_cons]
    by_cases c : p.1 = k
    · rw [decide_eq_true c, decide_eq_true (by rw [hq.1, c])]
      exact hq.2.2
    · rw [decide_eq_false c, decide_eq_false (fun z => c (inl_inj (by rw [← hq.1, z])))]
      exact ih
theorem valG_mem {L : List Ent} {k : List Int} : (valG L k).isSome = decide (k ∈ L.map (·.1)) := by
  unfold valG
  rw [Option.isSome_map, Bool.eq_iff_iff, List.find?_isSome, decide_eq_true_eq, List.mem_map]
  refine ⟨fun ⟨p, hp, z⟩ => ⟨p, hp, of_decide_eq_true z⟩, fun ⟨p, hp, z⟩ => ⟨p, hp, decide_eq_true z⟩⟩
theorem rel_some {L : List Ent} {xs : List (List Key × Addr × Value)} (r : DRel L xs) (k : List Int) : (atKey xs (k.map Sum.inl)).isSome = decide (k ∈ L.map (·.1)) := by
  have z := (rel_find r k).isSome_eq
  rw [Option.isSome_map] at z
  rw [← z, valG_mem]
def putG (L : List Ent) (k : List Int) (b : Addr) (z : V) : List Ent := if k ∈ L.map (·.1) then L.map fun p => if p.1 = k then (p.1, p.2.1, z) else p else L ++ [(k, b, z)]
theorem putG_len (L : List Ent) (k : List Int) (b : Addr) (z : V) : (putG L k b z).length ≤ L.length + 1 := by
  unfold putG
  split
  · rw [List.length_map]
    exact Nat.le_succ _
  · rw [List.length_append]
    exact Nat.le_refl _
theorem putG_keys (L : List Ent) (k : List Int) (b : Addr) (z : V) (m : List Int) : m ∈ (putG L k b z).map (·.1) ↔ m ∈ L.map (·.1) ∨ m = k := by
  unfold putG
  have e1 : (L.map fun p => if p.1 = k then (p.1, p.2.1, z) else p).map (·.1) = L.map (·.1) := by
    rw [List.map_map]
    apply List.map_congr_left
    intro p _
    show (if p.1 = k then (p.1, p.2.1, z) else p).1 = p.1
    split <;> rfl
  split
  · rename_i c
    rw [e1]
    exact ⟨.inl, fun h => h.elim id fun e => e ▸ c⟩
  · rw [List.map_append, List.mem_append, List.map_cons, List.map_nil, List.mem_singleton]
theorem putG_sq {K : Fg} {H : Hp} {L : List Ent} {k : List Int} {b : Addr} {z : V} (h : keysOf K H L) (hb : SqT K H b (k.map V.int)) : keysOf K H (putG L k b z) := fun p hp => by
  unfold putG at hp
  split at hp
  · obtain ⟨q, hq, rfl⟩ := List.mem_map.mp hp
    split
    · exact h q hq
    · exact h q hq
  · refine (List.mem_append.mp hp).elim (h p) fun one => ?_
    obtain rfl := List.mem_singleton.mp one
    exact hb
theorem paired_map {α β : Type} {F : α → β → Prop} {f : α → α} {g : β → β} {l : List α} {m : List β} (p : Paired F l m) (h : ∀ a b, F a b → F (f a) (g b)) : Paired F (l.map f) (m.map g) := by
  induction p with
  | nil => exact .nil
  | cons q t ih => exact .cons (h _ _ q) ih
theorem paired_app {α β : Type} {F : α → β → Prop} {l : List α} {m : List β} {a : α} {b : β} (p : Paired F l m) (h : F a b) : Paired F (l ++ [a]) (m ++ [b]) := by
  induction p with
  | nil => exact .cons h .nil
  | cons q t ih => exact .cons q ih
theorem paired_len {α β : Type} {F : α → β → Prop} {l : List α} {m : List β} (p : Paired F l m) : l.length = m.length := by
  induction p with
  | nil => rfl
  | cons _ _ ih => exact congrArg (· + 1) ih
theorem rel_put {L : List Ent} {xs : List (List Key × Addr × Value)} (r : DRel L xs) {k : List Int} {b : Addr} {z : V} {u : Value} (rz : RelV z u) : DRel (putG L k b z) (storedH xs (k.map Sum.inl) b u) := by
  have e := rel_some r k
  unfold putG storedH
  by_cases c : k ∈ L.map (·.1)
  · rw [if_pos c, e, decide_eq_true c, if_pos rfl]
    refine paired_map r fun p q h => ?_
    unfold putAt
    by_cases d : p.1 = k
    · rw [if_pos d, if_pos (by rw [h.1, d])]
      exact ⟨h.1, h.2.1, rz⟩
    · rw [if_neg d, if_neg (fun y => d (inl_inj (by rw [← h.1, y])))]
      exact h
  · rw [if_neg c, e, decide_eq_false c, if_neg Bool.false_ne_true]
    exact paired_app r ⟨rfl, rfl, rz⟩
/-- k in d, k not in d -/
def rInK (K : Fg) (P : Program) (w : World) (neg : Bool) : R2 := fun x y H Q => ∃ (a b : Addr) (L : List Ent) (ns : List Int), x = .ref b ∧ y = .ref a ∧ SqT K H b (ns.map V.int) ∧ H a = some (DGO P w a L) ∧ keysOf K H L ∧
  Q (.bl (neg ^^ decide (ns ∈ L.map (·.1)))) H
theorem op_notInK (hu : X.A.units + 65 < cLine) : OpR X (compareOp .NotIn) (rInK X.K X.prog X.w true) := by
  rintro pins s σ H _ _ v u Q I rx ry ⟨a, b, L, ns, rfl, rfl, hb, ha, hk, q⟩
  cases rx
  cases ry
  obtain ⟨y, xs, r, dd⟩ := dict_sq I ha hk
  refine wpAny_notIn_heap (tupleKind_room_in1 (by omega)) (key_sq I hb) y dd ⟨_, H, I.tok _, ?_, q⟩
  show _ = _
  rw [rel_some r ns, Bool.true_xor]
/-- d[k] = z, within a comprehension -/
theorem set_sq {d b : Addr} {L : List Ent} {ns : List Int} {z : V} {u : Value} {Q : Unit → Shared → Prop} {E : Value → Shared → Prop} (hu : X.A.units < cLine) (I : Inv X pins σ H s) (h : H d = some (DGO X.prog X.w d L)) (k : keysOf X.K H L) (hl : L.length < sizeLine)
    (hb : SqT X.K H b (ns.map V.int)) (rz : RelV z u) (q : ∀ s', Inv X pins σ (upd H d (DGO X.prog X.w d (putG L ns b z))) s' → Q () s') : wpAny (model X.prog X.w) X.A (dictSet d (.ref b) u) Q E s := by
  obtain ⟨y, xs, r, dd⟩ := dict_sq I h k
  refine wpAny_dictSet_heap (knd := tkd X.prog X.w) hu (key_sq I hb) dd (fun h' dd' sb => q _ ?_) (hsz := by rw [← paired_len r]; exact Nat.le_of_lt hl)
  obtain ⟨o, es, ep, g1, g2, g3, g4, g5, g6⟩ := dd'
  exact d_write I (by rw [h]; exact True.intro) sb ⟨o, g1⟩ (dg_new ⟨y, _, o, es, ep, g1, g2, g3, g4, rel_put r rz, g6⟩)
end
/-- {k: v for x in xs if t}, the keys tuples of numbers -/
def tDcG (K : Fg) (P : Program) (w : World) (wi : TI) (g : TG) (tt : TT) (tk tv : TE) (vs : List Nat) : TE := fun σ H Q => wi σ H fun J H1 => ∀ D, H1 D = none → ∃ W : Nat → Nat → Hp → Prop, (∃ m, W 0 m (upd H1 D (DGO P w D []))) ∧
  ∀ i m H, W i m H → (J.stop i H ∧ Q (.ref D) H) ∨ (J.go i H ∧ ∃ Nx : Hp → Prop, (∀ H', Nx H' → ∃ m', m' < m ∧ W (i + 1) m' H') ∧ ∀ x H', J.yld i H x H' → g x (wipe σ vs) H' fun σ2 H2 =>
    wipe σ2 vs = wipe σ vs ∧ tt σ2 H2 fun b H3 => if b = true then tk σ2 H3 fun y H4 => tv σ2 H4 fun z H5 => ∃ (L : List Ent) (ns : List Int) (b : Addr), y = .ref b ∧ SqT K H5 b (ns.map V.int) ∧ H5 D = some (DGO P w D L) ∧ keysOf K H5 L ∧ L.length < sizeLine ∧ Nx (upd H5 D (DGO P w D (putG L ns b z))) else Nx H3)
section
variable {X : Cx}
theorem dg_nil {P : Program} {w : World} {H : Hp} (h : Heap) (big : sysModules < h.objs.size) : ObjOk P w H (h.push { cls := .type "dict", data := .dict #[] }) h.objs.size (DGO P w h.objs.size []) :=
  dg_new ⟨beq_eq_false_iff_ne.mpr fun z => Nat.lt_irrefl _ (z ▸ big), [], _, #[], 0, Heap.get?_push_size _ rfl, ⟨rfl, rfl, rfl⟩, rfl, rfl, .nil, List.nodup_nil⟩
/-- a rule's premise over the block of a comprehension -/
abbrev InBlk (X : Cx) (scope : Scope) (R : Cx → Prop) : Prop := ∀ (s : Shared) (H : Hp) (C : Addr) (cl : List (Str × Addr)) (fp : List Addr), R (X.blk s H scope (compEnvC scope cl C X.env) fp)
abbrev newD : Obj := { cls := .type "dict", data := .dict #[] }
/-- the walk over the items, within the block Y of the context X -/
theorem dg_walk {kx vx tg iter : Expr} {ifs : List Expr} {scope : Scope} {pos : Pos} {g : TG} {tt : TT} {tk tv : TE} {J : It} {fp : List Addr} {it D : Addr} {tn : Nat → Heap → Prop} {ce : Env} {own : List Nat} {W : Nat → Nat → Hp → Prop}
    {sB : Shared} {HB : Hp} {σ : L2.St} {R : Result → Shared → Prop} {Fin' : Hp → Prop} (hu : X.A.units < cLine) (hc : X.calm = true) (Tn : Turn X.prog X.w X.K tg J fp it tn)
    (pg : PG (X.blk sB HB scope ce fp) tg g) (pt : PTs (X.blk sB HB scope ce fp) ifs tt) (pk : PE (X.blk sB HB scope ce fp) kx tk) (pv : PE (X.blk sB HB scope ce fp) vx tv)
    (turn : ∀ i m H, W i m H → (J.stop i H ∧ Fin' H) ∨ (J.go i H ∧ ∃ Nx : Hp → Prop, (∀ H', Nx H' → ∃ m', m' < m ∧ W (i + 1) m' H') ∧ ∀ x H', J.yld i H x H' → g x (wipe σ own) H' fun σ2 H2 =>
      wipe σ2 own = wipe σ own ∧ tt σ2 H2 fun b H3 => if b = true then tk σ2 H3 fun y H4 => tv σ2 H4 fun z H5 => ∃ (L : List Ent) (ns : List Int) (b : Addr), y = .ref b ∧ SqT X.K H5 b (ns.map V.int) ∧ H5 D = some (DGO X.prog X.w D L) ∧ keysOf X.K H5 L ∧ L.length < sizeLine ∧ Nx (upd H5 D (DGO X.prog X.w D (putG L ns b z))) else Nx H3))
    (out : ∀ sE HE, Inv (X.blk sB HB scope ce fp) [] (wipe σ own) HE sE → Fin' HE → R (.ok .next) sE)
    {n : Nat} {s : Shared} (i0 : ∃ i H', Inv (X.blk sB HB scope ce fp) [] (wipe σ own) H' s ∧ tn i s.heap ∧ (∀ b ∈ fp, H' b = none) ∧ W i n H') :
    codeAny (model X.prog X.w) X.A (.compLoop (.DictComp kx vx [⟨tg, iter, ifs, 0⟩] scope pos) 0 (.ref it) (.ref D) ce) R s := by
  have mine : ∀ {σ' : L2.St} {H' : Hp} {s' : Shared}, Inv (X.blk sB HB scope ce fp) [] σ' H' s' → (∀ b ∈ fp, H' b = none) → ∀ b ∈ fp, FpOk (X.blk sB HB scope ce fp) [] H' b := fun I' free b hb => by
    obtain ⟨x1, x2⟩ := I'.ok.exf b hb
    exact ⟨free b hb, x1, I'.ok.exfs b hb, .inl hb, x2, fun p hp => by cases (show p ∈ ([] : List (Addr × Obj)) ++ [] from hp)⟩
  refine compLoop_anyD (fun m t => ∃ i H', Inv (X.blk sB HB scope ce fp) [] (wipe σ own) H' t ∧ tn i t.heap ∧ (∀ b ∈ fp, H' b = none) ∧ W i m H') (fun m t inv => ?_) n i0
  obtain ⟨i, Ht, It, at_, free, wt⟩ := inv
  rcases turn i m Ht wt with ⟨stop, fin⟩ | ⟨go, Nx, less, step⟩
  · refine thnF (Tn.done (X.blk sB HB scope ce fp) rfl rfl rfl hc i [] t _ Ht (fun _ _ => False) It (mine It free) at_ stop) fun r t2 z => ?_
    obtain ⟨rfl, I2⟩ := z
    exact out t2 Ht I2 fin
  · refine thnF (Tn.item (X.blk sB HB scope ce fp) rfl rfl rfl hc i [] t _ Ht (fun _ _ => False) It (mine It free) at_ go) fun r t2 z => ?_
    obtain ⟨u, rfl, z⟩ := z
    refine thnF z fun _ t3 z => ?_
    obtain ⟨x, H3, I3, rx, yx, at3, free3⟩ := z
    have P3 := I3.pinned (mine I3 free3) (Tn.obj _ _ at3)
    -- back at the head of the walk, one turn less
    have again : ∀ {σ' : L2.St} {t' : Shared} {H' : Hp}, wipe σ' own = wipe σ own → Inv (X.blk sB HB scope ce fp) ([] ++ pinsAt fp t3.heap) σ' H' t' → Nx H' →
        ∃ k, k < m ∧ ∃ i H', Inv (X.blk sB HB scope ce fp) [] (wipe σ own) H' t' ∧ tn i t'.heap ∧ (∀ b ∈ fp, H' b = none) ∧ W i k H' := fun {σ' t' H'} ew I' nx => by
      obtain ⟨k, lt, wk⟩ := less H' nx
      have held : ∀ b ∈ fp, ∀ o, t3.heap.get? b = some o → t'.heap.get? b = some o ∧ H' b = none := fun b hb o e => by
        have z := I'.pin (b, o) (List.mem_append_right _ (List.mem_append_right _ (mem_pinsAt hb e)))
        exact ⟨z.1, z.2.1⟩
      have J' := (I'.unpinned (pins := [])).weak (σ' := wipe σ own) (by rw [← ew, wipe_length]) fun j v e => by
        rw [← ew] at e
        exact (wipe_some e).1
      refine ⟨k, lt, i + 1, H', J', Tn.keep _ _ _ at3 fun b hb o e => (held b hb o e).1, fun b hb => ?_, wk⟩
      have ob := Tn.obj _ _ at3 b hb
      exact (held b hb _ ob.choose_spec.1).2
    refine thnF (pg.run _ t3 _ H3 x u _ P3 rx (step x H3 yx)) fun _ t4 z => ?_
    obtain ⟨σ4, H4, I4, ew, z⟩ := z
    refine thnF (pt.run _ t4 σ4 H4 _ I4 z) fun yes t5 z => ?_
    obtain ⟨H5, I5, z⟩ := z
    cases yes with
    | false => exact again ew I5 z
    | true =>
      refine thnF (pk.run _ t5 σ4 H5 _ I5 z) fun kv t6 z => ?_
      obtain ⟨yk, H6, I6, rk, z⟩ := z
      refine thnF (pv.run _ t6 σ4 H6 _ I6 z) fun vv t7 z => ?_
      obtain ⟨yv, H7, I7, rv, L, ns, b, rfl, hb, hD, keys, few, nx⟩ := z
      cases rk
      exact set_sq (X := X.blk sB HB scope ce fp) hu I7 hD keys few hb rv fun t8 I8 => again ew I8 nx
theorem pe_dcG {kx vx tg iter : Expr} {ifs : List Expr} {scope : Scope} {own : List (Str × Nat)} {pos : Pos} {wi : TI} {g : TG} {tt : TT} {tk tv : TE} (hu : X.A.units < cLine) (hc : X.calm = true) (hN : X.N.Nodup) (hi : PI X tg iter wi) (ok : BlkOk X.N X.env.scope scope own)
    (hg : InBlk X scope fun Y => PG Y tg g) (ht : InBlk X scope fun Y => PTs Y ifs tt) (hk : InBlk X scope fun Y => PE Y kx tk) (hv : InBlk X scope fun Y => PE Y vx tv)
    (hs : ∀ x, foldedSetIterable iter X.env x = pure x := by intro _; rfl) : PE X (.DictComp kx vx [⟨tg, iter, ifs, 0⟩] scope pos) (tDcG X.K X.prog X.w wi g tt tk tv (own.map (·.2))) := by
  constructor
  intro pins s σ H Q I h
  rw [arm_eval_DictComp]
  have fr : ∀ y ∈ scope.names, y.2 = .free → ∃ c, X.env.cells.lookup y.1 = some c := fun y hy e => (ok.free y hy e).elim (fun k => I.ok.has _ (.inl k)) fun k => I.ok.has _ (.inr k)
  refine wpAny_comprehension_free (use := none) rfl hs (closure_ok fr) ok.kind (fun y hy e => by rw [ok.uniq y hy, e]) (thn (hi.run pins s σ H _ I h) fun xv s1 hx => thn hx ?_)
  rintro itv s2 ⟨it, fp, tn, J, H2, rfl, I2, Tn, at2, f2, q⟩
  -- the new dict stands behind all objects
  have Dn : H2 s2.heap.objs.size = none := I2.hok.fresh (Nat.le_refl _)
  obtain ⟨W, ⟨m0, w0⟩, turn⟩ := q s2.heap.objs.size Dn
  have grow : ∀ b o, s2.heap.get? b = some o → (s2.heap.push newD).get? b = some o := fun b o => Heap.get?_push_of_some _
  have I3 : Inv X pins σ (upd H2 s2.heap.objs.size (DGO X.prog X.w s2.heap.objs.size [])) { s2 with heap := s2.heap.push newD } := I2.laid (t' := s2.toks) grow (Nat.le_refl _) (dg_nil s2.heap I2.big)
  have f3 : ∀ b ∈ fp, FpOk X pins (upd H2 s2.heap.objs.size (DGO X.prog X.w s2.heap.objs.size [])) b ∧ b < (s2.heap.push newD).objs.size := fun b hb => by
    have lt := Heap.lt_size (Tn.obj _ _ at2 b hb).choose_spec.1
    obtain ⟨z1, z2⟩ := f2 b hb
    refine ⟨⟨?_, z2⟩, by rw [Heap.size_push]; exact Nat.lt_succ_of_lt lt⟩
    rw [upd_ne (Nat.ne_of_lt lt)]
    exact z1
  have at3 : tn 0 (s2.heap.push newD) := Tn.keep _ _ _ at2 fun b _ => grow b
  have I4 := block_start (X := X) (pins := pins) I3 ok hN f3
  have z1 := hg { s2 with heap := s2.heap.push newD } (upd H2 s2.heap.objs.size (DGO X.prog X.w s2.heap.objs.size [])) (s2.heap.push newD).objs.size (cellsFrom ((s2.heap.push newD).objs.size + 1) scope.names (cloFrom X.env.cells scope.names [])) fp
  have z2 := ht { s2 with heap := s2.heap.push newD } (upd H2 s2.heap.objs.size (DGO X.prog X.w s2.heap.objs.size [])) (s2.heap.push newD).objs.size (cellsFrom ((s2.heap.push newD).objs.size + 1) scope.names (cloFrom X.env.cells scope.names [])) fp
  have z3 := hk { s2 with heap := s2.heap.push newD } (upd H2 s2.heap.objs.size (DGO X.prog X.w s2.heap.objs.size [])) (s2.heap.push newD).objs.size (cellsFrom ((s2.heap.push newD).objs.size + 1) scope.names (cloFrom X.env.cells scope.names [])) fp
  have z4 := hv { s2 with heap := s2.heap.push newD } (upd H2 s2.heap.objs.size (DGO X.prog X.w s2.heap.objs.size [])) (s2.heap.push newD).objs.size (cellsFrom ((s2.heap.push newD).objs.size + 1) scope.names (cloFrom X.env.cells scope.names [])) fp
  refine wpAny_newObj_type (newEnv_comp (show codeAny _ _ (.compStart _ 0 (.ref it) (.ref s2.heap.objs.size) (compEnvC scope (cellsFrom ((s2.heap.push newD).objs.size + 1) scope.names (cloFrom X.env.cells scope.names [])) (s2.heap.push newD).objs.size X.env)) _ _ from ?_))
  have at4 := Tn.keep 0 _ _ at3 fun b _ o e => pushCells_keeps scope.names ((s2.heap.push newD).push newD) b o (Heap.get?_push_of_some _ e)
  have walk := dg_walk (pos := pos) (iter := iter) (D := s2.heap.objs.size) (W := W) (R := compPost (model X.prog X.w) X.A X.xe none (fun v s' => EP X pins σ Q v s') (.ref s2.heap.objs.size) (s2.heap.push newD).objs.size) hu hc Tn z1 z2 z3 z4 turn (fun sE HE IE fin => ?_) ⟨0, _, I4, at4, fun b hb => (f3 b hb).1.1, w0⟩
  · exact codeAny_compStart_dict walk (Tn.self X.A 0 _ _ _ at4 walk)
  -- back in the def
  have IX : Inv X pins σ HE sE := I3.call' (ch := fp) IE.os IE.base IE.hok IE.bare fun b hb => by
    obtain ⟨_, a2, _, a4, a5, a6⟩ := (f3 b hb).1
    exact ⟨a4, a2, a5, a6⟩
  obtain ⟨m, hn, _⟩ := IE.loc
  obtain ⟨c0, c1, _, c3, c4, c5⟩ := I3.fpOk (b := (s2.heap.push newD).objs.size) (Nat.le_refl _) (show HE _ = none from IE.free)
  exact ⟨m, hn, fun h'' sb => ⟨.ref _, HE, IX.turned (t' := sE.toks) (fun b o hb e => (sb.2 b hb).trans e) c0 c1 c3 c4 c5, rfl, fin⟩⟩
end
end Lw

namespace Lw
/-! what hangs together, and its least one; filling by a pile -/
inductive Con (adj : Nat → List Nat) : Nat → Nat → Prop
  | here (i : Nat) : Con adj i i
  | more {i j k : Nat} : Con adj i j → k ∈ adj j → Con adj i k
structure Gph (N : Nat) (adj : Nat → List Nat) : Prop where
  lt : ∀ i, i < N → ∀ j ∈ adj i, j < N
  sym : ∀ i, i < N → ∀ j ∈ adj i, i ∈ adj j
section
variable {N : Nat} {adj : Nat → List Nat}
theorem Con.trans {i j k : Nat} (a : Con adj i j) (b : Con adj j k) : Con adj i k := by
  induction b with
  | here => exact a
  | more _ h ih => exact .more ih h
theorem Con.lt {i j : Nat} (g : Gph N adj) (a : Con adj i j) (hi : i < N) : j < N := by
  induction a with
  | here => exact hi
  | more _ h ih => exact g.lt _ ih _ h
theorem Con.symm {i j : Nat} (g : Gph N adj) (a : Con adj i j) (hi : i < N) : Con adj j i := by
  induction a with
  | here => exact .here _
  | more b h ih => exact Con.trans (.more (.here _) (g.sym _ (b.lt g hi) _ h)) ih
theorem least_ex (p : Nat → Prop) : ∀ n, p n → ∃ m, p m ∧ ∀ k, p k → m ≤ k := fun n => Nat.strongRecOn n fun n ih h => by
  by_cases c : ∃ k, k < n ∧ p k
  · obtain ⟨k, hk, pk⟩ := c
    exact ih k hk pk
  · exact ⟨n, h, fun k pk => Nat.le_of_not_lt fun z => c ⟨k, z, pk⟩⟩
noncomputable def labOf (adj : Nat → List Nat) (i : Nat) : Nat := Classical.choose (least_ex (Con adj i) i (.here i))
theorem labOf_con (i : Nat) : Con adj i (labOf adj i) := (Classical.choose_spec (least_ex (Con adj i) i (.here i))).1
theorem labOf_le {i j : Nat} (h : Con adj i j) : labOf adj i ≤ j := (Classical.choose_spec (least_ex (Con adj i) i (.here i))).2 j h
theorem labOf_eq {i j : Nat} (g : Gph N adj) (hi : i < N) (h : Con adj i j) : labOf adj i = labOf adj j :=
  Nat.le_antisymm (labOf_le (h.trans (labOf_con j))) (labOf_le ((h.symm g hi).trans (labOf_con i)))
theorem labOf_lt {i : Nat} (g : Gph N adj) (hi : i < N) : labOf adj i < N := (labOf_con i).lt g hi
theorem labOf_self {i : Nat} : labOf adj i ≤ i := labOf_le (.here i)
/-- another one that does as labOf -/
theorem labOf_uniq {i m : Nat} (h : Con adj i m) (l : ∀ j, Con adj i j → m ≤ j) : labOf adj i = m := Nat.le_antisymm (labOf_le h) (l _ (labOf_con i))
def below (adj : Nat → List Nat) (q i : Nat) : Int → Prop := fun z => (labOf adj i < q → z = (labOf adj i : Int)) ∧ (¬ labOf adj i < q → z = -1)
/-- all panes whose least one is below q are named -/
structure Nam (N : Nat) (adj : Nat → List Nat) (q : Nat) (F : List Int) : Prop where
  len : F.length = N
  at_ : ∀ i, i < N → ∃ z, F[i]? = some z ∧ below adj q i z
structure Fil (N : Nat) (adj : Nat → List Nat) (r : Nat) (F0 F : List Int) (ws : List Nat) (q : Nat) (dn : List Nat) : Prop where
  len : F.length = N
  ea : ∀ i, i < N → F[i]? = F0[i]? ∨ (F[i]? = some (r : Int) ∧ Con adj r i)
  wk : ∀ i ∈ ws, i < N ∧ F[i]? = some (r : Int)
  pr : ∀ i, i < N → F[i]? = some (r : Int) → i ∉ ws → ∀ j, j ∈ adj i → (i = q → j ∈ dn) → F[j]? = some (r : Int)
  rt : F[r]? = some (r : Int)
theorem Nam.root {q : Nat} {F : List Int} (n : Nam N adj q F) (hq : q < N) (h : F[q]? = some (-1)) : labOf adj q = q := by
  obtain ⟨z, e, b⟩ := n.at_ q hq
  rw [h] at e
  have e := Option.some.inj e
  have l := labOf_self (adj := adj) (i := q)
  by_cases c : labOf adj q < q
  · have := b.1 c
    omega
  · omega
theorem Nam.unset {q i : Nat} {F : List Int} (g : Gph N adj) (n : Nam N adj q F) (hq : q < N) (h : labOf adj q = q) (c : Con adj q i) : F[i]? = some (-1) := by
  have hi := c.lt g hq
  have e := labOf_eq g hq c
  obtain ⟨z, ez, b⟩ := n.at_ i hi
  rw [ez, b.2 (by omega)]
theorem get_set {F : List Int} {i j : Nat} {z : Int} (hj : j < F.length) : (F.set j z)[i]? = if i = j then some z else F[i]? := by
  rw [List.getElem?_set]
  by_cases c : j = i
  · subst c
    rw [if_pos rfl, if_pos hj, if_pos rfl]
  · rw [if_neg c, if_neg (fun e => c e.symm)]
/-- the beginning -/
theorem Fil.start {r : Nat} {F0 : List Int} (g : Gph N adj) (n : Nam N adj r F0) (hr : r < N) (h : F0[r]? = some (-1)) : Fil N adj r F0 (F0.set r (r : Int)) [r] N [] := by
  have hl : r < F0.length := by rw [n.len]; exact hr
  have root := n.root hr h
  have only : ∀ i, i < N → F0[i]? = some (r : Int) → False := fun i hi e => by
    obtain ⟨z, ez, b⟩ := n.at_ i hi
    rw [e] at ez
    have ez := Option.some.inj ez
    by_cases c : labOf adj i < r
    · have := b.1 c
      omega
    · have := b.2 c
      omega
  refine ⟨by rw [List.length_set]; exact n.len, fun i hi => ?_, fun i hi => ?_, fun i hi e ni j hj _ => ?_, ?_⟩
  · rw [get_set hl]
    by_cases c : i = r
    · rw [if_pos c]
      exact .inr ⟨rfl, c ▸ .here i⟩
    · rw [if_neg c]
      exact .inl rfl
  · rw [List.mem_singleton.mp hi, get_set hl, if_pos rfl]
    exact ⟨hr, rfl⟩
  · rw [get_set hl] at e
    by_cases c : i = r
    · exact absurd (by rw [c]; exact List.mem_singleton.mpr rfl) ni
    · rw [if_neg c] at e
      exact (only i hi e).elim
  · rw [get_set hl, if_pos rfl]
theorem Fil.con {r : Nat} {F0 F : List Int} {ws : List Nat} {q : Nat} {dn : List Nat} {i : Nat} (g : Gph N adj) (n : Nam N adj r F0) (f : Fil N adj r F0 F ws q dn) (hi : i < N) (h : F[i]? = some (r : Int)) : Con adj r i := by
  rcases f.ea i hi with e | e
  · obtain ⟨z, ez, b⟩ := n.at_ i hi
    rw [← e, h] at ez
    have ez := Option.some.inj ez
    by_cases c : labOf adj i < r
    · have := b.1 c
      omega
    · have := b.2 c
      omega
  · exact e.2
/-- one is taken off the pile -/
theorem Fil.pop {r : Nat} {F0 F : List Int} {ws : List Nat} {q : Nat} {p : Nat} (f : Fil N adj r F0 F (ws ++ [q]) p (adj p)) : Fil N adj r F0 F ws q [] := by
  refine ⟨f.len, f.ea, fun i hi => f.wk i (List.mem_append_left _ hi), fun i hi e ni j hj d => ?_, f.rt⟩
  by_cases c : i = q
  · cases d c
  · refine f.pr i hi e (fun z => ?_) j hj fun e => e ▸ hj
    rcases List.mem_append.mp z with z | z
    · exact ni z
    · exact c (List.mem_singleton.mp z)
/-- the neighbour is named already -/
theorem Fil.skip {r : Nat} {F0 F : List Int} {ws : List Nat} {q j : Nat} {dn : List Nat} (g : Gph N adj) (n : Nam N adj r F0) (hr : r < N) (root : labOf adj r = r) (f : Fil N adj r F0 F ws q dn) (hq : q < N) (eq : F[q]? = some (r : Int)) (hj : j ∈ adj q) (h : F[j]? ≠ some (-1)) : Fil N adj r F0 F ws q (dn ++ [j]) := by
  have cj : Con adj r j := .more (f.con g n hq eq) hj
  have ej : F[j]? = some (r : Int) := by
    rcases f.ea j (g.lt q hq j hj) with e | e
    · rw [n.unset g hr root cj] at e
      exact absurd e h
    · exact e.1
  refine ⟨f.len, f.ea, f.wk, fun i hi e ni k hk d => ?_, f.rt⟩
  by_cases c : k = j
  · rw [c]
    exact ej
  · refine f.pr i hi e ni k hk fun z => ?_
    rcases List.mem_append.mp (d z) with z | z
    · exact z
    · exact absurd (List.mem_singleton.mp z) c
/-- the neighbour is named now, and laid on the pile -/
theorem Fil.push {r : Nat} {F0 F : List Int} {ws : List Nat} {q j : Nat} {dn : List Nat} (g : Gph N adj) (n : Nam N adj r F0) (f : Fil N adj r F0 F ws q dn) (hq : q < N) (eq : F[q]? = some (r : Int)) (hj : j ∈ adj q) : Fil N adj r F0 (F.set j (r : Int)) (ws ++ [j]) q (dn ++ [j]) := by
  have cj : Con adj r j := .more (f.con g n hq eq) hj
  have jl : j < N := g.lt q hq j hj
  have hl : j < F.length := by rw [f.len]; exact jl
  refine ⟨by rw [List.length_set]; exact f.len, fun i hi => ?_, fun i hi => ?_, fun i hi e ni k hk d => ?_, ?_⟩
  · rw [get_set hl]
    by_cases c : i = j
    · rw [if_pos c]
      exact .inr ⟨rfl, c ▸ cj⟩
    · rw [if_neg c]
      exact f.ea i hi
  · rw [get_set hl]
    rcases List.mem_append.mp hi with z | z
    · have w := f.wk i z
      by_cases c : i = j
      · rw [if_pos c]
        exact ⟨w.1, rfl⟩
      · rw [if_neg c]
        exact w
    · obtain rfl := List.mem_singleton.mp z
      rw [if_pos rfl]
      exact ⟨jl, rfl⟩
  · rw [get_set hl] at e ⊢
    by_cases c : k = j
    · rw [if_pos c]
    · rw [if_neg c]
      have cij : i ≠ j := fun z => ni (by rw [z]; exact List.mem_append_right _ (List.mem_singleton.mpr rfl))
      rw [if_neg cij] at e
      refine f.pr i hi e (fun z => ni (List.mem_append_left _ z)) k hk fun z => ?_
      rcases List.mem_append.mp (d z) with z | z
      · exact z
      · exact absurd (List.mem_singleton.mp z) c
  · rw [get_set hl]
    by_cases c : r = j
    · rw [if_pos c]
    · rw [if_neg c]
      exact f.rt
/-- all neighbours were looked at -/
theorem Fil.turn {r : Nat} {F0 F : List Int} {ws : List Nat} {q : Nat} (f : Fil N adj r F0 F ws q (adj q)) : Fil N adj r F0 F ws q (adj q) := f
/-- the pile is empty -/
theorem Fil.done {r : Nat} {F0 F : List Int} {q : Nat} (g : Gph N adj) (n : Nam N adj r F0) (hr : r < N) (root : labOf adj r = r) (f : Fil N adj r F0 F [] q (adj q)) : Nam N adj (r + 1) F := by
  have all : ∀ i, Con adj r i → F[i]? = some (r : Int) := fun i c => by
    induction c with
    | here => exact f.rt
    | @more j k b h ih => exact f.pr j (b.lt g hr) ih (fun z => nomatch z) k h fun e => e ▸ h
  refine ⟨f.len, fun i hi => ?_⟩
  obtain ⟨z, ez, b⟩ := n.at_ i hi
  by_cases c : labOf adj i < r
  · refine ⟨z, ?_, fun _ => b.1 c, fun d => absurd (Nat.lt_succ_of_lt c) d⟩
    rcases f.ea i hi with e | e
    · rw [e]
      exact ez
    · have := labOf_eq g hr e.2
      omega
  · by_cases d : labOf adj i = r
    · have ci : Con adj r i := (d ▸ labOf_con i : Con adj i r).symm g hi
      exact ⟨r, all i ci, fun _ => by rw [d], fun w => absurd (by omega) w⟩
    · refine ⟨z, ?_, fun w => absurd (by omega) d, fun _ => b.2 c⟩
      rcases f.ea i hi with e | e
      · rw [e]
        exact ez
      · have := labOf_eq g hr e.2
        omega
/-- no new pane begins at q -/
theorem Nam.next {q : Nat} {F : List Int} (g : Gph N adj) (n : Nam N adj q F) (hq : q < N) (h : F[q]? ≠ some (-1)) : Nam N adj (q + 1) F := by
  have lq : labOf adj q < q := by
    obtain ⟨z, e, b⟩ := n.at_ q hq
    by_cases c : labOf adj q < q
    · exact c
    · rw [b.2 c] at e
      exact absurd e h
  refine ⟨n.len, fun i hi => ?_⟩
  obtain ⟨z, e, b⟩ := n.at_ i hi
  refine ⟨z, e, fun c => ?_, fun c => b.2 (by omega)⟩
  by_cases d : labOf adj i < q
  · exact b.1 d
  · have eq : labOf adj i = q := by omega
    have := labOf_eq g hi (labOf_con i)
    rw [eq] at this
    omega
noncomputable def labsOf (N : Nat) (adj : Nat → List Nat) : List Int := (List.range N).map fun i => (labOf adj i : Int)
theorem Nam.all {F : List Int} (g : Gph N adj) (n : Nam N adj N F) : F = labsOf N adj := by
  unfold labsOf
  refine List.ext_getElem? fun i => ?_
  by_cases c : i < N
  · obtain ⟨z, e, b⟩ := n.at_ i c
    rw [e, b.1 (labOf_lt g c), List.getElem?_map, List.getElem?_range c]
    rfl
  · rw [List.getElem?_eq_none (by rw [n.len]; omega), List.getElem?_eq_none (by rw [List.length_map, List.length_range]; omega)]
theorem Nam.begin : Nam N adj 0 (List.replicate N (-1)) := ⟨List.length_replicate, fun i hi => ⟨-1, by rw [List.getElem?_replicate, if_pos hi], fun c => absurd c (Nat.not_lt_zero _), fun _ => rfl⟩⟩
/-- how many have no name -/
def cntM : List Int → Nat
  | [] => 0
  | x :: xs => (if x = -1 then 1 else 0) + cntM xs
theorem cntM_le : ∀ F : List Int, cntM F ≤ F.length
  | [] => Nat.le_refl _
  | x :: xs => by
    have ih := cntM_le xs
    show (if x = -1 then 1 else 0) + cntM xs ≤ xs.length + 1
    split <;> omega
theorem cntM_set : ∀ {F : List Int} {j : Nat} {z : Int}, F[j]? = some (-1) → z ≠ -1 → cntM (F.set j z) + 1 = cntM F
  | [], j, z, h, _ => by cases j <;> cases h
  | x :: xs, 0, z, h, hz => by
    have h : x = -1 := Option.some.inj h
    show (if z = -1 then 1 else 0) + cntM xs + 1 = (if x = -1 then 1 else 0) + cntM xs
    rw [if_neg hz, if_pos h]
    omega
  | x :: xs, j + 1, z, h, hz => by
    have ih := cntM_set (F := xs) (j := j) (z := z) h hz
    show (if x = -1 then 1 else 0) + cntM (xs.set j z) + 1 = (if x = -1 then 1 else 0) + cntM xs
    omega
end
end Lw

namespace Lw
open PySem.Spec PySem L2 PyProof.Rows
open Evl (Ex Ex.refl Ex.trans Ex.new Ex.off ex_rd ex_l ex_t)
/-! tuples of tuples of numbers at the top -/
def tupAt (K : Fg) (a : Addr) : Option (List Value) := match K.lookup a with
  | some ⟨.type c, _, .seq its _, _⟩ => if c = "tuple" ∧ its.size ≤ sizeLine then some its.toList else none
  | _ => none
def rowsB (K : Fg) : List Value → List (List Int) → Bool
  | [], [] => true
  | .ref a :: us, r :: rs => (match tupAt K a with | some its => He.relAll (r.map V.int) its | none => false) && rowsB K us rs
  | _, _ => false
def tup2B (K : Fg) (x : Str) (rs : List (List Int)) : Bool := match tupAt K (He.ga K x) with
  | some us => rowsB K us rs
  | none => false
theorem tupAt_sq {K : Fg} {a : Addr} {us : List Value} {xs : List V} (h : tupAt K a = some us) (r : Vals xs us) (H : Hp) : SqT K H a xs := by
  unfold tupAt at h
  split at h
  · rename_i c d its n sl e
    split at h
    · rename_i z
      cases h
      exact .inr ⟨_, its, n, e, by rw [z.1], rfl, z.2, r⟩
    · cases h
  · cases h
theorem rows_ok {K : Fg} (H : Hp) : ∀ {us : List Value} {rs : List (List Int)}, rowsB K us rs = true → ∃ xs, Vals xs us ∧ DpAll K H xs (rs.map encT)
  | [], [], _ => ⟨[], .nil, .nil⟩
  | .ref a :: us, r :: rs, h => by
    have h : ((match tupAt K a with | some its => He.relAll (r.map V.int) its | none => false) && rowsB K us rs) = true := h
    obtain ⟨h1, h2⟩ := Bool.and_eq_true_iff.mp h
    obtain ⟨xs, vx, dx⟩ := rows_ok H h2
    cases q : tupAt K a with
    | none =>
      rw [q] at h1
      cases h1
    | some its =>
      rw [q] at h1
      exact ⟨.ref a :: xs, .cons rfl vx, .cons (.tup (tupAt_sq q (He.relAll_ok h1) H) (dpAll_ints r)) dx⟩
  | [], _ :: _, h => by cases h
  | .ref _ :: _, [], h => by cases h
  | .none :: _, _, h => by cases h
  | .bool _ :: _, _, h => by cases h
  | .int _ _ :: _, _, h => by cases h
  | .str _ _ :: _, _, h => by cases h
theorem tup2_ok {K : Fg} {x : Str} {rs : List (List Int)} (h : tup2B K x rs = true) (H : Hp) : Dp K H (.ref (He.ga K x)) (.tuple (rs.map encT)) := by
  unfold tup2B at h
  cases q : tupAt K (He.ga K x) with
  | none =>
    rw [q] at h
    cases h
  | some us =>
    rw [q] at h
    obtain ⟨xs, vx, dx⟩ := rows_ok H h
    exact .tup (tupAt_sq q vx H) dx
/-! dicts whose keys are tuples of numbers, told by their keys -/
def DpK (K : Fg) (P : Program) (w : World) (G : Hp) (v : V) (ks : List (List Int)) : Prop := ∃ (a : Addr) (L : List Ent), v = .ref a ∧ G a = some (DGO P w a L) ∧ keysOf K G L ∧ ∀ k, k ∈ L.map (·.1) ↔ k ∈ ks
section
variable {K : Fg} {P : Program} {w : World} {B : Bg} {G G' H : Hp} {σ : L2.St} {te ta tb tk tv : TE} {tr : TA} {tt : TT} {d : PyData} {ds es : List PyData} {D : Ends} {t u : TS} {b : Bool} {v : V} {ks ls : List (List Int)} {i : Nat}
theorem dpK_mono (e : Ex G G') (h : DpK K P w G v ks) : DpK K P w G' v ks := by
  obtain ⟨a, L, rfl, h1, h2, h3⟩ := h
  exact ⟨a, L, rfl, e _ _ h1, keys_mono e h2, h3⟩
def RetJ (K : Fg) (P : Program) (w : World) (B : Bg) (G H : Hp) (Q : VK) (ks : List (List Int)) : Prop := ∀ v G2 H2, Ext K B G H G2 H2 → DpK K P w G2 v ks → Q v H2
def EvJ (K : Fg) (P : Program) (w : World) (B : Bg) (te : TE) (σ : L2.St) (G : Hp) (ks : List (List Int)) : Prop := ∀ H, Ok K B G H → ∀ Q : VK, RetJ K P w B G H Q ks → te σ H Q
theorem RetJ.mono {Q : VK} {G1 H1 : Hp} (X : Ext K B G H G1 H1) (h : RetJ K P w B G H Q ks) : RetJ K P w B G1 H1 Q ks := fun v G2 H2 X2 dv => h v G2 H2 (X.trans X2) dv
theorem ek_call {sp : Sp} {dvs : List V} {E : XK} (ha : EvA K B tr σ G ds) (hs : ∀ vs G2 H2, Ex G G2 → Ok K B G2 H2 → DpAll K G2 vs ds → ∀ Q, RetJ K P w B G2 H2 Q ks → sp (vs ++ dvs) H2 Q E) : EvJ K P w B (tCall sp dvs E tr) σ G ks := fun H e Q q =>
  ha H e _ fun vs G2 H2 X dv => hs vs G2 H2 X.gg X.ok dv Q (q.mono X)
theorem st_retK (h : EvJ K P w B te σ G ks) (e : Ok K B G H) (k : RetJ K P w B G H D.rt ks) : tRet te D σ H := h H e _ k
theorem sq_setK (h : EvJ K P w B te σ G ks) (e : Ok K B G H) (k : ∀ v G2 H2, Ext K B G H G2 H2 → DpK K P w G2 v ks → u D (σ.set i (some v)) H2) : tSeq (tAsg te (gName i)) u D σ H := h H e _ k
theorem ed_inK {neg : Bool} {k : List Int} (h : EvD K B te σ G (encT k)) (hσ : σ[i]? = some (some v)) (d : DpK K P w G v ks) : EvD K B (tOp (rInK K P w neg) te (tVar i)) σ G (.bool (neg ^^ decide (k ∈ ks))) := fun H e Q q =>
  h H e _ fun x G2 H2 X dx => by
    obtain ⟨a, L, rfl, h1, h2, h3⟩ := d
    obtain ⟨p, rfl, sp⟩ := dp_encV dx
    refine ⟨.ref a, hσ, a, p, L, k, rfl, rfl, ex_t X.ok.e sp, X.ok.e _ _ (X.gg _ _ h1), keys_mono (X.gg.trans X.ok.e) h2, ?_⟩
    have e1 : decide (k ∈ L.map (·.1)) = decide (k ∈ ks) := decide_eq_decide.mpr (h3 k)
    rw [e1]
    exact q _ G2 H2 X (.bl _)
theorem dc_it {J : It} {n : Nat} {Gd : Hp → Prop} {Y : Nat → Hp → V → Hp → Prop} (wk : Walk J n Gd Y) {g : TG} {vs : List Nat} {H1 : Hp} {D : Addr} {Qd : Hp → Prop} (Pv : Nat → Hp → Prop) (h0 : Pv 0 (upd H1 D (DGO P w D []))) (hG : ∀ i H, i ≤ n → Pv i H → Gd H)
    (hs : ∀ i x H H', i < n → Pv i H → Y i H x H' → g x (wipe σ vs) H' fun σ2 H2 => wipe σ2 vs = wipe σ vs ∧ tt σ2 H2 fun b H3 => if b = true then tk σ2 H3 fun y H4 => tv σ2 H4 fun z H5 => ∃ (L : List Ent) (ns : List Int) (b : Addr), y = .ref b ∧ SqT K H5 b (ns.map V.int) ∧ H5 D = some (DGO P w D L) ∧ keysOf K H5 L ∧ L.length < sizeLine ∧ Pv (i + 1) (upd H5 D (DGO P w D (putG L ns b z))) else Pv (i + 1) H3)
    (hd : ∀ H, Pv n H → Qd H) :
    ∃ W : Nat → Nat → Hp → Prop, (∃ m, W 0 m (upd H1 D (DGO P w D []))) ∧ ∀ i m H, W i m H → (J.stop i H ∧ Qd H) ∨ (J.go i H ∧ ∃ Nx : Hp → Prop, (∀ H', Nx H' → ∃ m', m' < m ∧ W (i + 1) m' H') ∧ ∀ x H', J.yld i H x H' → g x (wipe σ vs) H' fun σ2 H2 =>
      wipe σ2 vs = wipe σ vs ∧ tt σ2 H2 fun b H3 => if b = true then tk σ2 H3 fun y H4 => tv σ2 H4 fun z H5 => ∃ (L : List Ent) (ns : List Int) (b : Addr), y = .ref b ∧ SqT K H5 b (ns.map V.int) ∧ H5 D = some (DGO P w D L) ∧ keysOf K H5 L ∧ L.length < sizeLine ∧ Nx (upd H5 D (DGO P w D (putG L ns b z))) else Nx H3) := by
  refine ⟨fun i m H => m = n - i ∧ i ≤ n ∧ Pv i H, ⟨n, (Nat.sub_zero n).symm, Nat.zero_le _, h0⟩, ?_⟩
  rintro i m H ⟨rfl, hi, p⟩
  have gd := hG i H hi p
  rcases Nat.lt_or_ge i n with lt | ge
  · exact .inr ⟨wk.goes i H lt gd, Pv (i + 1), fun H' p' => ⟨n - (i + 1), by omega, rfl, lt, p'⟩, fun x H' y => hs i x H H' lt p (wk.yields i H x H' lt gd y)⟩
  · obtain rfl : i = n := Nat.le_antisymm hi ge
    exact .inl ⟨wk.stops H gd, hd H p⟩
/-- {x: True for x in xs} -/
theorem ek_dcL (ha : EvD K B ta σ G (.list (ls.map encT))) (hn : ls.length < 100000) (hi : ∀ v, ((σ.set i none).set i (some v))[i]? = some (some v)) : EvJ K P w B (tDcG K P w (iList K ta) (gName i) tYes (tVar i) (tC (.bl true)) [i]) σ G ls := fun H e Q q =>
  ha H e _ fun v G1 H1 X dv => by
    obtain ⟨a, xs, rfl, hs, hx⟩ := dp_lst dv
    refine ⟨a, rfl, ⟨xs, ex_l X.ok.e hs⟩, fun D hD => ?_⟩
    have nb := X.ok.b.ne hD
    refine dc_it (walk_list (K := K) (a := a) (xs := xs)) (Qd := fun H => Q (.ref D) H) (fun j H' => ∃ (G' : Hp) (L : List Ent), Ext K B G1 H1 G' H' ∧ G' D = none ∧ H' D = some (DGO P w D L) ∧ keysOf K G' L ∧ L.length ≤ j ∧ ∀ m, m ∈ L.map (·.1) ↔ m ∈ ls.take j)
      ⟨G1, [], Ext.loose X.ok hD, X.ok.e.off hD, upd_same, (fun _ h => by cases h), Nat.le_refl _, fun m => by rw [List.take_zero]; exact Iff.rfl⟩ ?_ ?_ ?_
    · rintro j H' _ ⟨G', L, X', _⟩
      exact ex_l (X'.gg.trans X'.ok.e) hs
    · rintro j x H' H2 hj ⟨G', L, X', g', h', k', l', m'⟩ ⟨rfl, hx'⟩
      obtain ⟨d, hd, dx⟩ := dpAll_at hx hx'
      rw [List.getElem?_map] at hd
      obtain ⟨k, ek, rfl⟩ : ∃ k, ls[j]? = some k ∧ d = encT k := by
        cases z : ls[j]? with
        | none =>
          rw [z] at hd
          cases hd
        | some k =>
          rw [z] at hd
          exact ⟨k, rfl, (Option.some.inj hd).symm⟩
      obtain ⟨p, rfl, sp⟩ := dp_encV dx
      refine ⟨?_, ?_⟩
      · show (((σ.set i none).set i (some (.ref p))).set i none) = σ.set i none
        rw [List.set_set, List.set_set]
      · refine ⟨.ref p, hi _, L, k, p, rfl, ex_t (X'.gg.trans X'.ok.e) sp, h', keys_mono X'.ok.e k', ?_, ?_⟩
        · have := (List.getElem?_eq_some_iff.mp ek).1
          exact szl (by omega)
        · refine ⟨G', _, ⟨X'.gg, fun a u n z => ?_, X'.fr, X'.ok.mut g' nb⟩, g', upd_same, putG_sq k' (ex_t X'.gg sp), Nat.le_trans (putG_len _ _ _ _) (Nat.succ_le_succ l'), fun m => ?_⟩
          · rw [upd_ne (ne_of_none z hD)]
            exact X'.hh a u n z
          · rw [putG_keys, m', List.take_add_one, ek, List.mem_append]
            exact or_congr Iff.rfl List.mem_singleton.symm
    · rintro H' ⟨G', L, X', g', h', k', l', m'⟩
      have len : xs.length = ls.length := (dpAll_len hx).trans (List.length_map _)
      have F := (X.trans X').freeze (X.old nb hD) g' nb h'
      refine q _ _ _ F ⟨D, L, rfl, upd_same, keys_mono (Ex.new g') k', fun m => ?_⟩
      rw [m', len, List.take_length]
/-! a list that another def fills -/
theorem Ok.hit {H2 : Hp} {f : Addr} (e : Ok K B G H) (g : G f = none) (nb : ¬ isB B f) (k : ∀ a o, a ≠ f → H a = some o → H2 a = some o) : Ok K B G H2 :=
  ⟨fun a o h => k a o (ne_of_none h g) (e.e a o h), e.c, e.b.keep (fun _ _ z => z) fun a o z h => k a o (fun w => nb (w ▸ z)) h⟩
theorem Loo.hit {G0 H0 H2 : Hp} {f : Addr} {xs : List V} (l : Loo K B G0 H0 G H f ds) (k : ∀ a o, a ≠ f → H a = some o → H2 a = some o) (h : H2 f = some (.lst xs)) (a : DpAll K G xs es) : Loo K B G0 H0 G H2 f es :=
  ⟨⟨l.x.gg, fun a o n z => k a o (ne_of_none z l.h0) (l.x.hh a o n z), l.x.fr, l.x.ok.hit l.g l.nb k⟩, l.h0, l.g, l.nb, xs, h, a⟩
theorem ok_nil (H : Hp) : Ok K none H H := ⟨Ex.refl H, fun _ _ z => (by cases z), fun _ _ z => (by cases z)⟩
theorem Ext.nilE {G2 H2 : Hp} (X : Ext K none G H G2 H2) : Ex H H2 := fun a o h => X.hh a o (fun ⟨_, q⟩ => by cases q) h
end
end Lw

namespace Lw
open PySem.Spec PySem L2 PyProof.Rows
open Evl (Ex Ex.refl Ex.trans Ex.new Ex.off ex_rd ex_l ex_t)
section
variable {K : Fg} {B : Bg} {G G' H : Hp} {σ : L2.St} {te ta tb : TE} {tr : TA} {tt : TT} {d : PyData} {ds es : List PyData} {D : Ends} {t u : TS} {b : Bool}
theorem sq_par3 {i j l : Nat} {a b c : Int} (h : EvA K B tr σ G [.int a, .int b, .int c]) (e : Ok K B G H) (k : ∀ G2 H2, Ext K B G H G2 H2 → u D (((σ.set i (some (.int a))).set j (some (.int b))).set l (some (.int c))) H2) : tSeq (tPar3 i j l tr) u D σ H :=
  h H e _ fun vs G2 H2 X dv => by
    obtain rfl := dpAll_intsV (bs := [a, b, c]) dv
    exact ⟨_, _, _, rfl, k G2 H2 X⟩
theorem at_int {F : List Int} {j : Nat} {z : Int} (h : F[j]? = some z) : atI (F.map PyData.int) (j : Int) = some (.int z) := by
  refine atI_nat ?_
  rw [List.getElem?_map, h]
  rfl
end
end Lw

namespace Lw
open PySem.Spec PySem L2 PyProof.Rows
open Evl (Ex Ex.refl Ex.trans Ex.new Ex.off ex_rd ex_l ex_t)
/-! sorted(set(numbers)) -/
def insI (x : Int) (l : List Int) : List Int := match l with
  | [] => [x]
  | y :: ys => if x < y then x :: y :: ys else if x = y then y :: ys else y :: insI x ys
def sset (ns : List Int) : List Int := ns.foldr insI []
theorem insI_mem {x z : Int} : ∀ {ys : List Int}, z ∈ insI x ys ↔ z = x ∨ z ∈ ys
  | [] => by
    show z ∈ [x] ↔ _
    rw [List.mem_singleton]
    exact ⟨.inl, fun h => h.resolve_right fun q => by cases q⟩
  | y :: ys => by
    unfold insI
    split
    · rw [List.mem_cons]
    · split
      · rename_i h
        rw [h]
        exact ⟨.inr, fun h => h.elim (fun e => e ▸ List.mem_cons_self) id⟩
      · rw [List.mem_cons, insI_mem, List.mem_cons]
        exact ⟨fun h => h.elim (fun e => .inr (.inl e)) fun h => h.elim .inl fun q => .inr (.inr q), fun h => h.elim (fun e => .inr (.inl e)) fun h => h.elim .inl fun q => .inr (.inr q)⟩
theorem insI_srt {x : Int} : ∀ {ys : List Int}, ys.Pairwise (· < ·) → (insI x ys).Pairwise (· < ·)
  | [], _ => List.pairwise_singleton _ _
  | y :: ys, h => by
    have h2 := List.pairwise_cons.mp h
    unfold insI
    split
    · rename_i c
      refine List.pairwise_cons.mpr ⟨fun z hz => ?_, h⟩
      cases hz with
      | head => exact c
      | tail _ hz =>
        have := h2.1 z hz
        omega
    · split
      · exact h
      · refine List.pairwise_cons.mpr ⟨fun z hz => ?_, insI_srt h2.2⟩
        rcases insI_mem.mp hz with rfl | hz
        · omega
        · exact h2.1 z hz
theorem sset_mem {ns : List Int} {z : Int} : z ∈ sset ns ↔ z ∈ ns := by
  unfold sset
  induction ns with
  | nil => exact Iff.rfl
  | cons n ns ih => rw [List.foldr_cons, insI_mem, ih, List.mem_cons]
theorem sset_srt (ns : List Int) : (sset ns).Pairwise (· < ·) := by
  unfold sset
  induction ns with
  | nil => exact List.Pairwise.nil
  | cons n ns ih => exact insI_srt ih
theorem srt_uniq : ∀ {l m : List Int}, l.Pairwise (· < ·) → m.Pairwise (· < ·) → (∀ z, z ∈ l ↔ z ∈ m) → l = m
  | [], [], _, _, _ => rfl
  | [], y :: ys, _, _, h => by cases (h y).mpr List.mem_cons_self
  | x :: xs, [], _, _, h => by cases (h x).mp List.mem_cons_self
  | x :: xs, y :: ys, hl, hm, h => by
    have l2 := List.pairwise_cons.mp hl
    have m2 := List.pairwise_cons.mp hm
    have e : x = y := by
      rcases List.mem_cons.mp ((h x).mp List.mem_cons_self) with e | hx
      · exact e
      · rcases List.mem_cons.mp ((h y).mpr List.mem_cons_self) with e | hy
        · exact e.symm
        · have := l2.1 y hy
          have := m2.1 x hx
          omega
    subst e
    refine congrArg _ (srt_uniq l2.2 m2.2 fun z => ⟨fun hz => ?_, fun hz => ?_⟩)
    · rcases List.mem_cons.mp ((h z).mp (List.mem_cons_of_mem _ hz)) with rfl | q
      · exact absurd (l2.1 z hz) (Int.lt_irrefl z)
      · exact q
    · rcases List.mem_cons.mp ((h z).mpr (List.mem_cons_of_mem _ hz)) with rfl | q
      · exact absurd (m2.1 z hz) (Int.lt_irrefl z)
      · exact q
section
variable {K : Fg} {w : World} {B : Bg} {G G' H : Hp} {σ : L2.St} {te ta tb : TE} {tr : TA} {tt : TT} {d : PyData} {ds es : List PyData} {D : Ends} {t u : TS} {b : Bool}
/-! lists of drawn items -/
def RetFS (K : Fg) (B : Bg) (G H : Hp) (Q : VK) (S : List PyData → Prop) : Prop := ∀ p xs ds G2 H2, S ds → Ext K B G H G2 H2 → H p = none → G2 p = none → ¬ isB B p → H2 p = some (.lst xs) → DpAll K G2 xs ds → Q (.ref p) H2
def EvFS (K : Fg) (B : Bg) (te : TE) (σ : L2.St) (G : Hp) (S : List PyData → Prop) : Prop := ∀ H, Ok K B G H → ∀ Q : VK, RetFS K B G H Q S → te σ H Q
end
end Lw

namespace Lw
open PySem.Spec PySem L2 PyProof.Rows
open Evl (Ex Ex.refl Ex.trans Ex.new Ex.off ex_rd ex_l ex_t)
theorem shp_int (i : Int) : SeqAt.shaped (.int i) = true := by rfl
theorem shp_ints (ns : List Int) : SeqAt.shaped (.list (ns.map PyData.int)) = true := by
  obtain ⟨k1, k2⟩ := lay_ints ns
  exact shp (by simp [PyData.canLay0, k1]) (by simp [PyData.depth, k2])
section
variable {K : Fg} {w : World} {B : Bg} {G G' H : Hp} {σ : L2.St} {te ta tb : TE} {tr : TA} {tt : TT} {d : PyData} {ds es : List PyData} {D : Ends} {t u : TS} {b : Bool}
/-! a list made meanwhile, and a list of it and a number -/
structure One (K : Fg) (B : Bg) (G0 H0 G H : Hp) (p0 pf : Addr) (ds : List PyData) (k : Int) : Prop where
  x : Ext K B G0 H0 G H
  h0 : H0 p0 = none ∧ H0 pf = none
  g : G p0 = none ∧ G pf = none
  nb : ¬ isB B p0 ∧ ¬ isB B pf
  ne : p0 ≠ pf
  a : ∃ xs, H p0 = some (.lst xs) ∧ H pf = some (.lst [.ref p0, .int k]) ∧ DpAll K G xs ds
theorem One.step {G0 H0 G2 H2 : Hp} {p0 pf : Addr} {k : Int} (l : One K B G0 H0 G H p0 pf ds k) (X : Ext K B G H G2 H2) : One K B G0 H0 G2 H2 p0 pf ds k := by
  obtain ⟨xs, a0, af, d0⟩ := l.a
  exact ⟨l.x.trans X, l.h0, ⟨X.fr _ _ a0 l.g.1, X.fr _ _ af l.g.2⟩, l.nb, l.ne, xs, X.hh _ _ l.nb.1 a0, X.hh _ _ l.nb.2 af, dpAll_mono X.gg d0⟩
/-- all of it, frozen for a test -/
theorem One.see {G0 H0 : Hp} {p0 pf : Addr} {k : Int} (l : One K B G0 H0 G H p0 pf ds k) : ∃ G1, Ex G G1 ∧ Ok K B G1 H ∧ Dp K G1 (.ref pf) (.list [.list ds, .int k]) := by
  obtain ⟨xs, a0, af, d0⟩ := l.a
  have gf : upd G p0 (.lst xs) pf = none := by
    rw [upd_ne (Ne.symm l.ne)]
    exact l.g.2
  have e0 : Ex G (upd G p0 (.lst xs)) := Ex.new l.g.1
  have ef : Ex (upd G p0 (.lst xs)) (upd (upd G p0 (.lst xs)) pf (.lst [.ref p0, .int k])) := Ex.new gf
  have F := (l.x.freeze l.h0.1 l.g.1 l.nb.1 a0).freeze l.h0.2 gf l.nb.2 af
  exact ⟨_, e0.trans ef, F.ok, .lst (SqL.of upd_same) (.cons (dp_mono ef (.lst (SqL.of upd_same) (dpAll_mono e0 d0))) (.cons (.int k) .nil))⟩
/-- xs + e, xs a name of a list that is kept -/
theorem ef_catN {i : Nat} {p : Addr} {xs : List V} (hσ : σ[i]? = some (some (.ref p))) (hp : G p = some (.lst xs)) (a : DpAll K G xs ds) (hb : EvF K B tb σ G es) (hl : ds.length + es.length ≤ 100000) : EvF K B (tOp rCat (tVar i) tb) σ G (ds ++ es) := fun H e Q q =>
  ⟨.ref p, hσ, hb H e _ fun o ys G2 H2 X2 ho g2 nb2 h2 a2 => by
    refine ⟨p, o, xs, ys, rfl, rfl, X2.ok.e _ _ (X2.gg _ _ hp), h2, ?_, fun r hr => ?_⟩
    · rw [dpAll_len a, dpAll_len a2]
      exact sz hl
    · have n3 := X2.ok.b.ne hr
      exact q r _ G2 _ (X2.trans (Ext.loose X2.ok hr)) (X2.old n3 hr) (X2.ok.e.off hr) n3 upd_same (dpAll_app (dpAll_mono X2.gg a) a2)⟩
end
end Lw

namespace Lw
open PySem.Spec PySem L2 PyProof.Rows
open Evl (Ex Ex.refl Ex.trans Ex.new Ex.off ex_rd ex_l ex_t)
/-! try .. except (X, Y) as n -/
theorem traced_up {h h' base : Heap} {e : Addr} {Z : Obj → Prop} {fl : Value} (k : ∀ b o, h.get? b = some o → h'.get? b = some o) (x : HandSPX.TracedZ h base e Z fl) : HandSPX.TracedZ h' base e Z fl := by
  obtain ⟨oe, vs, T, oT, ts, a1, a2, a3, a4, a5, a6, a7, a8⟩ := x
  exact ⟨oe, vs, T, oT, ts, k _ _ a1, a2, a3, a4, a5, a6, k _ _ a7, a8⟩
theorem flying_up {h h' base : Heap} {l : List Env} {e : Addr} {Z : Obj → Prop} (k : ∀ b o, h.get? b = some o → h'.get? b = some o) (x : HandSPX.FlyingZ base l e Z h) : HandSPX.FlyingZ base l e Z h' := by
  obtain ⟨f1, f2, f3, f4⟩ := x
  exact ⟨fun b o z => k _ _ (f1 b o z), f2, Heap.FunFrames.of_keeps (fun b o z _ => ⟨o, k b o z, rfl⟩) f3, traced_up k f4⟩
/-- what the clause wishes of an exception of the body -/
def wAs2 (K : Fg) (c1 c2 : Value) (i : Nat) (ts : Addr → Value → Option Addr → TS) (Wout : WX) (D : Ends) : WX := fun cls d σ H =>
  ∃ b, PySem.W.exmAny K cls [c1, c2] = some b ∧ (b = true → ∀ a, H a = none → ts a cls d { nx := fun σ' H' => D.nx (σ'.set i none) H', rt := D.rt, bk := fun σ' H' => D.bk (σ'.set i none) H', ct := fun σ' H' => D.ct (σ'.set i none) H' } (σ.set i (some (.ref a))) H) ∧
    (b = false → Wout cls d σ H)
section
variable {X : Cx} {x y n : Str} {c1 c2 : Value} {i : Nat} {body suite : List Stmt} {b₀ : Stmt} {np np2 tp pos pos' : Pos} {kk : Nat} {tb : WX → TS} {ts : Addr → Value → Option Addr → TS} {Wout : WX}
theorem name_at {pins : List (Addr × Obj)} {σ : L2.St} {H : Hp} {s : Shared} {Q : Value → Shared → Prop} {E : Value → Shared → Prop} {c : Value} (I : Inv X pins σ H s) (hc : Names X x c) (q : Q c s) : wpAny (model X.prog X.w) X.A (eval (.Name x np) X.env) Q E s := by
  obtain ⟨g1, g2, g3 | ⟨g3, g4, g5⟩⟩ := hc
  · exact ld_glob I g1 g3 q g2
  · exact ld_blt I g1 g3 g4 q g5 g2
/-- how a flow of the suite ends, the name gone -/
theorem suite_end {pins : List (Addr × Obj)} {a : Addr} {q : Addr × Obj} {D : Ends} {f : Flow} {s7 : Shared} (ok : X.Ok) (hN : X.N.Nodup) (hi : X.N[i]? = some n) (hln : X.env.kindOf n = some .local)
    (sp : SP (X.suite a (q :: (X.pn ++ pins))) [] { nx := fun σ' H' => D.nx (σ'.set i none) H', rt := D.rt, bk := fun σ' H' => D.bk (σ'.set i none) H', ct := fun σ' H' => D.ct (σ'.set i none) H' } f s7) :
    wpAny (model X.prog X.w) X.A (do bindName X.env n .none; unbindBehindTheSuite X.env n pos') (fun _ s8 => SP X pins D f s8) X.xe s7 := by
  cases f with
  | ret u =>
    rcases sp with ⟨v, σ7, H7, S7, rv, q7⟩
    exact gone_ok (S7.unsuite ok) hN hi hln fun s8 J8 => ⟨v, _, _, J8, rv, q7⟩
  | next =>
    rcases sp with ⟨σ7, H7, S7, q7⟩
    exact gone_ok (S7.unsuite ok) hN hi hln fun s8 J8 => ⟨_, _, J8, q7⟩
  | brk =>
    rcases sp with ⟨σ7, H7, S7, q7⟩
    exact gone_ok (S7.unsuite ok) hN hi hln fun s8 J8 => ⟨_, _, J8, q7⟩
  | cont =>
    rcases sp with ⟨σ7, H7, S7, q7⟩
    exact gone_ok (S7.unsuite ok) hN hi hln fun s8 J8 => ⟨_, _, J8, q7⟩
end
end Lw

namespace Lw
open PySem.Spec PySem L2 PyProof.Rows
open Evl (Ex Ex.refl Ex.trans Ex.new Ex.off ex_rd ex_l ex_t)
/-! texts; first, *others = a list; dicts of the top with texts for keys -/
section
variable {s : Shared} {prog : Program} {w : World} {A : Around} {E : Value → Shared → Prop}
end
section
variable {X : Cx} {pos : Pos}
end
/-! ### texts -/
abbrev rJoin (K : Fg) : V → List V → Hp → VK → Prop := fun x xs H Q => ∃ a p, ∃ ys : List Str, x = .str a ∧ xs = [.ref p] ∧ (SqL K H p (ys.map V.str) ∨ SqT K H p (ys.map V.str)) ∧ (ys.map (·.length)).sum + ys.length * a.length ≤ 16777216 ∧ Q (.str (Txt.join a ys)) H
section
variable {K : Fg} {B : Bg} {G G' H : Hp} {σ : L2.St} {te ta tb : TE} {tr : TA} {d : PyData} {ds es : List PyData} {D : Ends} {t u : TS} {a b : Str} {ys : List Str}
theorem dpAll_strs : ∀ {vs : List V} {ys : List Str}, DpAll K H vs (ys.map PyData.str) → vs = ys.map V.str
  | _, [], .nil => rfl
  | _, _ :: _, .cons h r => by rw [dp_str h, dpAll_strs r]; rfl
theorem strs_dp : ∀ (ys : List Str), DpAll K H (ys.map V.str) (ys.map PyData.str)
  | [] => .nil
  | y :: ys => .cons (.str y) (strs_dp ys)
theorem ed_join (ho : EvD K B ta σ G (.str a)) (h : EvD K B te σ G (.list (ys.map .str))) (hl : (ys.map (·.length)).sum + ys.length * a.length ≤ 16777216) : EvD K B (tM1 (rJoin K) ta te) σ G (.str (Txt.join a ys)) := fun H e Q q =>
  ho H e _ fun v G2 H2 X dv => by
    obtain rfl := dp_str dv
    refine ⟨⟨a, rfl⟩, h.mono X.gg e.c H2 X.ok _ fun u G3 H3 X3 du => ?_⟩
    obtain ⟨p, xs, rfl, hs, hx⟩ := dp_lst du
    obtain rfl := dpAll_strs hx
    exact ⟨a, p, ys, rfl, rfl, .inl (ex_l X3.ok.e hs), hl, q _ G3 H3 (X.trans X3) (.str _)⟩
theorem dsB : decide (vOf (.str a) = vOf (.str b)) = decide (a = b) := by
  by_cases c : a = b
  · subst c
    simp
  · rw [decide_eq_false c, decide_eq_false]
    intro z
    injection z with z
    exact c z
end
/-! ### dicts of the top -/
/-- what the dict at p, of the top, holds -/
structure WDct (K : Fg) (w : World) (p : Addr) (kvs : List (Str × V)) : Prop where
  ex : ∃ es n, K.lookup p = some ⟨.type "dict", none, .dict es n, #[]⟩ ∧ PySem.W.KeysLit w.params es.toList
  low : (p == sysModules) = false
  is : ∀ q ∈ kvs, ∃ u, PySem.W.nsIn K p q.1 = some (some u) ∧ RelV q.2 u
  no : ∀ z, (∀ q ∈ kvs, q.1 ≠ z) → PySem.W.nsIn K p z = some none
section
variable {X : Cx}
theorem WDct.some_ {K : Fg} {w : World} {p : Addr} {kvs : List (Str × V)} {es : Array DictEntry} {n : Nat} (W : WDct K w p kvs) (hl : K.lookup p = some ⟨.type "dict", none, .dict es n, #[]⟩) (z : Str) : (findBy Value.isStrOf es z).isSome = decide (z ∈ kvs.map (·.1)) := by
  by_cases c : z ∈ kvs.map (·.1)
  · obtain ⟨r, hr, rfl⟩ := List.mem_map.mp c
    obtain ⟨u, h1, _⟩ := W.is r hr
    rw [PySem.W.find_K hl h1, decide_eq_true c]
    rfl
  · rw [PySem.W.find_K hl (W.no z fun r hr e => c (List.mem_map.mpr ⟨r, hr, e⟩)), decide_eq_false c]
    rfl
theorem WDct.get {K : Fg} {w : World} {p : Addr} {kvs : List (Str × V)} {q : Str × V} (W : WDct K w p kvs) (h : q ∈ kvs) : KDct K w p q.1 q.2 := by
  obtain ⟨es, n, hl, hk⟩ := W.ex
  obtain ⟨u, h1, h2⟩ := W.is q h
  exact ⟨es, n, u, hl, hk, h1, h2⟩
end
end Lw

namespace Lw
open PySem.Spec PySem L2 PyProof.Rows
open Evl (Ex Ex.refl Ex.trans Ex.new Ex.off ex_rd ex_l ex_t)
/-! numbers as texts, words -/
theorem diI {a b : Int} : decide (vOf (.int a) = vOf (.int b)) = decide (a = b) := decide_eq_decide.mpr ⟨fun h => V.int.inj h, fun h => congrArg V.int h⟩
section
variable {K : Fg} {B : Bg} {G G' H : Hp} {σ : L2.St} {te ta tb : TE} {tr : TA} {d : PyData} {ds : List PyData} {D : Ends} {t u : TS} {w : World} {p : Addr} {kvs : List (Str × V)}
end
theorem sum_le {k : Nat} : ∀ {l : List Nat}, (∀ x ∈ l, x ≤ k) → l.sum ≤ l.length * k
  | [], _ => by simp
  | x :: l, h => by
    have := sum_le (l := l) fun y hy => h y (List.mem_cons_of_mem _ hy)
    have := h x List.mem_cons_self
    rw [List.sum_cons, List.length_cons, Nat.add_mul]
    omega
end Lw

namespace Lw
open PySem.Spec PySem L2 PyProof.Rows
open Evl (Ex Ex.refl Ex.trans Ex.new Ex.off ex_rd ex_l ex_t)
/-! own errors over ValueError with one field, laid by an __init__ -/
/-- the j-th statement of a class of the top -/
def mth (s : Stmt) (j : Nat) : Stmt := match s with
  | .ClassDef _ _ _ b _ _ _ _ _ _ _ => b.getD j (.Pass ⟨0, 0, 0, 0⟩)
  | _ => .Pass ⟨0, 0, 0, 0⟩
/-- what is to be known of such a class: its __init__ at fI, the field at -/
structure AtC (K : Fg) (C fI : Addr) : Prop where
  o : OexC K C
  x : XfC K C
  no : PySem.W.findIn K (.ref C) "at" = some none
  i : PySem.W.findIn K (.ref C) "__init__" = some (some (.ref fI))
  t : PySem.W.typeIn K (.ref fI) = some (.type "function")
/-- what such an __init__ does -/
def sp_at (K : Fg) : Sp := fun vs H Q E => ∃ (a C : Addr) (v : V), vs = [.ref a, v] ∧ OexC K C ∧ PySem.W.findIn K (.ref C) "at" = some none ∧ H a = some (exo a C none) ∧ ∀ dx, H dx = none → dx ≠ a → Q .non (upd (upd H dx (exd dx [("at", v)])) a (exo a C (some dx)))
/-- the __init__ of such a class, by its promise -/
structure GoodI (P : Program) (w : World) (K : Fg) (mg : Str → Option Value) (base : Heap) (CX : CXT) (k : Nat) (f : Addr) : Prop where
  ex : ∃ fd, FnOk P w K mg base CX k f fd ["self", "at"] (sp_at K) ∧ Binds K fd ["self", "at"] []
/-- a refusal at a step: the class, and the number at the field -/
def RaiA (K : Fg) (B : Bg) (G H : Hp) (E : XK) (C : Addr) (n : Int) : Prop := ∀ G2 H2 d, Ext K B G H G2 H2 → H2 d = some (.xd [("at", .int n)]) → E (.ref C) (some d) H2
section
variable {K : Fg} {B : Bg} {G G1 H H1 : Hp} {σ : L2.St} {te : TE} {C fI : Addr} {n : Int} {Q : XK}
theorem RaiA.mono (X : Ext K B G H G1 H1) (h : RaiA K B G H Q C n) : RaiA K B G1 H1 Q C n := fun G2 H2 d X2 hd => h G2 H2 d (X.trans X2) hd
end
end Lw

namespace Lw
open PySem.Spec PySem L2 PyProof.Rows
open Evl (Ex Ex.refl Ex.trans Ex.new Ex.off ex_rd ex_l ex_t)
/-! texts: items, parts, sign by sign; dicts of one's own with texts for keys; what is drawn -/
section
variable {K : Fg} {B : Bg} {G G' H : Hp} {σ : L2.St} {te ta tb : TE} {tr : TA} {d : PyData} {ds es : List PyData} {D : Ends} {t u : TS} {a b : Str} {ys : List Str}
/-! ### a dict of one's own, texts for keys, numbers for values -/
/-! ### texts that are drawn -/
end
/-! ### joined parts by their lengths -/
/-! ### figures -/
end Lw

namespace Lw
open PySem.Spec PySem L2 PyProof.Rows
open Evl (Ex Ex.refl Ex.trans Ex.new Ex.off ex_rd ex_l ex_t)
/-! lists made anew of drawn items: put together, cut, joined to texts -/
section
variable {K : Fg} {B : Bg} {G G' H : Hp} {σ : L2.St} {te ta tb ti : TE} {tr : TA} {d : PyData} {ds es : List PyData} {D : Ends} {t u : TS} {S S1 S2 : List PyData → Prop}
theorem EvFS.mono (e : Ex G G') (c : Cel K B G) (h : EvFS K B te σ G S) : EvFS K B te σ G' S := fun H eH Q q =>
  h H (eH.less e c) Q fun p xs ds G2 H2 s X hp hg nb h2 a => by
    obtain ⟨X2, e2⟩ := X.wide e eH
    exact q p xs ds _ H2 s X2 hp (join_none (eH.e.off hp) hg) nb h2 (dpAll_mono e2 a)
end
end Lw

namespace Lw
open PySem.Spec PySem L2 PyProof.Rows
open Evl (Ex Ex.refl Ex.trans Ex.new Ex.off ex_rd ex_l ex_t)
section
variable {K : Fg} {B : Bg} {G G' H : Hp} {σ : L2.St} {te ta tb : TE} {tr : TA} {tt : TT} {d : PyData} {ds es : List PyData} {D : Ends} {t u : TS}
/-! ### a dict with numbers for keys and for values -/
end
/-! ### what is joined to what: a forest by its parents -/
/-- from a by parents to a root, in n steps -/
def Rtn (F : Int → Int) : Nat → Int → Int → Prop
  | 0, a, r => F a = a ∧ r = a
  | n + 1, a, r => F a ≠ a ∧ Rtn F n (F a) r
theorem Rtn.root {F : Int → Int} : ∀ {n : Nat} {a r : Int}, Rtn F n a r → F r = r
  | 0, _, _, h => by
    rw [h.2]
    exact h.1
  | _ + 1, _, _, h => h.2.root
theorem Rtn.one {F : Int → Int} : ∀ {n m : Nat} {a r s : Int}, Rtn F n a r → Rtn F m a s → r = s
  | 0, 0, _, _, _, h, k => h.2.trans k.2.symm
  | 0, _ + 1, _, _, _, h, k => absurd h.1 k.1
  | _ + 1, 0, _, _, _, h, k => absurd k.1 h.1
  | _ + 1, _ + 1, _, _, _, h, k => h.2.one k.2
end Lw

namespace Lw
open PySem.Spec PySem L2 PyProof.Rows
open Evl (Ex Ex.refl Ex.trans Ex.new Ex.off ex_rd ex_l ex_t)
section
variable {K : Fg} {B : Bg} {G G' H : Hp} {σ : L2.St} {te ta tb : TE} {tr : TA} {tt : TT} {d : PyData} {ds es : List PyData} {D : Ends} {t u : TS}
end
end Lw

namespace Lw
open PySem.Spec PySem L2 PyProof.Rows
open Evl (Ex Ex.refl Ex.trans Ex.new Ex.off ex_rd ex_l ex_t)
/-! zip over a tuple and a list, in any order; a dict {x: x for x in a list of numbers} -/
/-- a tuple (true) or a list (false) -/
def SqK : Bool → Fg → Hp → Addr → List V → Prop
  | true => SqT
  | false => SqL
def HeldK : Bool → Heap → Addr → Array Value → Prop
  | true => Heap.IsTuple
  | false => Heap.IsList
def ItrK : Bool → Heap → Addr → Addr → Nat → Prop
  | true => Heap.IsTupleIter
  | false => Heap.IsListIter
def itoK : Bool → Addr → Obj
  | true, a => { cls := .type "tuple_iterator", data := .fields #[.ref a, .int 0 0] }
  | false, a => { cls := .type "list_iterator", data := .fields #[.ref a, .int 0 0] }
theorem inv_K {X : Cx} {pins : List (Addr × Obj)} {s : Shared} {σ : L2.St} {H : Hp} {a : Addr} {xs : List V} (k : Bool) (I : Inv X pins σ H s) (h : SqK k X.K H a xs) : ∃ its : List Value, Vals xs its ∧ HeldK k s.heap a its.toArray ∧ a < s.heap.objs.size := by
  cases k with
  | true =>
    obtain ⟨its, r, p, _⟩ := I.tuple h
    obtain ⟨o, ho, _⟩ := id p
    exact ⟨its, r, p, Heap.lt_size ho⟩
  | false =>
    obtain ⟨its, r, p, _⟩ := I.list h
    exact ⟨its, r, p.isList, p.lt⟩
theorem inj_K {X : Cx} {pins : List (Addr × Obj)} {s : Shared} {σ : L2.St} {H : Hp} {a : Addr} {xs ys : List V} (k : Bool) (I : Inv X pins σ H s) (h : SqK k X.K H a xs) (h' : SqK k X.K H a ys) : xs = ys := by
  cases k with
  | true => exact I.tuple_inj h h'
  | false => exact I.list_inj h h'
theorem draws_K {P : Program} {w : World} {A : Around} (k : Bool) (hh : A.handled = none) (it a : Addr) (ne : a ≠ it) (its : Array Value) : Draws P w A it [it, a] its.size (fun i v => its[i]? = some v) (fun i h => ItrK k h it a i ∧ HeldK k h a its) := by
  cases k with
  | true => exact Draws.tuple hh it a ne its
  | false => exact Draws.list hh it a ne its
theorem begins_K (k : Bool) (a : Addr) (its : Array Value) : Begins (.ref a) (itoK k a) fun h => HeldK k h a its := by
  cases k with
  | true => exact begins_tuple a its
  | false => exact begins_list a its
theorem itr_obj {k : Bool} {h : Heap} {it a : Addr} {i : Nat} (z : ItrK k h it a i) : ∃ o, h.get? it = some o ∧ ∀ v, o.data ≠ .cell v := by
  cases k <;>
  · obtain ⟨o, e, _, d⟩ := z
    exact ⟨o, e, fun v q => by rw [d] at q; cases q⟩
theorem itr_keep {k : Bool} {h h' : Heap} {it a : Addr} {i : Nat} (z : ItrK k h it a i) (q : ∀ o, h.get? it = some o → h'.get? it = some o) : ItrK k h' it a i := by
  cases k <;>
  · obtain ⟨o, e, r⟩ := z
    exact ⟨o, q o e, r⟩
theorem itr_new {k : Bool} {h : Heap} {it a : Addr} (e : h.get? it = some (itoK k a)) : ItrK k h it a 0 := by
  cases k <;> exact ⟨_, e, rfl, rfl⟩
/-- the items of both as they stand at each turn, in new pairs -/
def ItZ (k l : Bool) (K : Fg) (a b : Addr) : It where
  go i H := ∃ (xs ys : List V) (x y : V), (SqK k K H a xs ∧ xs[i]? = some x) ∧ SqK l K H b ys ∧ ys[i]? = some y
  yld i H v H' := ∃ T x y, v = .ref T ∧ H T = none ∧ H' = upd H T (.tup [x, y]) ∧ (∀ xs, SqK k K H a xs → xs[i]? = some x) ∧ ∀ ys, SqK l K H b ys → ys[i]? = some y
  stop i H := ∃ xs ys : List V, (SqK k K H a xs ∧ i ≤ xs.length) ∧ (SqK l K H b ys ∧ i ≤ ys.length) ∧ (i = xs.length ∨ i = ys.length)
theorem sep_of {z TI TO i1 i2 a b : Addr} (D : ZipApart z TI TO i1 i2 a b) : ZipSep2 z TI TO i1 i2 [i1, a] [i2, b] where
  TIz := D.TIz
  TOz := D.TOz
  TITO := D.TITO
  TIi1 := D.TIi1
  TIi2 := D.TIi2
  mem1 := List.mem_cons_self
  mem2 := List.mem_cons_self
  zf1 h := (mem2 h).elim (fun e => D.i1z e.symm) fun e => D.l1z e.symm
  zf2 h := (mem2 h).elim (fun e => D.i2z e.symm) fun e => D.l2z e.symm
  Tf1 h := (mem2 h).elim (fun e => D.TOi1 e) fun e => D.l1TO e.symm
  Tf2 h := (mem2 h).elim (fun e => D.TOi2 e) fun e => D.l2TO e.symm
  sep1_2 h := (mem2 h).elim (fun e => D.i12 e) fun e => D.l2i1 e.symm
  sep2_1 h := (mem2 h).elim (fun e => D.i12 e.symm) fun e => D.l1i2 e.symm
theorem mem5 {α : Type} {a b c d e x : α} (h : x ∈ [a, b, c, d, e]) : x = a ∨ x = b ∨ x = c ∨ x = d ∨ x = e := by simpa using h
theorem turn_zipK {P : Program} {w : World} {K : Fg} {elts : List Expr} {kk : Nat} {tpos : Pos} {a b z TI TO i1 i2 : Addr} (k l : Bool) (D : ZipApart z TI TO i1 i2 a b) :
    Turn P w K (.Tuple elts kk tpos) (ItZ k l K a b) [z, TI, TO, i1, i2] z fun i h => (IsZip h z TI TO .none ∧ IsTupOf2 h TI (.ref i1) (.ref i2) ∧ ∃ x y, IsTupOf2 h TO x y) ∧ ItrK k h i1 a i ∧ ItrK l h i2 b i where
  mem := List.mem_cons_self
  obj i h st c hc := by
    obtain ⟨⟨hz, hI, x, y, hO⟩, h1, h2⟩ := st
    rcases mem5 hc with rfl | rfl | rfl | rfl | rfl
    · exact ⟨_, hz, fun v q => nomatch q⟩
    · exact ⟨_, hI, fun v q => nomatch q⟩
    · exact ⟨_, hO, fun v q => nomatch q⟩
    · exact itr_obj h1
    · exact itr_obj h2
  keep i h h' st kp := by
    obtain ⟨⟨hz, hI, x, y, hO⟩, h1, h2⟩ := st
    exact ⟨⟨kp z (by simp) _ hz, kp TI (by simp) _ hI, x, y, kp TO (by simp) _ hO⟩, itr_keep h1 (kp i1 (by simp)), itr_keep h2 (kp i2 (by simp))⟩
  item := by
    rintro X rfl rfl rfl hc i pins s σ H E I hf ⟨⟨hz, hI, x0, y0, hO⟩, h1, h2⟩ ⟨xs, ys, x, y, ⟨qx, hx⟩, qy, hy⟩
    obtain ⟨is, rv, p1, l1⟩ := inv_K k I qx
    obtain ⟨js, rw_, p2, l2⟩ := inv_K l I qy
    obtain ⟨u, iu, ru⟩ := rv.get hx
    obtain ⟨u2, iu2, ru2⟩ := rw_.get hy
    have hh : X.A.in1.handled = none := I.ok.hd hc
    have zl : z < s.heap.objs.size := Heap.lt_size hz
    have n1 : i < is.toArray.size := by rw [List.size_toArray]; exact (List.getElem?_eq_some_iff.mp iu).1
    have n2 : i < js.toArray.size := by rw [List.size_toArray]; exact (List.getElem?_eq_some_iff.mp iu2).1
    refine wpAny_pyNext_zipD2_item (sep_of D) (draws_K k hh i1 a D.l1i1 is.toArray) (draws_K l hh i2 b D.l2i2 js.toArray) hz hI hO ⟨h1, p1⟩ ⟨h2, p2⟩ n1 n2 fun y1 y2 h' tk e1 e2 hz' hO' s1 s2 hT hsz hk => ?_
    obtain rfl : y1 = u := by
      have e1 : is.toArray[i]? = some y1 := e1
      rw [show is.toArray[i]? = some u by simpa using iu] at e1
      exact (Option.some.inj e1).symm
    obtain rfl : y2 = u2 := by
      have e2 : js.toArray[i]? = some y2 := e2
      rw [show js.toArray[i]? = some u2 by simpa using iu2] at e2
      exact (Option.some.inj e2).symm
    refine ⟨_, rfl, wpAny_letOwnedTupleGo_zip (s := { s with heap := h', toks := tk }) hz' fun h2' hz2 sb => ?_⟩
    have T2 : h2'.get? s.heap.objs.size = some { cls := .type "tuple", data := .seq #[y1, y2] } := (sb.2 _ (Nat.ne_of_gt zl)).trans hT
    have okT : ObjOk X.prog X.w (upd H s.heap.objs.size (.tup [x, y])) h2' s.heap.objs.size (.tup [x, y]) := ⟨show 2 ≤ sizeLine by decide, [y1, y2], .cons ru (.cons ru2 .nil), _, T2, rfl, _, rfl⟩
    have I1 := I.turnedNew (t' := tk) (ch := [z, TI, TO, i1, i2]) (fun c ob hb q => ?_) hf (Nat.le_refl _) okT
    refine ⟨.ref s.heap.objs.size, _, I1, rfl, ⟨_, x, y, rfl, I.hok.fresh (Nat.le_refl _), rfl, fun zs hs => ?_, fun zs hs => ?_⟩, ⟨⟨hz2, ?_, y1, y2, ?_⟩, ?_, ?_⟩, fun c hb => ?_⟩
    · rw [inj_K k I hs qx]
      exact hx
    · rw [inj_K l I hs qy]
      exact hy
    · exact (sb.2 _ D.TIz).trans (hk _ _ D.TIz D.TITO D.TIi1 D.TIi2 hI)
    · exact (sb.2 _ D.TOz).trans hO'
    · exact itr_keep s1.1 fun o q => (sb.2 _ D.i1z).trans q
    · exact itr_keep s2.1 fun o q => (sb.2 _ D.i2z).trans q
    · have lt : c < s.heap.objs.size := by
        rcases mem5 hb with rfl | rfl | rfl | rfl | rfl
        · exact zl
        · exact Heap.lt_size hI
        · exact Heap.lt_size hO
        · obtain ⟨_, e, _⟩ := itr_obj h1
          exact Heap.lt_size e
        · obtain ⟨_, e, _⟩ := itr_obj h2
          exact Heap.lt_size e
      rw [upd_ne (Nat.ne_of_lt lt)]
      exact (hf c hb).1
    · have b1 : c ≠ z := fun e => hb (by simp [e])
      exact (sb.2 c b1).trans (hk c ob b1 (fun e => hb (by simp [e])) (fun e => hb (by simp [e])) (fun e => hb (by simp [e])) q)
  done := by
    rintro X rfl rfl rfl hc i pins s σ H E I hf ⟨⟨hz, hI, x0, y0, hO⟩, h1, h2⟩ ⟨xs, ys, ⟨qx, lx⟩, ⟨qy, ly⟩, he⟩
    obtain ⟨is, rv, p1, l1⟩ := inv_K k I qx
    obtain ⟨js, rw_, p2, l2⟩ := inv_K l I qy
    have hh : X.A.in1.handled = none := I.ok.hd hc
    have e1 : is.toArray.size = xs.length := by rw [List.size_toArray, rv.length]
    have e2 : js.toArray.size = ys.length := by rw [List.size_toArray, rw_.length]
    refine wpAny_pyNext_zipD2_end (sep_of D) (draws_K k hh i1 a D.l1i1 is.toArray) (draws_K l hh i2 b D.l2i2 js.toArray) hz hI hO ⟨h1, p1⟩ ⟨h2, p2⟩ (by omega) (by omega) (by omega) fun h' tk hk => ⟨rfl, I.turnedL (t' := tk) (ch := [z, TI, TO, i1, i2]) (fun c o hb q => ?_) hf⟩
    exact hk c o (fun e => hb (by simp [e])) (fun e => hb (by simp [e])) (fun e => hb (by simp [e])) (fun e => hb (by simp [e])) q
  self A i s Q E st h := wpAny_pyIter_zip st.1.1 h
def iZipK (k l : Bool) (K : Fg) (ta : TA) : TI := fun σ H R => ta σ H fun vs H1 => ∃ a b xs ys, vs = [.ref a, .ref b] ∧ SqK k K H1 a xs ∧ SqK l K H1 b ys ∧ R (ItZ k l K a b) H1
theorem pi_zipK {X : Cx} {e e2 : Expr} {ta : TA} {p pos tpos : Pos} {elts : List Expr} {kk : Nat} (k l : Bool) (hg : Gl X "zip") (hm : X.mg "zip" = none) (ha : PA X [e, e2] ta)
    (hs : starEach [e, e2] X.env = (false, eval e X.env) :: starEach [e2] X.env := by rfl) (hp : (backTo pos (starEach [e2] X.env)).any (·.1) = false := by rfl) : PI X (.Tuple elts kk tpos) (.Call (.Name "zip" p) [e, e2] [] pos) (iZipK k l X.K ta) := by
  refine ⟨fun pins s σ H R I h => Call_ (ld_blt I hg hm boot_zip (PyProof.Rows.callWith_type1 (thn (ha.run pos pins s σ H _ I h) ?_) hs hp))⟩
  rintro us s1 ⟨vs, H1, I1, r1, a, b, xs, ys, rfl, qx, qy, q⟩
  obtain ⟨is, rv, p1, l1⟩ := inv_K k I1 qx
  obtain ⟨js, rw_, p2, l2⟩ := inv_K l I1 qy
  cases r1 with
  | cons r rr =>
    cases rr with
    | cons r' rr =>
      cases rr
      cases r
      cases r'
      refine zip_begins2 (begins_K k a is.toArray) (begins_K l b js.toArray) p1 p2 fun h' hz hI hO g1 g2 hsz hk => wpAny_pyIter_zip hz ?_
      have I2 := I1.kept (t' := s1.toks) hk
      refine ⟨s1.heap.objs.size + 4, _, _, _, H1, rfl, I2, turn_zipK k l (PySem.W.ktu_apart s1.heap.objs.size a b l1 l2), ⟨⟨hz, hI, _, _, hO⟩, itr_new g1, itr_new g2⟩, fun c hc => ?_, q⟩
      have le : s1.heap.objs.size ≤ c := by
        rcases mem5 hc with rfl | rfl | rfl | rfl | rfl
        · exact Nat.le_add_right _ 4
        · exact Nat.le_add_right _ 2
        · exact Nat.le_add_right _ 3
        · exact Nat.le_refl _
        · exact Nat.le_succ _
      exact I1.fpOk le (I1.hok.fresh le)
theorem walk_zipK {k l : Bool} {K : Fg} {a b : Addr} {xs ys : List V} {n : Nat} (hn : n = min xs.length ys.length) : Walk (ItZ k l K a b) n (fun H => SqK k K H a xs ∧ SqK l K H b ys) (YPair (fun i => xs[i]?) fun i => ys[i]?) where
  goes i _ hi q := ⟨xs, ys, xs[i]'(by omega), ys[i]'(by omega), ⟨q.1, List.getElem?_eq_getElem _⟩, q.2, List.getElem?_eq_getElem _⟩
  stops _ q := ⟨xs, ys, ⟨q.1, by omega⟩, ⟨q.2, by omega⟩, by omega⟩
  yields i H v H' _ q y := by
    obtain ⟨at_, one, two, ev, new, eh, e1, e2⟩ := y
    exact ⟨at_, one, two, ev, new, eh, e1 xs q.1, e2 ys q.2⟩
def seqD : Bool → List PyData → PyData
  | true, ds => .tuple ds
  | false, ds => .list ds
section
variable {K : Fg} {B : Bg} {G G' H : Hp} {σ : L2.St} {te ta tb : TE} {tr : TA} {tt : TT} {d : PyData} {ds es : List PyData} {D : Ends} {t u : TS} {n : Nat}
theorem dp_seq {k : Bool} {v : V} (h : Dp K G v (seqD k ds)) : ∃ a xs, v = .ref a ∧ SqK k K G a xs ∧ DpAll K G xs ds := by
  cases k with
  | true => exact dp_tup h
  | false => exact dp_lst h
theorem ex_K {k : Bool} {a : Addr} {xs : List V} (e : Ex G G') (h : SqK k K G a xs) : SqK k K G' a xs := by
  cases k with
  | true => exact ex_t e h
  | false => exact ex_l e h
theorem ep_zipK {k l : Bool} (h : EvA K B tr σ G [seqD k ds, seqD l es]) (hn : n = min ds.length es.length) : EvP K B (iZipK k l K tr) σ G n (fun i => ds[i]?) fun i => es[i]? := fun H e R kk =>
  h H e _ fun vs G1 H1 X dv => by
    cases dv with
    | cons d1 dv =>
      cases dv with
      | cons d2 dv =>
        cases dv
        obtain ⟨a, xs, rfl, sa, ax⟩ := dp_seq d1
        obtain ⟨b, ys, rfl, sb, bx⟩ := dp_seq d2
        refine ⟨a, b, xs, ys, rfl, ex_K X.ok.e sa, ex_K X.ok.e sb, ?_⟩
        refine kk _ _ _ G1 H1 X ((walk_zipK (by rw [dpAll_len ax, dpAll_len bx]; exact hn)).mono (fun H' q => ⟨ex_K q sa, ex_K q sb⟩) fun _ _ _ _ _ _ y => y) (fun i x _ q => dpAll_at ax q) (fun i x _ q => dpAll_at bx q)
/-! ### a dict and a list that both grow -/
structure DL (K : Fg) (B : Bg) (G0 H0 G H : Hp) (p : Addr) (kvs : List (Key × V)) (f : Addr) (ds : List PyData) : Prop where
  d : LoD K B G0 H0 G H p kvs
  l : Loo K B G0 H0 G H f ds
  ne : p ≠ f
theorem DL.of {G0 H0 G2 H2 : Hp} {p f : Addr} {kvs : List (Key × V)} (a : LoD K B G0 H0 G H p kvs) (b : Loo K B G H G2 H2 f ds) : DL K B G0 H0 G2 H2 p kvs f ds :=
  ⟨a.step b.x, ⟨a.x.trans b.x, a.x.old b.nb b.h0, b.g, b.nb, b.h⟩, fun e => by
    have z := a.h
    rw [e, b.h0] at z
    cases z⟩
theorem DL.step {G0 H0 G2 H2 : Hp} {p f : Addr} {kvs : List (Key × V)} (a : DL K B G0 H0 G H p kvs f ds) (X : Ext K B G H G2 H2) : DL K B G0 H0 G2 H2 p kvs f ds := ⟨a.d.step X, a.l.step X, a.ne⟩
theorem DL.put {G0 H0 : Hp} {p f : Addr} {kvs : List (Key × V)} (kvs' : List (Key × V)) (a : DL K B G0 H0 G H p kvs f ds) : DL K B G0 H0 G (upd H p (.dK kvs')) p kvs' f ds := by
  obtain ⟨xs, h1, h2⟩ := a.l.h
  refine ⟨a.d.put kvs', ⟨(a.d.put kvs').x, a.l.h0, a.l.g, a.l.nb, xs, ?_, h2⟩, a.ne⟩
  rw [upd_ne (Ne.symm a.ne)]
  exact h1
theorem st_appendDL {G0 H0 : Hp} {p f : Addr} {i : Nat} {kvs : List (Key × V)} (hσ : σ[i]? = some (some (.ref f))) (l : DL K B G0 H0 G H p kvs f ds) (h : EvD K B ta σ G d) (hl : ds.length < 100000) (k : ∀ G2 H2, DL K B G0 H0 G2 H2 p kvs f (ds ++ [d]) → Ex G G2 → D.nx σ H2) :
    tDrop (tBM K "list" rAppend (tVar i) (tCons ta tNil)) D σ H := by
  obtain ⟨_, h1, _⟩ := l.l.h
  refine ⟨.ref f, hσ, .inl ⟨rfl, _, SqL.of h1⟩, h H l.d.x.ok _ fun v G2 H2 X dv => ?_⟩
  have m := l.step X
  obtain ⟨xs, h3, h4⟩ := m.l.h
  have Y : Ext K B G0 H0 G2 (upd H2 f (.lst (xs ++ [v]))) := ⟨m.d.x.gg, fun a o n z => by
    rw [upd_ne (ne_of_none z l.l.h0)]
    exact m.d.x.hh a o n z, m.d.x.fr, m.d.x.ok.mut m.l.g l.l.nb⟩
  refine ⟨f, xs, v, rfl, rfl, h3, by rw [dpAll_len h4]; exact szl hl, k G2 _ ⟨⟨Y, m.d.h0, m.d.g, m.d.nb, ?_⟩, ⟨Y, l.l.h0, m.l.g, l.l.nb, xs ++ [v], upd_same, dpAll_app h4 (.cons dv .nil)⟩, l.ne⟩ X.gg⟩
  rw [upd_ne l.ne]
  exact m.d.h
end
/-! ### folds, item by item -/
end Lw

namespace Lw
open PySem.Spec PySem L2 PyProof.Rows
open Evl (Ex Ex.refl Ex.trans Ex.new Ex.off ex_rd ex_l ex_t)
/-! x = {k: v for ..}; sorted of numbers; two lists bent at their ends -/
section
variable {X : Cx} {pins : List (Addr × Obj)} {σ : L2.St} {D : Ends} {i : Nat} {y : Str} {py : Pos}
end
section
variable {s : Shared} {P : Program} {w : World} {A : Around} {E : Value → Shared → Prop}
end
/-! numbers, rising -/
def srtI (ns : List Int) : List Int := ns.mergeSort fun a b => decide (a ≤ b)
theorem srtI_perm (ns : List Int) : (srtI ns).Perm ns := List.mergeSort_perm ns _
theorem srtI_srt (ns : List Int) : (srtI ns).Pairwise (· ≤ ·) := by
  have tr : ∀ a b c : Int, decide (a ≤ b) = true → decide (b ≤ c) = true → decide (a ≤ c) = true := fun a b c h1 h2 => decide_eq_true (Int.le_trans (of_decide_eq_true h1) (of_decide_eq_true h2))
  have to : ∀ a b : Int, (decide (a ≤ b) || decide (b ≤ a)) = true := fun a b => by
    rcases Int.le_total a b with h | h
    · rw [decide_eq_true h, Bool.true_or]
    · rw [decide_eq_true h, Bool.or_true]
  exact (List.pairwise_mergeSort tr to ns).imp fun h => of_decide_eq_true h
theorem srtI_uniq {ns ms : List Int} (p : ms.Perm ns) (h : ms.Pairwise (· ≤ ·)) : ms = srtI ns := List.Perm.eq_of_pairwise (fun a b _ _ h1 h2 => Int.le_antisymm h1 h2) h (srtI_srt ns) (p.trans (srtI_perm ns).symm)
section
variable {K : Fg} {B : Bg} {G G' H : Hp} {σ : L2.St} {te ta tb : TE} {tr : TA} {tt : TT} {d : PyData} {ds es : List PyData} {D : Ends} {t u : TS} {n : Nat}
theorem sq_append {G0 H0 : Hp} {p : Addr} {i : Nat} (hσ : σ[i]? = some (some (.ref p))) (l : Loo K B G0 H0 G H p ds) (h : EvD K B ta σ G d) (hl : ds.length < 100000) (k : ∀ G2 H2, Loo K B G0 H0 G2 H2 p (ds ++ [d]) → Ex G G2 → u D σ H2) :
    tSeq (tDrop (tBM K "list" rAppend (tVar i) (tCons ta tNil))) u D σ H := st_append (D := { D with nx := u D }) hσ l h hl k
end
end Lw

namespace Lw
open PySem.Spec PySem L2 PyProof.Rows
open Evl (Ex Ex.refl Ex.trans Ex.new Ex.off ex_rd ex_l ex_t)
section
variable {K : Fg} {B : Bg} {G G' H : Hp} {σ : L2.St} {te ta tb : TE} {tr : TA} {tt : TT} {d : PyData} {ds es : List PyData} {D : Ends} {t u : TS} {n : Nat}
end
end Lw

namespace Lw
open PySem.Spec PySem L2 PyProof.Rows
open Evl (Ex Ex.refl Ex.trans Ex.new Ex.off ex_rd ex_l ex_t)
/-! sum(rows, start=[]) -/
abbrev lsO (vs : List Value) (c : Nat) : Obj := { cls := .type "list", data := .seq vs.toArray c }
section
variable {s : Shared} {P : Program} {w : World} {A : Around} {E : Value → Shared → Prop}
/-- how far a sum of lists has come: S holds the list T so far, I goes over the list at l -/
structure SumAt (h0 : Heap) (l I S T T0 : Addr) (rows : List (List Value)) (i : Nat) (h : Heap) : Prop where
  keep : ∀ b o, h0.get? b = some o → h.get? b = some o
  sz : h0.objs.size ≤ h.objs.size
  it : h.IsListIter I l i
  st : ∃ c, h.get? S = some (lsO [.ref T] c)
  tot : ∃ c, h.get? T = some (lsO (rows.take i).flatten c)
  oI : h0.get? I = none
  oS : h0.get? S = none
  IS : I ≠ S
  TI : T ≠ I
  TS : T ≠ S
  nw : (i = 0 ∧ T = T0) ∨ h0.objs.size ≤ T
end
section
variable {K : Fg} {B : Bg} {G G' H : Hp} {σ : L2.St} {te ta tb : TE} {tr : TA} {tt : TT} {d : PyData} {ds es : List PyData} {D : Ends} {t u : TS} {n : Nat}
end
end Lw

namespace Lw
open PySem.Spec PySem L2 PyProof.Rows
/-! one tie less parts one piece at the most -/
structure Cut (N : Nat) (adj adj' : Nat → List Nat) (u v : Nat) : Prop where
  g : Gph N adj
  g' : Gph N adj'
  hu : u < N
  hv : v < N
  sub : ∀ i, i < N → ∀ j, j ∈ adj' i → j ∈ adj i
  cut : ∀ i, i < N → ∀ j, j ∈ adj i → j ∈ adj' i ∨ (Con adj' i u ∧ Con adj' j v) ∨ (Con adj' i v ∧ Con adj' j u)
  con : Con adj u v
section
variable {N : Nat} {adj adj' : Nat → List Nat} {u v : Nat}
theorem Cut.old (c : Cut N adj adj' u v) {i j : Nat} (hi : i < N) (h : Con adj' i j) : Con adj i j := by
  induction h with
  | here => exact .here _
  | more b e ih => exact .more ih (c.sub _ (b.lt c.g' hi) _ e)
theorem Cut.new (c : Cut N adj adj' u v) {i j : Nat} (hi : i < N) (h : Con adj i j) : Con adj' i j ∨ ((Con adj' i u ∨ Con adj' i v) ∧ (Con adj' j u ∨ Con adj' j v)) := by
  induction h with
  | here => exact .inl (.here _)
  | @more j k b e ih =>
    have hj := b.lt c.g hi
    rcases c.cut j hj k e with z | ⟨z1, z2⟩ | ⟨z1, z2⟩
    · have kj : Con adj' k j := Con.symm c.g' (.more (.here _) z) hj
      rcases ih with y | ⟨y1, y2⟩
      · exact .inl (.more y z)
      · exact .inr ⟨y1, y2.imp (kj.trans ·) (kj.trans ·)⟩
    · rcases ih with y | ⟨y1, _⟩
      · exact .inr ⟨.inl (y.trans z1), .inr z2⟩
      · exact .inr ⟨y1, .inr z2⟩
    · rcases ih with y | ⟨y1, _⟩
      · exact .inr ⟨.inr (y.trans z1), .inl z2⟩
      · exact .inr ⟨y1, .inl z2⟩
end
/-! labels as lists; rows of places with one label -/
/-- each label is the least place that has it -/
structure IsLab (N : Nat) (lb : List Int) : Prop where
  len : lb.length = N
  at_ : ∀ i, i < N → ∃ m : Nat, lb.getD i 0 = (m : Int) ∧ m ≤ i ∧ lb.getD m 0 = (m : Int)
def qsL (lb : List Int) (p : Int) : List Int := (List.range lb.length).filterMap fun k : Nat => if lb.getD k 0 = p then some (k : Int) else none
def rowsL (lb : List Int) : List (List Int) := (sset lb).map (qsL lb)
theorem qsL_mem {lb : List Int} {p z : Int} : z ∈ qsL lb p ↔ ∃ k : Nat, k < lb.length ∧ lb.getD k 0 = p ∧ z = (k : Int) := by
  unfold qsL
  rw [List.mem_filterMap]
  constructor
  · rintro ⟨k, hk, e⟩
    split at e
    · exact ⟨k, List.mem_range.mp hk, by assumption, (Option.some.inj e).symm⟩
    · cases e
  · rintro ⟨k, hk, e, rfl⟩
    exact ⟨k, List.mem_range.mpr hk, by rw [if_pos e]⟩
theorem qsL_at {lb : List Int} {p : Int} {k : Nat} (hk : k < lb.length) : (k : Int) ∈ qsL lb p ↔ lb.getD k 0 = p := by
  rw [qsL_mem]
  constructor
  · rintro ⟨m, _, e, z⟩
    obtain rfl : k = m := by omega
    exact e
  · exact fun e => ⟨k, hk, e, rfl⟩
theorem range_up (n : Nat) : (List.range n).Pairwise (· < ·) := List.pairwise_lt_range
theorem qsL_up (lb : List Int) (p : Int) : (qsL lb p).Pairwise (· < ·) := by
  unfold qsL
  refine List.Pairwise.filterMap _ ?_ (range_up _)
  intro a b h x hx y hy
  split at hx
  · obtain rfl := Option.some.inj hx
    split at hy
    · obtain rfl := Option.some.inj hy
      omega
    · cases hy
  · cases hx
theorem up_nd {l : List Int} (h : l.Pairwise (· < ·)) : l.Nodup := h.imp fun h e => by omega
theorem getD_mem {lb : List Int} {k : Nat} (h : k < lb.length) : lb.getD k 0 ∈ lb := by
  rw [List.getD_eq_getElem?_getD, List.getElem?_eq_getElem h]
  exact List.getElem_mem h
theorem mem_getD {lb : List Int} {p : Int} (h : p ∈ lb) : ∃ k : Nat, k < lb.length ∧ lb.getD k 0 = p := by
  obtain ⟨k, hk, e⟩ := List.getElem_of_mem h
  refine ⟨k, hk, ?_⟩
  rw [List.getD_eq_getElem?_getD, List.getElem?_eq_getElem hk]
  exact e
/-- numbers of a list without repeats, rising -/
theorem srtI_up {l : List Int} (h : l.Nodup) : (srtI l).Pairwise (· < ·) := by
  have nd : (srtI l).Nodup := (srtI_perm l).nodup_iff.mpr h
  refine ((srtI_srt l).and nd).imp fun {a b} h => ?_
  have := h.1
  have := h.2
  omega
theorem srtI_is {l m : List Int} (h : l.Nodup) (hm : m.Pairwise (· < ·)) (e : ∀ z, z ∈ l ↔ z ∈ m) : srtI l = m :=
  srt_uniq (srtI_up h) hm fun z => by rw [(srtI_perm l).mem_iff, e]
theorem rows_nd {lb : List Int} {ps : List Int} (h : ps.Nodup) : ((ps.map (qsL lb)).flatten).Nodup := by
  show List.Pairwise (· ≠ ·) _
  rw [List.pairwise_flatten]
  refine ⟨fun l hl => ?_, List.pairwise_map.mpr (h.imp fun {p q} ne x hx y hy e => ?_)⟩
  · obtain ⟨p, _, rfl⟩ := List.mem_map.mp hl
    exact up_nd (qsL_up lb p)
  · obtain ⟨k, hk, e1, rfl⟩ := qsL_mem.mp hx
    rw [e] at hx
    subst e
    exact ne (e1.symm.trans ((qsL_at hk).mp hy))
theorem IsLab.self {N : Nat} {lb : List Int} (h : IsLab N lb) {p : Int} (hp : p ∈ lb) : ∃ m : Nat, p = (m : Int) ∧ m < N ∧ lb.getD m 0 = p ∧ ∀ k : Nat, k < N → lb.getD k 0 = p → m ≤ k := by
  obtain ⟨k, hk, rfl⟩ := mem_getD hp
  rw [h.len] at hk
  obtain ⟨m, e, le, s⟩ := h.at_ k hk
  refine ⟨m, e, by omega, by rw [s, e], fun j hj ej => ?_⟩
  obtain ⟨m2, e2, le2, _⟩ := h.at_ j hj
  rw [ej, e] at e2
  omega
/-- what one more lead does to labels: it parts a piece in two, or none -/
structure Parts (N : Nat) (lb lb' : List Int) (u v : Nat) : Prop where
  l : IsLab N lb
  l' : IsLab N lb'
  hu : u < N
  hv : v < N
  eq : ∀ i j, i < N → j < N → (lb.getD i 0 = lb.getD j 0 ↔ lb'.getD i 0 = lb'.getD j 0 ∨ ((lb'.getD i 0 = lb'.getD u 0 ∨ lb'.getD i 0 = lb'.getD v 0) ∧ (lb'.getD j 0 = lb'.getD u 0 ∨ lb'.getD j 0 = lb'.getD v 0)))
section
variable {N : Nat} {lb lb' : List Int} {u v : Nat}
theorem Parts.same (h : Parts N lb lb' u v) (e : lb'.getD u 0 = lb'.getD v 0) : lb = lb' := by
  have key : ∀ i j, i < N → j < N → (lb.getD i 0 = lb.getD j 0 ↔ lb'.getD i 0 = lb'.getD j 0) := fun i j hi hj => by
    rw [h.eq i j hi hj]
    exact ⟨fun z => z.elim id fun ⟨a, b⟩ => by rcases a with a | a <;> rcases b with b | b <;> simp_all, .inl⟩
  apply List.ext_getElem?
  intro i
  by_cases hi : i < N
  · have e1 : lb[i]? = some (lb.getD i 0) := by
      rw [List.getD_eq_getElem?_getD, List.getElem?_eq_getElem (by rw [h.l.len]; exact hi)]
      rfl
    have e2 : lb'[i]? = some (lb'.getD i 0) := by
      rw [List.getD_eq_getElem?_getD, List.getElem?_eq_getElem (by rw [h.l'.len]; exact hi)]
      rfl
    rw [e1, e2]
    obtain ⟨m, a1, a2, a3⟩ := h.l.at_ i hi
    obtain ⟨n, b1, b2, b3⟩ := h.l'.at_ i hi
    have c1 : lb'.getD m 0 = lb'.getD i 0 := (key m i (by omega) hi).mp (by rw [a3, a1])
    have c2 : lb.getD n 0 = lb.getD i 0 := (key n i (by omega) hi).mpr (by rw [b3, b1])
    obtain ⟨x, x1, x2, _⟩ := h.l.at_ n (by omega)
    obtain ⟨y, y1, y2, _⟩ := h.l'.at_ m (by omega)
    congr 1
    omega
  · rw [List.getElem?_eq_none (by rw [h.l.len]; omega), List.getElem?_eq_none (by rw [h.l'.len]; omega)]
/-- the rows that are new, and those that were -/
theorem Parts.rows (h : Parts N lb lb' u v) (ne : lb'.getD u 0 ≠ lb'.getD v 0) :
    (rowsL lb').filter (fun r => !decide (r ∈ rowsL lb)) = (sset [lb'.getD u 0, lb'.getD v 0]).map (qsL lb') ∧ (rowsL lb).filter (fun r => !decide (r ∈ rowsL lb')) = [qsL lb (lb.getD u 0)] ∧
      srtI ((sset [lb'.getD u 0, lb'.getD v 0]).map (qsL lb')).flatten = qsL lb (lb.getD u 0) := by
  have ln := h.l.len
  have ln' := h.l'.len
  have uu : lb.getD u 0 = lb.getD v 0 := (h.eq u v h.hu h.hv).mpr (.inr ⟨.inl rfl, .inr rfl⟩)
  have mu : (u : Int) ∈ qsL lb (lb.getD u 0) := (qsL_at (by rw [ln]; exact h.hu)).mpr rfl
  have mv : (v : Int) ∈ qsL lb (lb.getD u 0) := (qsL_at (by rw [ln]; exact h.hv)).mpr uu.symm
  -- rows that stay
  have stay : ∀ i, i < N → ¬ (lb'.getD i 0 = lb'.getD u 0 ∨ lb'.getD i 0 = lb'.getD v 0) → qsL lb (lb.getD i 0) = qsL lb' (lb'.getD i 0) := fun i hi no => by
    refine srt_uniq (qsL_up _ _) (qsL_up _ _) fun z => ?_
    rw [qsL_mem, qsL_mem, ln, ln']
    have one : ∀ k, k < N → (lb.getD k 0 = lb.getD i 0 ↔ lb'.getD k 0 = lb'.getD i 0) := fun k hk => by
      rw [h.eq k i hk hi]
      exact ⟨fun z => z.elim id fun ⟨_, b⟩ => absurd b no, .inl⟩
    exact ⟨fun ⟨k, hk, e, z⟩ => ⟨k, hk, (one k hk).mp e, z⟩, fun ⟨k, hk, e, z⟩ => ⟨k, hk, (one k hk).mpr e, z⟩⟩
  have inr : ∀ i, i < N → qsL lb (lb.getD i 0) ∈ rowsL lb := fun i hi => List.mem_map.mpr ⟨_, sset_mem.mpr (getD_mem (by rw [ln]; exact hi)), rfl⟩
  have inr' : ∀ i, i < N → qsL lb' (lb'.getD i 0) ∈ rowsL lb' := fun i hi => List.mem_map.mpr ⟨_, sset_mem.mpr (getD_mem (by rw [ln']; exact hi)), rfl⟩
  -- a row of the one kind that holds u and v is none of the other
  have apart : ∀ p, qsL lb' p ∈ rowsL lb → p = lb'.getD u 0 ∨ p = lb'.getD v 0 → False := fun p hp hc => by
    obtain ⟨r, _, er⟩ := List.mem_map.mp hp
    have both : (u : Int) ∈ qsL lb' p ∧ (v : Int) ∈ qsL lb' p := by
      rw [← er]
      rcases hc with z | z
      · have a : (u : Int) ∈ qsL lb r := by
          rw [er]
          exact (qsL_at (by rw [ln']; exact h.hu)).mpr z.symm
        have e := (qsL_at (by rw [ln]; exact h.hu)).mp a
        exact ⟨a, (qsL_at (by rw [ln]; exact h.hv)).mpr (uu.symm.trans e)⟩
      · have a : (v : Int) ∈ qsL lb r := by
          rw [er]
          exact (qsL_at (by rw [ln']; exact h.hv)).mpr z.symm
        have e := (qsL_at (by rw [ln]; exact h.hv)).mp a
        exact ⟨(qsL_at (by rw [ln]; exact h.hu)).mpr (uu.trans e), a⟩
    have e1 := (qsL_at (by rw [ln']; exact h.hu)).mp both.1
    have e2 := (qsL_at (by rw [ln']; exact h.hv)).mp both.2
    exact ne (e1.trans e2.symm)
  have au : lb'.getD u 0 ∈ lb' := getD_mem (by rw [ln']; exact h.hu)
  have av : lb'.getD v 0 ∈ lb' := getD_mem (by rw [ln']; exact h.hv)
  have two : ∀ z : Int, z ∈ [lb'.getD u 0, lb'.getD v 0] ↔ z = lb'.getD u 0 ∨ z = lb'.getD v 0 := fun z => by simp
  have filt : ∀ {f : Int → List Int} {p : List Int → Bool} (ps : List Int), (ps.map f).filter p = (ps.filter fun x => p (f x)).map f := fun {f p} ps => by
    rw [List.filter_map]
    rfl
  refine ⟨?_, ?_, ?_⟩
  · unfold rowsL
    rw [filt]
    congr 1
    refine srt_uniq ((sset_srt lb').filter _) (sset_srt _) fun z => ?_
    rw [List.mem_filter, sset_mem, sset_mem, two]
    constructor
    · rintro ⟨hz, hq⟩
      have hq : qsL lb' z ∉ rowsL lb := by simpa [rowsL] using hq
      obtain ⟨i, hi, rfl⟩ := mem_getD hz
      rw [ln'] at hi
      by_cases c : lb'.getD i 0 = lb'.getD u 0 ∨ lb'.getD i 0 = lb'.getD v 0
      · exact c
      · rw [← stay i hi c] at hq
        exact absurd (inr i hi) hq
    · intro hz
      refine ⟨by rcases hz with rfl | rfl <;> assumption, ?_⟩
      have q : qsL lb' z ∉ rowsL lb := fun q => apart z q hz
      simpa [rowsL] using q
  · have e : (rowsL lb).filter (fun r => !decide (r ∈ rowsL lb')) = (sset [lb.getD u 0]).map (qsL lb) := by
      unfold rowsL
      rw [filt]
      congr 1
      refine srt_uniq ((sset_srt lb).filter _) (sset_srt _) fun z => ?_
      rw [List.mem_filter, sset_mem, sset_mem, List.mem_singleton]
      constructor
      · rintro ⟨hz, hq⟩
        have hq : qsL lb z ∉ rowsL lb' := by simpa [rowsL] using hq
        obtain ⟨i, hi, rfl⟩ := mem_getD hz
        rw [ln] at hi
        by_cases c : lb'.getD i 0 = lb'.getD u 0 ∨ lb'.getD i 0 = lb'.getD v 0
        · exact (h.eq i u hi h.hu).mpr (.inr ⟨c, .inl rfl⟩)
        · rw [stay i hi c] at hq
          exact absurd (inr' i hi) hq
      · rintro rfl
        refine ⟨getD_mem (by rw [ln]; exact h.hu), ?_⟩
        have q : qsL lb (lb.getD u 0) ∉ rowsL lb' := fun q => by
          obtain ⟨r, _, er⟩ := List.mem_map.mp q
          rw [← er] at mu mv
          have e1 := (qsL_at (by rw [ln']; exact h.hu)).mp mu
          have e2 := (qsL_at (by rw [ln']; exact h.hv)).mp mv
          exact ne (e1.trans e2.symm)
        simpa [rowsL] using q
    rw [e]
    rfl
  · refine srtI_is (rows_nd (up_nd (sset_srt _))) (qsL_up _ _) fun z => ?_
    rw [List.mem_flatten, qsL_mem, ln]
    constructor
    · rintro ⟨l, hl, hz⟩
      obtain ⟨p, pm, rfl⟩ := List.mem_map.mp hl
      obtain ⟨k, hk, e, rfl⟩ := qsL_mem.mp hz
      rw [sset_mem, two] at pm
      rw [ln'] at hk
      refine ⟨k, hk, (h.eq k u hk h.hu).mpr (.inr ⟨?_, .inl rfl⟩), rfl⟩
      rw [e]
      exact pm
    · rintro ⟨k, hk, e, rfl⟩
      have c : lb'.getD k 0 = lb'.getD u 0 ∨ lb'.getD k 0 = lb'.getD v 0 := ((h.eq k u hk h.hu).mp e).elim .inl fun z => z.1
      exact ⟨qsL lb' (lb'.getD k 0), List.mem_map.mpr ⟨_, sset_mem.mpr ((two _).mpr c), rfl⟩, (qsL_at (by rw [ln']; exact hk)).mpr rfl⟩
end
end Lw

namespace Lw
open PySem.Spec PySem L2 PyProof.Rows
open Evl (Ex Ex.refl Ex.trans Ex.new Ex.off ex_rd ex_l ex_t)
/-! lists of lists of numbers, asked and summed -/
section
variable {K : Fg} {B : Bg} {G G' H : Hp} {σ : L2.St} {te ta tb : TE} {tr : TA} {tt : TT} {d : PyData} {ds es : List PyData} {D : Ends} {t u : TS} {n : Nat}
end
end Lw

namespace Lw
open PySem.Spec PySem L2 PyProof.Rows
open Evl (Ex Ex.refl Ex.trans Ex.new Ex.off ex_rd ex_l ex_t)
/-! own errors over LookupError with one field, laid by an __init__ -/
abbrev leB : List Value := [.type "LookupError", .type "Exception", .type "BaseException", .type "object"]
structure OexL (K : Fg) (C : Addr) : Prop where
  nw : PySem.W.excInitIn K C leB "LookupError.__new__" = true
  ov : PySem.W.excOver K C leB = true
  dct : PySem.W.hasDictIn K C = true
  st : PySem.W.findIn K (.ref C) "__setattr__" = some (some (.builtin "object.__setattr__")) ∧ PySem.W.keepIn K (.ref C) = true
  up : PySem.W.subIn K (.ref C) (.type "BaseException") = some true ∧ PySem.W.typeIn K (.ref C) = some (.type "type")
section
variable {X : Cx} {pins : List (Addr × Obj)} {σ : L2.St} {H : Hp} {a C : Addr} {f : Str} {y : V} {u : Value}
/-- the error's dict was made, with one field in it -/
theorem made_field {hp h' : Heap} {g : Array GenState} {d : Drawn} {t tk : Nat} {os : OsState} {dx t1 : Addr} (I : Inv X pins σ H ⟨hp, g, d, t, os⟩) (e : H a = some (exo a C none)) (old : ∀ b o, b ≠ a → hp.get? b = some o → h'.get? b = some o) (dn : hp.objs.size ≤ dx)
    (ha : h'.get? a = some ({ cls := .ref C, dict := some dx, data := .fields #[.ref t1, .none, .none, .none, .bool false, .none] } : Obj)) (hn : h'.Ns1 dx (fun z => if z = f then some u else none)) (ry : RelV y u) :
    Inv X pins σ (upd (upd H dx (exd dx [(f, y)])) a (exo a C (some dx))) ⟨h', g, d, tk, os⟩ := by
  have fresh : H dx = none := I.hok.fresh dn
  have off : ∀ {b : Addr}, H b = none → b ≠ a := fun {b} n z => by
    rw [z, e] at n
    cases n
  have below : ∀ {b : Addr} {o : Obj}, hp.get? b = some o → b ≠ dx := fun {b o} q => Nat.ne_of_lt (Nat.lt_of_lt_of_le (Heap.lt_size q) dn)
  have same : ∀ {b : Addr}, b ≠ a → b ≠ dx → (upd (upd H dx (exd dx [(f, y)])) a (exo a C (some dx))) b = H b := fun {b} n1 n2 => by rw [upd_ne n1, upd_ne n2]
  have kept : ∀ {b : Addr} {v : HO}, H b = some v → exo a C none ≠ v → (upd (upd H dx (exd dx [(f, y)])) a (exo a C (some dx))) b = some v := fun {b v} q n => (same (at_ne e q n) (ne_of_none q fresh)).trans q
  refine I.un (t' := tk) ⟨fun b o q n _ _ => old b o (off n) q, fun b o q n _ _ => ⟨o.slots, old b o (off n) q⟩, fun b o q n _ => (same (off n) (below q)).trans n, fun b o q _ => ?_, fun b xs q => kept q exo_tup, fun b o v q => kept q exo_frz, fun b ps q => ⟨#[], ?_⟩⟩ fun b o q => ?_
  · by_cases c : b = a
    · exact ⟨_, by rw [c]; exact ha⟩
    · exact ⟨o, old b o c q⟩
  · rw [kept q exo_tbl]
    simp
  · by_cases c : b = a
    · subst c
      rw [upd_same] at q
      cases q
      exact exo_ok ha
    · by_cases c2 : b = dx
      · subst c2
        rw [upd_ne c, upd_same] at q
        cases q
        exact exd_ok hn (relO_put (fs := []) ry fun _ => trivial)
      · rw [same c c2] at q
        refine (I.hok b o q).stay (fun z v hz w => ?_) (fun z hz => kept hz exo_own) (fun z xs hz => kept hz exo_tup)
        refine old z v ?_ w
        rcases hz with rfl | hz
        · exact c
        · exact at_ne e hz exo_own
variable {s : Shared} {Q : Unit → Shared → Prop} {E : Value → Shared → Prop} {A : Around}
/-- self.f = y, the first field -/
theorem ost_L (T : OexL X.K C) (I : Inv X pins σ H s) (e : H a = some (exo a C none)) (no : PySem.W.takerIn X.K C f = some none) (ry : RelV y u)
    (k : ∀ dx s', H dx = none → dx ≠ a → Inv X pins σ (upd (upd H dx (exd dx [(f, y)])) a (exo a C (some dx))) s' → Q () s') : wpAny (model X.prog X.w) A (setAttr (.ref a) f u) Q E s := by
  obtain ⟨t1, at0⟩ := exo_at I.hok e
  rcases s with ⟨hp, g, d, t, os⟩
  obtain ⟨cd, hc, hd⟩ := PySem.W.any_some T.dct
  have at_ : PySem.W.InstAt hp a { cls := .ref C, dict := none, data := .fields #[.ref t1, .none, .none, .none, .bool false, .none] } C none := ⟨at0, rfl, rfl, trivial⟩
  refine PySem.W.set_plain I.kIn at_ T.st.1 (PySem.W.osa_openX (od := none) F.store_LookupError I.kIn at_ T.ov no fun b => ?_)
  have lt : a < hp.objs.size := Heap.lt_size at0
  refine wpAny_bind (wpAny_pure (wpAny_bind (PySem.W.instanceDict_exc (t := t1) (c2 := .none) at0 (PySem.W.looks_clsIn I.kIn hc) hd ?_)))
  refine PySem.HandSPX.store_in_new (dx := hp.objs.size) ?_ fun h' tk hn sb => ?_
  · exact ⟨_, #[], _, (Heap.get?_update_ne _ _ _ _ (Nat.ne_of_gt lt)).trans (Heap.get?_push_at rfl rfl), rfl, fun x hx => absurd hx (by simp), fun _ => rfl⟩
  · have ha : h'.get? a = some ({ cls := .ref C, dict := some hp.objs.size, data := .fields #[.ref t1, .none, .none, .none, .bool false, .none] } : Obj) := (sb.2 a (Nat.ne_of_lt lt)).trans (Heap.get?_update_self _ (Heap.get?_push_of_some _ at0) rfl)
    refine k hp.objs.size _ (I.hok.fresh (Nat.le_refl _)) (Nat.ne_of_gt lt) (made_field I e (fun b o n q => ?_) (Nat.le_refl _) ha hn ry)
    exact (sb.2 b (Nat.ne_of_lt (Heap.lt_size q))).trans ((Heap.get?_update_ne _ _ _ _ n).trans (Heap.get?_push_of_some _ q))
end
/-- self.f = e, the first field of such an error -/
def tOsL (K : Fg) (f : Str) (to te : TE) : TS := fun D σ H => te σ H fun y H1 => to σ H1 fun x H2 => ∃ a C : Addr, x = .ref a ∧ OexL K C ∧ PySem.W.takerIn K C f = some none ∧ H2 a = some (exo a C none) ∧ ∀ dx, H2 dx = none → dx ≠ a → D.nx σ (upd (upd H2 dx (exd dx [(f, y)])) a (exo a C (some dx)))
section
variable {X : Cx} {o e : Expr} {es : List Expr} {to te : TE} {ta : TA} {f : Str} {p p' pos : Pos}
theorem ps_osL (ho : PE X o to) (he : PE X e te) (hs : swapsWith e (some (.Attribute o f p')) pos.line X.env = pure false := by rfl) : PS X (.Assign [.Attribute o f p'] e pos) (tOsL X.K f to te) := by
  constructor
  intro pins s σ H D I h
  refine plainObj_wpAny_Assign_Attribute (thn (he.run pins s σ H _ I h) ?_) hs
  rintro v s1 ⟨y, H1, I1, r1, q1⟩
  refine thn (ho.run pins s1 σ H1 _ I1 q1) ?_
  rintro u s2 ⟨x, H2, I2, r2, a, C, rfl, T, no, ea, q⟩
  obtain rfl : u = .ref a := r2
  exact ost_L T I2 ea no r1 fun dx s' n ne J => ⟨σ, _, J, q dx n ne⟩
end
/-- what is to be known of such a class: its __init__ at fI, the field at -/
structure AtL (K : Fg) (C fI : Addr) : Prop where
  o : OexL K C
  x : XfC K C
  no : PySem.W.takerIn K C "at" = some none
  nf : PySem.W.findIn K (.ref C) "at" = some none
  i : PySem.W.findIn K (.ref C) "__init__" = some (some (.ref fI))
  t : PySem.W.typeIn K (.ref fI) = some (.type "function")
/-- what such an __init__ does -/
def sp_atL (K : Fg) : Sp := fun vs H Q E => ∃ (a C : Addr) (v : V), vs = [.ref a, v] ∧ OexL K C ∧ PySem.W.takerIn K C "at" = some none ∧ H a = some (exo a C none) ∧ ∀ dx, H dx = none → dx ≠ a → Q .non (upd (upd H dx (exd dx [("at", v)])) a (exo a C (some dx)))
structure GoodIL (P : Program) (w : World) (K : Fg) (mg : Str → Option Value) (base : Heap) (CX : CXT) (k : Nat) (f : Addr) : Prop where
  ex : ∃ fd, FnOk P w K mg base CX k f fd ["self", "at"] (sp_atL K) ∧ Binds K fd ["self", "at"] []
section
variable {K : Fg} {B : Bg} {G G1 H H1 : Hp} {σ : L2.St} {te : TE} {C fI : Addr} {n : Int} {Q : XK}
end
/-! suites read in several ways; clauses with two classes -/
theorem exm_two {K : Fg} {cls c1 c2 : Value} {b1 b2 : Bool} (h1 : PySem.W.exmOne K cls c1 = some b1) (h2 : PySem.W.exmOne K cls c2 = some b2) : PySem.W.exmAny K cls [c1, c2] = some (b1 || b2) := by
  unfold PySem.W.exmAny PySem.W.exmAny PySem.W.exmAny
  rw [h1, h2]
  cases b1 <;> cases b2 <;> rfl
/-- isinstance(e, c), e a caught error with a dict of its own at dd -/
def rIsD (K : Fg) (C a dd : Addr) : List V → Hp → VK → Prop := fun xs H Q => ∃ (c : V) (cv : Value) (b : Bool) (fs : List (Str × V)), xs = [.ref a, c] ∧ (∀ u, RelV c u → u = cv) ∧ PySem.W.kitOne K (.ref C) cv = some b ∧ H dd = some (.xd fs) ∧ Q (.bl b) H
end Lw

namespace Lw
open PySem.Spec PySem L2 PyProof.Rows
open Evl (Ex Ex.refl Ex.trans Ex.new Ex.off ex_rd ex_l ex_t)
/-! dict(a list of pairs) with keys that are tuples of numbers, and its length -/
section
variable {X : Cx}
end
/-! such a dict told by its keys as they stand -/
def DpL (K : Fg) (P : Program) (w : World) (G : Hp) (v : V) (kL : List (List Int)) : Prop := ∃ (a : Addr) (L : List Ent), v = .ref a ∧ G a = some (DGO P w a L) ∧ keysOf K G L ∧ L.map (·.1) = kL
section
variable {K : Fg} {P : Program} {w : World} {B : Bg} {G G' H : Hp} {σ : L2.St} {te ta : TE} {D : Ends} {t u : TS} {v : V} {kL ls : List (List Int)} {i : Nat}
theorem DpL.k (h : DpL K P w G v kL) : DpK K P w G v kL := by
  obtain ⟨a, L, rfl, h1, h2, rfl⟩ := h
  exact ⟨a, L, rfl, h1, h2, fun _ => Iff.rfl⟩
theorem paired_imp {α β : Type} {F F' : α → β → Prop} {l : List α} {m : List β} (p : Paired F l m) (h : ∀ a b, F a b → F' a b) : Paired F' l m := by
  induction p with
  | nil => exact .nil
  | cons q t ih => exact .cons (h _ _ q) ih
end
/-! while -/
end Lw

namespace Lw
open PySem.Spec PySem L2 PyProof.Rows
open Evl (Ex Ex.refl Ex.trans Ex.new Ex.off ex_rd ex_l ex_t)
/-! dicts with tuples for keys: made, read, added to, walked, sorted -/
/-- such a dict, the object as it stands -/
def DGF (P : Program) (w : World) (d : Addr) (o : Obj) (L : List Ent) : HO := .ext fun h => DGok P w h d L ∧ h.get? d = some o
def RgG (P : Program) (w : World) (H : Hp) (d : Addr) (L : List Ent) : Prop := H d = some (DGO P w d L) ∨ ∃ o, H d = some (DGF P w d o L)
section
variable {X : Cx} {pins : List (Addr × Obj)} {s : Shared} {σ : L2.St} {H : Hp} {d b : Addr} {L : List Ent} {ns : List Int} {u r : Value} {A : Around} {E : Value → Shared → Prop}
end
section
variable {X : Cx} {e f o i value tg : Expr} {td ty tx tv te : TE} {pos pos' apos cpos : Pos}
/-! walked -/
/-! list(d) -/
end
/-! sorted of tuples that are taken out of something -/
section
variable {s : Shared} {P : Program} {w : World} {A : Around} {E : Value → Shared → Prop}
/-- the items of a dict, taken into a list of their own -/
theorem collect_src {T : String} {r d : Addr} {n : Nat} {Pi : Nat → Value → Prop} {OK : Heap → Prop} {R : List Value → Shared → Prop} (S : PySem.W.KdlSrc P w T r d n Pi OK) (hh : A.handled = none) (ok : OK s.heap) (few : n ≤ sizeLine)
    (k : ∀ h' tk (acc : Array Value), (∀ b o, s.heap.get? b = some o → h'.get? b = some o) → s.heap.objs.size < h'.objs.size → ItemsOf Pi acc n → R acc.toList { s with heap := h', toks := tk }) : wpAny (model P w) A (collect (.ref r)) R E s := by
  obtain ⟨r1, d1⟩ := S.there _ ok
  have new : (s.heap.push (seqObj "list" #[] 0)).get? s.heap.objs.size = some (seqObj "list" #[] 0) := Heap.get?_push_size _ rfl
  have z := PySem.W.kdl_extend (A := A) (s := { s with heap := s.heap.push (seqObj "list" #[] 0) })
    (R := fun q s1 => ∃ h' tk acc c, q = .ok (.ret (.ref s.heap.objs.size)) ∧ s1 = { s with heap := h', toks := tk } ∧ (∀ b o, s.heap.get? b = some o → h'.get? b = some o) ∧ h'.get? s.heap.objs.size = some (seqObj "list" acc c) ∧ ItemsOf Pi acc n)
    S hh (S.keep _ _ ok fun b _ o e => Heap.get?_push_of_some _ e) _ (Nat.ne_of_gt r1) (Nat.ne_of_gt d1) (.ref s.heap.objs.size) 0 new
    (fun h' tk acc c kp g it => ⟨h', tk, acc, c, rfl, rfl, fun b o e => kp b o (Nat.ne_of_lt (Heap.lt_size e)) (Heap.get?_push_of_some _ e), g, it⟩) few
  have fin : ∀ (q : Result) s1, (∃ h' tk acc c, q = .ok (.ret (.ref s.heap.objs.size)) ∧ s1 = { s with heap := h', toks := tk } ∧ (∀ b o, s.heap.get? b = some o → h'.get? b = some o) ∧ h'.get? s.heap.objs.size = some (seqObj "list" acc c) ∧ ItemsOf Pi acc n) → ∃ h' tk acc c, q = .ok (.ret (.ref s.heap.objs.size)) ∧ s1 = { s with heap := h', toks := tk } ∧ h'.get? s.heap.objs.size = some (seqObj "list" acc c) ∧ R acc.toList s1 := by
    rintro q s1 ⟨h', tk, acc, c, rfl, rfl, kp, g, it⟩
    exact ⟨h', tk, acc, c, rfl, rfl, g, k h' tk acc kp (Heap.lt_size g) it⟩
  unfold collect
  refine wpAny_bind (wpAny_runValue (codeAny_builtin entry_proto_collect' (by
    rw [Around.under_plainId PySem.F.plain_proto_collect (_)]
    refine (show wpAny _ A.in1 (newList [] >>= fun l => again (.builtin "list.__iadd__" ⟨[l, .ref r], []⟩)) _ _ s from wpAny_bind (wpAny_newObj_type (wpAny_pure ⟨plainId_quiet PySem.F.plain_list_iadd _, codeAny_builtin entry_list_iadd' ?_⟩)))
    rw [Around.under_plainId PySem.F.plain_list_iadd (_)]
    refine wpAny_mono (show wpAny _ A.in1 (Builtin.List.listExtendWith (.ref s.heap.objs.size) (.ref r) (.ref s.heap.objs.size)) _ _ _ from z) (fun f s1 x => ?_) fun e s1 x => ?_
    · cases f with
      | done f =>
        obtain ⟨h', tk, acc, c, e, rfl, g, y⟩ := fin _ _ x
        cases e
        exact (show wpAny _ A (load s.heap.objs.size >>= _) _ _ _ from wpAny_bind (wpAny_load g (wpAny_pure y)))
      | again c1 =>
        refine ⟨x.1, codeAny_mono x.2 fun q s2 x2 => ?_⟩
        obtain ⟨h', tk, acc, c, rfl, rfl, g, y⟩ := fin _ _ x2
        exact (show wpAny _ A (load s.heap.objs.size >>= _) _ _ _ from wpAny_bind (wpAny_load g (wpAny_pure y)))
    · obtain ⟨_, _, _, _, no, _⟩ := x
      cases no)))
end
section
variable {X : Cx}
end
end Lw

namespace Lw
open PySem.Spec PySem L2 PyProof.Rows
open Evl (Ex Ex.refl Ex.trans Ex.new Ex.off ex_rd ex_l ex_t)
/-! ### tables of keys, as lists -/
section
variable {α β : Type}
def lkK (mm : List (List Int × α)) (k : List Int) : Option α := (mm.find? fun m => decide (m.1 = k)).map (·.2)
def upK (mm : List (List Int × α)) (k : List Int) (f : Option α → α) : List (List Int × α) := if k ∈ mm.map (·.1) then mm.map fun m => if m.1 = k then (m.1, f (some m.2)) else m else mm ++ [(k, f none)]
theorem lkK_none {mm : List (List Int × α)} {k : List Int} : lkK mm k = none ↔ k ∉ mm.map (·.1) := by
  unfold lkK
  rw [Option.map_eq_none_iff, List.find?_eq_none]
  refine ⟨fun h m => ?_, fun h m hm c => h (List.mem_map.mpr ⟨m, hm, of_decide_eq_true c⟩)⟩
  obtain ⟨z, hz, e⟩ := List.mem_map.mp m
  exact h z hz (decide_eq_true e)
theorem lkK_cons (m : List Int × α) (mm : List (List Int × α)) (k : List Int) : lkK (m :: mm) k = if m.1 = k then some m.2 else lkK mm k := by
  unfold lkK
  rw [List.find?_cons]
  by_cases c : m.1 = k
  · rw [decide_eq_true c, if_pos c]
    rfl
  · rw [decide_eq_false c, if_neg c]
theorem lkK_of {mm : List (List Int × α)} (h : (mm.map (·.1)).Nodup) {k : List Int} {x : α} (m : (k, x) ∈ mm) : lkK mm k = some x := by
  induction mm with
  | nil => cases m
  | cons a mm ih =>
    rw [List.map_cons] at h
    have h2 := List.nodup_cons.mp h
    rw [lkK_cons]
    rcases List.mem_cons.mp m with e | m
    · rw [← e, if_pos rfl]
    · rw [if_neg (fun e => h2.1 (by rw [e]; exact List.mem_map.mpr ⟨_, m, rfl⟩))]
      exact ih h2.2 m
end
/-! ### a dict told by keys and values -/
abbrev MM := List (List Int × PyData)
def VRel (K : Fg) (G : Hp) : List Ent → MM → Prop := Paired fun e m => e.1 = m.1 ∧ Dp K G e.2.2 m.2
section
variable {K : Fg} {P : Program} {w : World} {B : Bg} {G G' H : Hp} {σ : L2.St} {te ta tb tk tv ty : TE} {tr : TA} {tt : TT} {d x : PyData} {ds es : List PyData} {D : Ends} {t u : TS} {b : Bool} {v : V} {ks ls : List (List Int)} {i j : Nat} {L : List Ent} {mm : MM} {k : List Int}
theorem VRel.mono (e : Ex G G') (h : VRel K G L mm) : VRel K G' L mm := paired_imp h fun _ _ z => ⟨z.1, dp_mono e z.2⟩
theorem VRel.keys (h : VRel K G L mm) : L.map (·.1) = mm.map (·.1) := by
  unfold VRel at h
  induction h with
  | nil => rfl
  | cons z _ ih => rw [List.map_cons, List.map_cons, ih, z.1]
theorem VRel.some (h : VRel K G L mm) (e : lkK mm k = some x) : ∃ v, valG L k = some v ∧ Dp K G v x := by
  unfold VRel at h
  induction h with
  | nil => cases e
  | @cons p m ps ms z _ ih =>
    rw [lkK_cons] at e
    unfold valG
    rw [List.find?_cons]
    by_cases c : m.1 = k
    · rw [if_pos c] at e
      rw [decide_eq_true (z.1.trans c)]
      exact ⟨_, rfl, by cases e; exact z.2⟩
    · rw [if_neg c] at e
      rw [decide_eq_false (fun q => c (z.1.symm.trans q))]
      exact ih e
theorem VRel.no (h : VRel K G L mm) (e : lkK mm k = none) : valG L k = none := by
  have z := valG_mem (L := L) (k := k)
  rw [h.keys, decide_eq_false (lkK_none.mp e)] at z
  cases q : valG L k with
  | none => rfl
  | some _ =>
    rw [q] at z
    cases z
theorem VRel.put {a : Addr} {f : Option PyData → PyData} (h : VRel K G L mm) (dv : Dp K G v (f (lkK mm k))) (nd : (mm.map (·.1)).Nodup) : VRel K G (putG L k a v) (upK mm k f) := by
  unfold putG upK
  rw [h.keys]
  by_cases c : k ∈ mm.map (·.1)
  · rw [if_pos c, if_pos c]
    have g : ∀ {L : List Ent} {ms : MM}, VRel K G L ms → (∀ m ∈ ms, m.1 = k → lkK mm k = Option.some m.2) → VRel K G (L.map fun p => if p.1 = k then (p.1, p.2.1, v) else p) (ms.map fun m => if m.1 = k then (m.1, f (Option.some m.2)) else m) := by
      intro L ms h
      unfold VRel at h
      induction h with
      | nil => exact fun _ => .nil
      | @cons p m ps ms z _ ih =>
        intro q
        refine .cons ?_ (ih fun m hm => q m (List.mem_cons_of_mem _ hm))
        show (if p.1 = k then (p.1, p.2.1, v) else p).1 = (if m.1 = k then (m.1, f (Option.some m.2)) else m).1 ∧ Dp K G (if p.1 = k then (p.1, p.2.1, v) else p).2.2 (if m.1 = k then (m.1, f (Option.some m.2)) else m).2
        by_cases d : m.1 = k
        · rw [if_pos d, if_pos (z.1.trans d)]
          rw [q m List.mem_cons_self d] at dv
          exact ⟨z.1, dv⟩
        · rw [if_neg d, if_neg (fun y => d (z.1.symm.trans y))]
          exact z
    refine g h fun m hm e => ?_
    exact lkK_of nd (by rw [← e]; exact hm)
  · rw [if_neg c, if_neg c]
    rw [lkK_none.mpr c] at dv
    exact paired_app h ⟨rfl, dv⟩
theorem VRel.len (h : VRel K G L mm) : L.length = mm.length := paired_len h
def DpM (K : Fg) (P : Program) (w : World) (G : Hp) (v : V) (mm : MM) : Prop := ∃ (a : Addr) (L : List Ent), v = .ref a ∧ RgG P w G a L ∧ keysOf K G L ∧ VRel K G L mm
def DpF (K : Fg) (P : Program) (w : World) (G : Hp) (v : V) (mm : MM) : Prop := ∃ (a : Addr) (L : List Ent) (o : Obj), v = .ref a ∧ G a = some (DGF P w a o L) ∧ keysOf K G L ∧ VRel K G L mm
theorem DpF.m (h : DpF K P w G v mm) : DpM K P w G v mm := by
  obtain ⟨a, L, o, rfl, h1, h2⟩ := h
  exact ⟨a, L, rfl, .inr ⟨o, h1⟩, h2⟩
/-! what gives such a dict -/
def RetM (K : Fg) (P : Program) (w : World) (B : Bg) (G H : Hp) (Q : VK) (mm : MM) : Prop := ∀ v G2 H2, Ext K B G H G2 H2 → DpF K P w G2 v mm → Q v H2
theorem RetM.mono {Q : VK} {G1 H1 : Hp} (X : Ext K B G H G1 H1) (h : RetM K P w B G H Q mm) : RetM K P w B G1 H1 Q mm := fun v G2 H2 X2 dv => h v G2 H2 (X.trans X2) dv
/-! ### such a dict that grows, its values told -/
structure LoG (K : Fg) (P : Program) (w : World) (B : Bg) (G0 H0 G H : Hp) (p : Addr) (mm : MM) : Prop where
  x : Ext K B G0 H0 G H
  h0 : H0 p = none
  g : G p = none
  nb : ¬ isB B p
  nd : (mm.map (·.1)).Nodup
  h : ∃ L, H p = some (DGO P w p L) ∧ keysOf K G L ∧ VRel K G L mm
theorem LoG.step {G0 H0 G2 H2 : Hp} {p : Addr} (l : LoG K P w B G0 H0 G H p mm) (X : Ext K B G H G2 H2) : LoG K P w B G0 H0 G2 H2 p mm := by
  obtain ⟨L, h1, h2, h3⟩ := l.h
  exact ⟨l.x.trans X, l.h0, X.fr p _ h1 l.g, l.nb, l.nd, L, X.hh p _ l.nb h1, keys_mono X.gg h2, h3.mono X.gg⟩
theorem LoG.frz {G0 H0 : Hp} {p : Addr} (l : LoG K P w B G0 H0 G H p mm) : ∃ G2, Ext K B G0 H0 G2 H ∧ Ex G G2 ∧ DpM K P w G2 (.ref p) mm := by
  obtain ⟨L, h1, h2, h3⟩ := l.h
  exact ⟨_, l.x.freeze l.h0 l.g l.nb h1, Ex.new l.g, p, L, rfl, .inl upd_same, keys_mono (Ex.new l.g) h2, h3.mono (Ex.new l.g)⟩
end
end Lw

namespace Lw
open PySem.Spec PySem L2 PyProof.Rows
open Evl (Ex Ex.refl Ex.trans Ex.new Ex.off ex_rd ex_l ex_t)
theorem nd_inj {α β : Type} {f : α → β} {l : List α} (h : (l.map f).Nodup) {a b : α} (ha : a ∈ l) (hb : b ∈ l) (e : f a = f b) : a = b := by
  induction l with
  | nil => cases ha
  | cons x l ih =>
    rw [List.map_cons] at h
    have h2 := List.nodup_cons.mp h
    rcases mem_c ha with q1 | q1
    · rcases mem_c hb with q2 | q2
      · rw [q1, q2]
      · exact absurd (List.mem_map.mpr ⟨b, q2, by rw [← e, q1]⟩) h2.1
    · rcases mem_c hb with q2 | q2
      · exact absurd (List.mem_map.mpr ⟨a, q1, by rw [e, q2]⟩) h2.1
      · exact ih h2.2 q1 q2
theorem paired_same {α β γ : Type} {F : β → γ → Prop} {f : α → β} {g : α → γ} : ∀ {l : List α}, (∀ a ∈ l, F (f a) (g a)) → Paired F (l.map f) (l.map g)
  | [], _ => .nil
  | a :: l, h => .cons (h a List.mem_cons_self) (paired_same fun b hb => h b (List.mem_cons_of_mem _ hb))
/-! ### a dict of lists, all of which grow: d.setdefault(k, []).append(x) -/
abbrev EM := List Int × Addr × Addr × List PyData
def entM (e : EM) : Ent := (e.1, e.2.1, .ref e.2.2.1)
def mmM (E : List EM) : List (List Int × List PyData) := E.map fun e => (e.1, e.2.2.2)
structure LoE (K : Fg) (P : Program) (w : World) (B : Bg) (G0 H0 G H : Hp) (p : Addr) (E : List EM) : Prop where
  x : Ext K B G0 H0 G H
  h0 : H0 p = none
  g : G p = none
  nb : ¬ isB B p
  kn : (E.map (·.1)).Nodup
  ln : (E.map (·.2.2.1)).Nodup
  h : H p = some (DGO P w p (E.map entM))
  ky : ∀ e ∈ E, SqT K G e.2.1 (e.1.map V.int)
  ls : ∀ e ∈ E, (e.2.2.1 ≠ p ∧ H0 e.2.2.1 = none ∧ G e.2.2.1 = none ∧ ¬ isB B e.2.2.1) ∧ ∃ xs, H e.2.2.1 = some (.lst xs) ∧ DpAll K G xs e.2.2.2
section
variable {K : Fg} {P : Program} {w : World} {B : Bg} {G0 H0 G G' H G2 H2 : Hp} {σ : L2.St} {te ta tb tk tv ty : TE} {tr : TA} {tt : TT} {d x : PyData} {ds es : List PyData} {D : Ends} {t u : TS} {b : Bool} {v y : V} {ks ls : List (List Int)} {i j : Nat} {L : List Ent} {k : List Int} {p : Addr} {E : List EM}
theorem LoE.keys (l : LoE K P w B G0 H0 G H p E) : keysOf K G (E.map entM) := fun n hn => by
  obtain ⟨e, he, rfl⟩ := List.mem_map.mp hn
  exact l.ky e he
theorem LoE.step (l : LoE K P w B G0 H0 G H p E) (X : Ext K B G H G2 H2) : LoE K P w B G0 H0 G2 H2 p E :=
  ⟨l.x.trans X, l.h0, X.fr p _ l.h l.g, l.nb, l.kn, l.ln, X.hh p _ l.nb l.h, fun e he => ex_t X.gg (l.ky e he), fun e he => by
    obtain ⟨⟨a1, a2, a3, a4⟩, xs, b1, b2⟩ := l.ls e he
    exact ⟨⟨a1, a2, X.fr _ _ b1 a3, a4⟩, xs, X.hh _ _ a4 b1, dpAll_mono X.gg b2⟩⟩
/-- one item more in one list -/
def addE (k : List Int) (d : PyData) (e : EM) : EM := if e.1 = k then (e.1, e.2.1, e.2.2.1, e.2.2.2 ++ [d]) else e
theorem addE_1 (k : List Int) (d : PyData) (e : EM) : (addE k d e).1 = e.1 ∧ (addE k d e).2.1 = e.2.1 ∧ (addE k d e).2.2.1 = e.2.2.1 := by
  unfold addE
  split <;> exact ⟨rfl, rfl, rfl⟩
theorem LoE.app (l : LoE K P w B G0 H0 G H p E) {e0 : EM} (he : e0 ∈ E) {xs : List V} (hx : H e0.2.2.1 = some (.lst xs)) (ax : DpAll K G xs e0.2.2.2) (dy : Dp K G y d) : LoE K P w B G0 H0 G (upd H e0.2.2.1 (.lst (xs ++ [y]))) p (E.map (addE e0.1 d)) := by
  obtain ⟨⟨a1, a2, a3, a4⟩, _⟩ := l.ls e0 he
  refine ⟨⟨l.x.gg, fun a o n z => ?_, l.x.fr, l.x.ok.mut a3 a4⟩, l.h0, l.g, l.nb, ?_, ?_, ?_, fun e h => ?_, fun e h => ?_⟩
  · rw [upd_ne (ne_of_none z a2)]
    exact l.x.hh a o n z
  · have z : (E.map (addE e0.1 d)).map (·.1) = E.map (·.1) := by
      rw [List.map_map]
      exact List.map_congr_left fun e _ => (addE_1 _ _ e).1
    rw [z]
    exact l.kn
  · have z : (E.map (addE e0.1 d)).map (·.2.2.1) = E.map (·.2.2.1) := by
      rw [List.map_map]
      exact List.map_congr_left fun e _ => (addE_1 _ _ e).2.2
    rw [z]
    exact l.ln
  · have z : (E.map (addE e0.1 d)).map entM = E.map entM := by
      rw [List.map_map]
      refine List.map_congr_left fun e _ => ?_
      obtain ⟨q1, q2, q3⟩ := addE_1 e0.1 d e
      show ((addE e0.1 d e).1, (addE e0.1 d e).2.1, V.ref (addE e0.1 d e).2.2.1) = (e.1, e.2.1, V.ref e.2.2.1)
      rw [q1, q2, q3]
    rw [upd_ne (Ne.symm a1), z]
    exact l.h
  · obtain ⟨e, hm, rfl⟩ := List.mem_map.mp h
    obtain ⟨q1, q2, _⟩ := addE_1 e0.1 d e
    rw [q1, q2]
    exact l.ky e hm
  · obtain ⟨e, hm, rfl⟩ := List.mem_map.mp h
    obtain ⟨_, _, q3⟩ := addE_1 e0.1 d e
    rw [q3]
    obtain ⟨c1, ys, c2, c3⟩ := l.ls e hm
    refine ⟨c1, ?_⟩
    by_cases c : e.1 = e0.1
    · obtain rfl := nd_inj l.kn hm he c
      refine ⟨xs ++ [y], upd_same, ?_⟩
      unfold addE
      rw [if_pos rfl]
      exact dpAll_app ax (.cons dy .nil)
    · have ne : e.2.2.1 ≠ e0.2.2.1 := fun z => c (by rw [nd_inj l.ln hm he z])
      unfold addE
      rw [if_neg c, upd_ne ne]
      exact ⟨ys, c2, c3⟩
/-- a key more, with an empty list -/
theorem LoE.more (l : LoE K P w B G0 H0 G H p E) (hk : k ∉ E.map (·.1)) {a r : Addr} (sa : SqT K G a (k.map V.int)) (hr : H r = none) : LoE K P w B G0 H0 G (upd (upd H r (.lst [])) p (DGO P w p (putG (E.map entM) k a (.ref r)))) p (E ++ [(k, a, r, [])]) := by
  have nr := l.x.ok.b.ne hr
  have rp : r ≠ p := fun c => by
    rw [c, l.h] at hr
    cases hr
  have hp : upd H r (.lst []) p = some (DGO P w p (E.map entM)) := by
    rw [upd_ne (Ne.symm rp)]
    exact l.h
  have l2 := l.step (Ext.loose (o := .lst []) l.x.ok hr)
  have e1 : putG (E.map entM) k a (.ref r) = (E ++ [(k, a, r, [])]).map entM := by
    unfold putG
    rw [if_neg, List.map_append]
    · rfl
    · rw [List.map_map]
      exact hk
  have old : ∀ e ∈ E, e.2.2.1 ≠ r := fun e he c => by
    obtain ⟨_, xs, b1, _⟩ := l.ls e he
    rw [c, hr] at b1
    cases b1
  have h0r : H0 r = none := l.x.old nr hr
  refine ⟨⟨l2.x.gg, fun b o n z => ?_, l2.x.fr, l2.x.ok.mut l2.g l.nb⟩, l.h0, l.g, l.nb, ?_, ?_, by rw [upd_same, e1], fun e he => ?_, fun e he => ?_⟩
  · rw [upd_ne (ne_of_none z l.h0)]
    exact l2.x.hh b o n z
  · rw [List.map_append]
    rw [List.nodup_append]
    exact ⟨l.kn, List.pairwise_singleton _ _, fun x hx z hz c => hk (by rw [← show z = k from mem_1 hz, ← c]; exact hx)⟩
  · rw [List.map_append]
    rw [List.nodup_append]
    refine ⟨l.ln, List.pairwise_singleton _ _, fun x hx z hz c => ?_⟩
    obtain ⟨e, he, rfl⟩ := List.mem_map.mp hx
    exact old e he (c.trans (mem_1 hz))
  · rcases mem_or he with he | he
    · exact l.ky e he
    · rw [mem_1 he]
      exact sa
  · rcases mem_or he with he | he
    · obtain ⟨c1, xs, c2, c3⟩ := l2.ls e he
      exact ⟨c1, xs, by rw [upd_ne c1.1]; exact c2, c3⟩
    · rw [mem_1 he]
      refine ⟨⟨rp, h0r, l.x.ok.e.off hr, nr⟩, [], ?_, .nil⟩
      show upd (upd H r (.lst [])) p _ r = _
      rw [upd_ne rp, upd_same]
/-- told by keys and what is in the lists -/
def LoM (K : Fg) (P : Program) (w : World) (B : Bg) (G0 H0 G H : Hp) (p : Addr) (mm : List (List Int × List PyData)) : Prop := ∃ E, LoE K P w B G0 H0 G H p E ∧ mmM E = mm
variable {mm : List (List Int × List PyData)}
theorem LoM.nd (l : LoM K P w B G0 H0 G H p mm) : (mm.map (·.1)).Nodup := by
  obtain ⟨E, l, rfl⟩ := l
  unfold mmM
  rw [List.map_map]
  exact l.kn
theorem LoM.step (l : LoM K P w B G0 H0 G H p mm) (X : Ext K B G H G2 H2) : LoM K P w B G0 H0 G2 H2 p mm := by
  obtain ⟨E, l, e⟩ := l
  exact ⟨E, l.step X, e⟩
theorem LoM.ok (l : LoM K P w B G0 H0 G H p mm) : Ext K B G0 H0 G H := l.elim fun _ z => z.1.x
/-- all of it stays from now on -/
theorem LoM.frz (l : LoM K P w B G0 H0 G H p mm) : ∃ G2, Ext K B G0 H0 G2 H ∧ Ex G G2 ∧ DpM K P w G2 (.ref p) (mm.map fun m => (m.1, .list m.2)) := by
  obtain ⟨E, l, rfl⟩ := l
  let G2 : Hp := fun a => if a = p ∨ a ∈ E.map (·.2.2.1) then H a else G a
  have out : ∀ {a : Addr} {o : HO}, G a = some o → ¬ (a = p ∨ a ∈ E.map (·.2.2.1)) := fun {a o} z c => by
    rcases c with c | c
    · rw [c, l.g] at z
      cases z
    · obtain ⟨e, he, rfl⟩ := List.mem_map.mp c
      rw [(l.ls e he).1.2.2.1] at z
      cases z
  have gg : Ex G G2 := fun a o z => by
    show (if a = p ∨ a ∈ E.map (·.2.2.1) then H a else G a) = some o
    rw [if_neg (out z)]
    exact z
  have no : ∀ {a : Addr}, (a = p ∨ a ∈ E.map (·.2.2.1)) → H0 a = none ∧ ¬ isB B a := fun {a} c => by
    rcases c with c | c
    · rw [c]
      exact ⟨l.h0, l.nb⟩
    · obtain ⟨e, he, rfl⟩ := List.mem_map.mp c
      exact ⟨(l.ls e he).1.2.1, (l.ls e he).1.2.2.2⟩
  refine ⟨G2, ⟨l.x.gg.trans gg, l.x.hh, fun a o z g => ?_, fun a o z => ?_, l.x.ok.c.mono gg, l.x.ok.b.keep (fun a z g => ?_) fun _ _ _ z => z⟩, gg, p, E.map entM, rfl, .inl ?_, keys_mono gg l.keys, ?_⟩
  · show (if a = p ∨ a ∈ E.map (·.2.2.1) then H a else G a) = none
    rw [if_neg (fun c => by rw [(no c).1] at z; cases z)]
    exact l.x.fr a o z g
  · have z : (if a = p ∨ a ∈ E.map (·.2.2.1) then H a else G a) = some o := z
    split at z
    · exact z
    · exact l.x.ok.e a o z
  · show (if a = p ∨ a ∈ E.map (·.2.2.1) then H a else G a) = none
    rw [if_neg (fun c => (no c).2 z)]
    exact g
  · show (if p = p ∨ p ∈ E.map (·.2.2.1) then H p else G p) = _
    rw [if_pos (.inl rfl)]
    exact l.h
  · unfold mmM
    rw [List.map_map]
    refine paired_same fun e he => ⟨rfl, ?_⟩
    obtain ⟨_, xs, c2, c3⟩ := l.ls e he
    refine .lst (SqL.of ?_) (dpAll_mono gg c3)
    show (if e.2.2.1 = p ∨ e.2.2.1 ∈ E.map (·.2.2.1) then H e.2.2.1 else G e.2.2.1) = _
    rw [if_pos (.inr (List.mem_map.mpr ⟨e, he, rfl⟩))]
    exact c2
/-! ### sorted(set(xs)), xs tuples of numbers -/
end
end Lw

namespace Lw
open PySem.Spec PySem L2 PyProof.Rows
open Evl (Ex Ex.refl Ex.trans Ex.new Ex.off ex_rd ex_l ex_t)
/-! sets of tuples that grow; {k: v}; going through a dict with what changes beside it -/
section
variable {X : Cx} {e o k v : Expr} {to ty tk tv : TE} {pos apos cpos : Pos}
end
section
variable {K : Fg} {P : Program} {w : World} {B : Bg} {G0 H0 G G' H G2 H2 : Hp} {σ : L2.St} {te ta tb tk tv ty : TE} {tr : TA} {tt : TT} {d x : PyData} {ds es : List PyData} {D : Ends} {t u : TS} {b : Bool} {v y : V} {ks ls : List (List Int)} {i j : Nat} {L : List Ent} {k : List Int} {p : Addr} {mm : MM}
/-- what is new may change -/
theorem Ext.poke {p : Addr} {o : HO} (X : Ext K B G H G2 H2) (h0 : H p = none) (g : G2 p = none) (nb : ¬ isB B p) : Ext K B G H G2 (upd H2 p o) :=
  ⟨X.gg, fun a u n z => by
    rw [upd_ne (ne_of_none z h0)]
    exact X.hh a u n z, X.fr, X.ok.mut g nb⟩
/-! ### a list of lists, each new -/
def NewL (B : Bg) (H G : Hp) (x : V) : Prop := ∃ q ys, x = .ref q ∧ H q = none ∧ ¬ isB B q ∧ G q = some (.lst ys) ∧ ys.length ≤ 1000
structure LoW (K : Fg) (B : Bg) (G0 H0 G H : Hp) (p : Addr) (ds : List PyData) : Prop where
  x : Ext K B G0 H0 G H
  h0 : H0 p = none
  g : G p = none
  nb : ¬ isB B p
  h : ∃ xs, H p = some (.lst xs) ∧ DpAll K G xs ds ∧ ∀ x ∈ xs, NewL B H0 G x
theorem LoW.step (l : LoW K B G0 H0 G H p ds) (X : Ext K B G H G2 H2) : LoW K B G0 H0 G2 H2 p ds := by
  obtain ⟨xs, h1, h2, h3⟩ := l.h
  exact ⟨l.x.trans X, l.h0, X.fr p _ h1 l.g, l.nb, xs, X.hh p _ l.nb h1, dpAll_mono X.gg h2, fun x hx => by
    obtain ⟨q, ys, a1, a2, a3, a4⟩ := h3 x hx
    exact ⟨q, ys, a1, a2, a3, X.gg _ _ a4.1, a4.2⟩⟩
theorem LoW.poke {a : Addr} {o : HO} (l : LoW K B G0 H0 G H p ds) (h0 : H0 a = none) (g : G a = none) (nb : ¬ isB B a) (ne : p ≠ a) : LoW K B G0 H0 G (upd H a o) p ds := by
  obtain ⟨xs, h1, h2, h3⟩ := l.h
  exact ⟨l.x.poke h0 g nb, l.h0, l.g, l.nb, xs, by rw [upd_ne ne]; exact h1, h2, h3⟩
def RetN (K : Fg) (B : Bg) (G H : Hp) (Q : VK) (ds : List PyData) : Prop := ∀ p G2 H2, LoW K B G H G2 H2 p ds → Q (.ref p) H2
theorem RetN.mono {Q : VK} (X : Ext K B G H G2 H2) (h : RetN K B G H Q ds) : RetN K B G2 H2 Q ds := fun p G3 H3 l => by
  have off : ∀ q, ¬ isB B q → H2 q = none → H q = none := fun q nb hq => X.old nb hq
  obtain ⟨xs, h1, h2, h3⟩ := l.h
  exact h p G3 H3 ⟨X.trans l.x, off p l.nb l.h0, l.g, l.nb, xs, h1, h2, fun x hx => by
    obtain ⟨q, ys, a1, a2, a3, a4⟩ := h3 x hx
    exact ⟨q, ys, a1, off q a3 a2, a3, a4⟩⟩
/-- told by what stands there now -/
theorem LoW.frz (l : LoW K B G0 H0 G H p ds) : ∃ G2, Ext K B G0 H0 G2 H ∧ Ex G G2 ∧ Dp K G2 (.ref p) (.list ds) := by
  obtain ⟨xs, h1, h2, _⟩ := l.h
  exact ⟨_, l.x.freeze l.h0 l.g l.nb h1, Ex.new l.g, .lst (SqL.of upd_same) (dpAll_mono (Ex.new l.g) h2)⟩
end
end Lw

namespace Lw
open PySem.Spec PySem L2 PyProof.Rows
open Evl (Ex Ex.refl Ex.trans Ex.new Ex.off ex_rd ex_l ex_t)
/-! a dict of keys and a pile beside it; a dict of a list of pairs -/
section
variable {K : Fg} {P : Program} {w : World} {B : Bg} {G0 H0 G G' H G2 H2 : Hp} {σ : L2.St} {te ta tb tk tv ty : TE} {tr : TA} {tt : TT} {d x : PyData} {ds es : List PyData} {D : Ends} {t u : TS} {b : Bool} {v y : V} {ks ls : List (List Int)} {i j : Nat} {L : List Ent} {k : List Int} {p a : Addr} {mm : MM} {o : HO}
/-- from further back -/
theorem LoW.from_ {Gs Hs : Hp} (X : Ext K B Gs Hs G0 H0) (l : LoW K B G0 H0 G H p ds) : LoW K B Gs Hs G H p ds := by
  obtain ⟨xs, h1, h2, h3⟩ := l.h
  exact ⟨X.trans l.x, X.old l.nb l.h0, l.g, l.nb, xs, h1, h2, fun x hx => by
    obtain ⟨q, ys, a1, a2, a3, a4⟩ := h3 x hx
    exact ⟨q, ys, a1, X.old a3 a2, a3, a4⟩⟩
theorem LoG.poke (l : LoG K P w B G0 H0 G H p mm) (h0 : H0 a = none) (g : G a = none) (nb : ¬ isB B a) (ne : p ≠ a) : LoG K P w B G0 H0 G (upd H a o) p mm := by
  obtain ⟨L, h1, h2, h3⟩ := l.h
  exact ⟨l.x.poke h0 g nb, l.h0, l.g, l.nb, l.nd, L, by rw [upd_ne ne]; exact h1, h2, h3⟩
theorem Loo.poke (l : Loo K B G0 H0 G H p ds) (h0 : H0 a = none) (g : G a = none) (nb : ¬ isB B a) (ne : p ≠ a) : Loo K B G0 H0 G (upd H a o) p ds := by
  obtain ⟨xs, h1, h2⟩ := l.h
  exact ⟨l.x.poke h0 g nb, l.h0, l.g, l.nb, xs, by rw [upd_ne ne]; exact h1, h2⟩
/-- the pile as it is from now on -/
theorem Loo.put {xs : List V} (l : Loo K B G0 H0 G H p ds) (dx : DpAll K G xs es) : Loo K B G0 H0 G (upd H p (.lst xs)) p es :=
  ⟨l.x.poke l.h0 l.g l.nb, l.h0, l.g, l.nb, xs, upd_same, dx⟩
end
end Lw

namespace Lw
open PySem.Spec PySem L2 PyProof.Rows
open Evl (Ex Ex.refl Ex.trans Ex.new Ex.off ex_rd ex_l ex_t)
/-! ### dicts of lists with numbers for keys -/
abbrev EK := Int × Addr × List PyData
def kvE (E : List EK) : List (Key × V) := E.map fun e => (Sum.inl e.1, V.ref e.2.1)
def mmE (E : List EK) : List (Int × List PyData) := E.map fun e => (e.1, e.2.2)
structure LoK (K : Fg) (B : Bg) (G0 H0 G H : Hp) (p : Addr) (E : List EK) : Prop where
  x : Ext K B G0 H0 G H
  h0 : H0 p = none
  g : G p = none
  nb : ¬ isB B p
  kn : (E.map (·.1)).Nodup
  ln : (E.map (·.2.1)).Nodup
  h : H p = some (.dK (kvE E))
  ls : ∀ e ∈ E, (e.2.1 ≠ p ∧ H0 e.2.1 = none ∧ G e.2.1 = none ∧ ¬ isB B e.2.1) ∧ ∃ xs, H e.2.1 = some (.lst xs) ∧ DpAll K G xs e.2.2
def addK (k : Int) (d : PyData) (e : EK) : EK := if e.1 = k then (e.1, e.2.1, e.2.2 ++ [d]) else e
theorem addK_1 (k : Int) (d : PyData) (e : EK) : (addK k d e).1 = e.1 ∧ (addK k d e).2.1 = e.2.1 := by
  unfold addK
  split <;> exact ⟨rfl, rfl⟩
/-- told by keys and data, frozen -/
def DpI (K : Fg) (G : Hp) (v : V) (mm : List (Int × PyData)) : Prop := ∃ (a : Addr) (kvs : List (Key × V)), v = .ref a ∧ G a = some (.dK kvs) ∧ Paired (fun (kv : Key × V) (m : Int × PyData) => kv.1 = Sum.inl m.1 ∧ Dp K G kv.2 m.2) kvs mm
section
variable {K : Fg} {P : Program} {w : World} {B : Bg} {G0 H0 G G' H G2 H2 : Hp} {σ : L2.St} {te ta tb tk tv ty : TE} {tr : TA} {tt : TT} {d x : PyData} {ds es : List PyData} {D : Ends} {t u : TS} {b : Bool} {v y : V} {i j : Nat} {k : Int} {p : Addr} {E : List EK} {mm : List (Int × PyData)}
theorem LoK.step (l : LoK K B G0 H0 G H p E) (X : Ext K B G H G2 H2) : LoK K B G0 H0 G2 H2 p E :=
  ⟨l.x.trans X, l.h0, X.fr p _ l.h l.g, l.nb, l.kn, l.ln, X.hh p _ l.nb l.h, fun e he => by
    obtain ⟨⟨a1, a2, a3, a4⟩, xs, b1, b2⟩ := l.ls e he
    exact ⟨⟨a1, a2, X.fr _ _ b1 a3, a4⟩, xs, X.hh _ _ a4 b1, dpAll_mono X.gg b2⟩⟩
theorem LoK.app (l : LoK K B G0 H0 G H p E) {e0 : EK} (he : e0 ∈ E) {xs : List V} (hx : H e0.2.1 = some (.lst xs)) (ax : DpAll K G xs e0.2.2) (dy : Dp K G y d) : LoK K B G0 H0 G (upd H e0.2.1 (.lst (xs ++ [y]))) p (E.map (addK e0.1 d)) := by
  obtain ⟨⟨a1, a2, a3, a4⟩, _⟩ := l.ls e0 he
  refine ⟨l.x.poke a2 a3 a4, l.h0, l.g, l.nb, ?_, ?_, ?_, fun e h => ?_⟩
  · have z : (E.map (addK e0.1 d)).map (·.1) = E.map (·.1) := by
      rw [List.map_map]
      exact List.map_congr_left fun e _ => (addK_1 _ _ e).1
    rw [z]
    exact l.kn
  · have z : (E.map (addK e0.1 d)).map (·.2.1) = E.map (·.2.1) := by
      rw [List.map_map]
      exact List.map_congr_left fun e _ => (addK_1 _ _ e).2
    rw [z]
    exact l.ln
  · have z : kvE (E.map (addK e0.1 d)) = kvE E := by
      unfold kvE
      rw [List.map_map]
      refine List.map_congr_left fun e _ => ?_
      obtain ⟨q1, q2⟩ := addK_1 e0.1 d e
      show ((Sum.inl (addK e0.1 d e).1, V.ref (addK e0.1 d e).2.1) : Key × V) = (Sum.inl e.1, V.ref e.2.1)
      rw [q1, q2]
    rw [upd_ne (Ne.symm a1), z]
    exact l.h
  · obtain ⟨e, hm, rfl⟩ := List.mem_map.mp h
    obtain ⟨_, q2⟩ := addK_1 e0.1 d e
    rw [q2]
    obtain ⟨c1, ys, c2, c3⟩ := l.ls e hm
    refine ⟨c1, ?_⟩
    by_cases c : e.1 = e0.1
    · obtain rfl := nd_inj l.kn hm he c
      refine ⟨xs ++ [y], upd_same, ?_⟩
      unfold addK
      rw [if_pos rfl]
      exact dpAll_app ax (.cons dy .nil)
    · have ne : e.2.1 ≠ e0.2.1 := fun z => c (by rw [nd_inj l.ln hm he z])
      unfold addK
      rw [if_neg c, upd_ne ne]
      exact ⟨ys, c2, c3⟩
/-- told by what stands in it -/
def LoI (K : Fg) (B : Bg) (G0 H0 G H : Hp) (p : Addr) (mm : List (Int × List PyData)) : Prop := ∃ E, LoK K B G0 H0 G H p E ∧ mmE E = mm
theorem LoI.step {mm : List (Int × List PyData)} (l : LoI K B G0 H0 G H p mm) (X : Ext K B G H G2 H2) : LoI K B G0 H0 G2 H2 p mm := by
  obtain ⟨E, l, e⟩ := l
  exact ⟨E, l.step X, e⟩
theorem LoK.frz (l : LoK K B G0 H0 G H p E) : ∃ G2, Ext K B G0 H0 G2 H ∧ Ex G G2 ∧ DpI K G2 (.ref p) ((mmE E).map fun m => (m.1, .list m.2)) := by
  let G2 : Hp := fun a => if a = p ∨ a ∈ E.map (·.2.1) then H a else G a
  have out : ∀ {a : Addr} {o : HO}, G a = some o → ¬ (a = p ∨ a ∈ E.map (·.2.1)) := fun {a o} z c => by
    rcases c with c | c
    · rw [c, l.g] at z
      cases z
    · obtain ⟨e, he, rfl⟩ := List.mem_map.mp c
      rw [(l.ls e he).1.2.2.1] at z
      cases z
  have gg : Ex G G2 := fun a o z => by
    show (if a = p ∨ a ∈ E.map (·.2.1) then H a else G a) = some o
    rw [if_neg (out z)]
    exact z
  have no : ∀ {a : Addr}, (a = p ∨ a ∈ E.map (·.2.1)) → H0 a = none ∧ ¬ isB B a := fun {a} c => by
    rcases c with c | c
    · rw [c]
      exact ⟨l.h0, l.nb⟩
    · obtain ⟨e, he, rfl⟩ := List.mem_map.mp c
      exact ⟨(l.ls e he).1.2.1, (l.ls e he).1.2.2.2⟩
  refine ⟨G2, ⟨l.x.gg.trans gg, l.x.hh, fun a o z g => ?_, fun a o z => ?_, l.x.ok.c.mono gg, l.x.ok.b.keep (fun a z g => ?_) fun _ _ _ z => z⟩, gg, p, kvE E, rfl, ?_, ?_⟩
  · show (if a = p ∨ a ∈ E.map (·.2.1) then H a else G a) = none
    rw [if_neg (fun c => by rw [(no c).1] at z; cases z)]
    exact l.x.fr a o z g
  · have z : (if a = p ∨ a ∈ E.map (·.2.1) then H a else G a) = some o := z
    split at z
    · exact z
    · exact l.x.ok.e a o z
  · show (if a = p ∨ a ∈ E.map (·.2.1) then H a else G a) = none
    rw [if_neg (fun c => (no c).2 z)]
    exact g
  · show (if p = p ∨ p ∈ E.map (·.2.1) then H p else G p) = _
    rw [if_pos (.inl rfl)]
    exact l.h
  · unfold mmE kvE
    rw [List.map_map]
    refine paired_same fun e he => ⟨rfl, ?_⟩
    obtain ⟨_, xs, c2, c3⟩ := l.ls e he
    refine .lst (SqL.of ?_) (dpAll_mono gg c3)
    show (if e.2.1 = p ∨ e.2.1 ∈ E.map (·.2.1) then H e.2.1 else G e.2.1) = _
    rw [if_pos (.inr (List.mem_map.mpr ⟨e, he, rfl⟩))]
    exact c2
/-- one key more, with an empty list -/
theorem LoK.more (l : LoK K B G0 H0 G H p E) (hk : k ∉ E.map (·.1)) {r : Addr} (hr : H r = none) : LoK K B G0 H0 G (upd (upd H r (.lst [])) p (.dK (putK (kvE E) (Sum.inl k) (.ref r)))) p (E ++ [(k, r, [])]) := by
  have nr := l.x.ok.b.ne hr
  have rp : r ≠ p := fun c => by
    rw [c, l.h] at hr
    cases hr
  have l2 := l.step (Ext.loose (o := .lst []) l.x.ok hr)
  have e1 : putK (kvE E) (Sum.inl k) (.ref r) = kvE (E ++ [(k, r, [])]) := by
    rw [putK_new]
    · unfold kvE
      rw [List.map_append]
      rfl
    · have z : ∀ E : List EK, k ∉ E.map (·.1) → valV (kvE E) (Sum.inl k) = none := by
        intro E
        induction E with
        | nil => exact fun _ => rfl
        | cons f E ih =>
          intro h
          rw [List.map_cons, List.mem_cons, not_or] at h
          show valV ((Sum.inl f.1, V.ref f.2.1) :: kvE E) _ = _
          rw [valV_neg (p := ((Sum.inl f.1, V.ref f.2.1) : Key × V)) (fun c => h.1 (Sum.inl.inj c).symm)]
          exact ih h.2
      exact z E hk
  have old : ∀ e ∈ E, e.2.1 ≠ r := fun e he c => by
    obtain ⟨_, xs, b1, _⟩ := l.ls e he
    rw [c, hr] at b1
    cases b1
  refine ⟨l2.x.poke l.h0 l2.g l.nb, l.h0, l.g, l.nb, ?_, ?_, by rw [upd_same, e1], fun e he => ?_⟩
  · rw [List.map_append]
    rw [List.nodup_append]
    exact ⟨l.kn, List.pairwise_singleton _ _, fun x hx z hz c => hk (by rw [← show z = k from mem_1 hz, ← c]; exact hx)⟩
  · rw [List.map_append]
    rw [List.nodup_append]
    refine ⟨l.ln, List.pairwise_singleton _ _, fun x hx z hz c => ?_⟩
    obtain ⟨e, he, rfl⟩ := List.mem_map.mp hx
    exact old e he (c.trans (mem_1 hz))
  · rcases mem_or he with he | he
    · obtain ⟨c1, xs, c2, c3⟩ := l2.ls e he
      exact ⟨c1, xs, by rw [upd_ne c1.1]; exact c2, c3⟩
    · rw [mem_1 he]
      refine ⟨⟨rp, l.x.old nr hr, l.x.ok.e.off hr, nr⟩, [], ?_, .nil⟩
      show upd (upd H r (.lst [])) p _ r = _
      rw [upd_ne rp, upd_same]
theorem LoK.nil (e : Ok K B G H) (hp : H p = none) : LoK K B G H G (upd H p (.dK [])) p [] := ⟨Ext.loose e hp, hp, e.e.off hp, e.b.ne hp, List.nodup_nil, List.nodup_nil, upd_same, fun _ h => by cases h⟩
end
end Lw

namespace Lw
open PySem.Spec PySem L2 PyProof.Rows
open Evl (Ex Ex.refl Ex.trans Ex.new Ex.off ex_rd ex_l ex_t)
/-! ### sorted of a dict with numbers for keys -/
section
variable {s : Shared} {P : Program} {w : World} {A : Around} {E : Value → Shared → Prop}
theorem sorted_gotI {a : Addr} {ns : List Int} {Q : Value → Shared → Prop} (z : ns.length ≤ sizeLine)
    (got : ∀ Q1 : List Value → Shared → Prop, (∀ h' tk vs, (∀ b o, s.heap.get? b = some o → h'.get? b = some o) → s.heap.objs.size ≤ h'.objs.size → IntsAre vs ns → vs.length = ns.length → Q1 vs { s with heap := h', toks := tk }) → wpAny (model P w) A.in1 (collect (.ref a)) Q1 E s)
    (k : ∀ h' tk p (out : List Value) (c : Nat) (ms : List Int), (∀ b o, s.heap.get? b = some o → h'.get? b = some o) → s.heap.objs.size ≤ p → h'.get? p = some (seqObj "list" out.toArray c) → IntsAre out ms → ms.Perm ns → ms.Pairwise (· ≤ ·) → Q (.ref p) { s with heap := h', toks := tk }) :
    (show Prop from wpAny (model P w) A (call (.builtin "sorted") [Value.ref a]) Q E s) := by
  refine Calls.call_function_entry kind_sorted plain_sorted entry_sorted (args_sorted1 (.ref a)) ?_
  unfold Builtin.«sorted»
  refine wpAny_bind (m := checkCount "sorted" 1 1 _) (wpAny_pure (wpAny_bind (got _ fun h1 tk vs k1 z1 iv vl0 => wpAny_bind (wpAny_newList ?_ (by rw [vl0]; exact z)))))
  have vl : vs.length ≤ sizeLine := by
    rw [vl0]
    exact z
  have oL : (h1.push (seqObj "list" vs.toArray 0)).get? h1.objs.size = some (seqObj "list" vs.toArray 0) := Heap.get?_push_size _ rfl
  refine wpAny_bind (wpAny_holding (wpAny_call_entry slot_list_sort ⟨_, oL, rfl⟩ entry_list_sort (SrtO.list_sort_ord SrtO.swo_int oL vl (fun h2 => SrtO.ints_sortable iv h2) fun out q1 q2 => ⟨_, rfl, ?_⟩) (args_list_sort _)))
  obtain ⟨c, hc⟩ := sortedHeap_at (vs := vs) (out := out.toArray) oL
  obtain ⟨i1, i2, i3⟩ := SrtO.ints_out iv q1 q2
  refine wpAny_pure ⟨_, rfl, k _ tk h1.objs.size out c _ (fun b u e => ?_) z1 hc i1 i2 i3⟩
  have lt := Heap.lt_size (k1 b u e)
  rw [sortedHeap_old (Nat.ne_of_lt lt) (by rw [size_push']; exact Nat.lt_succ_of_lt lt)]
  exact Heap.get?_push_of_some _ (k1 b u e)
end
def rSortDK : List V → Hp → VK → Prop := fun vs H Q => ∃ (a : Addr) (kvs : List (Key × V)) (ns : List Int), vs = [V.ref a] ∧ H a = some (.dK kvs) ∧ kvs.map (·.1) = ns.map Sum.inl ∧ ∀ (ms : List Int) (p : Addr), ms.Perm ns → ms.Pairwise (· ≤ ·) → H p = none → Q (.ref p) (upd H p (.lst (ms.map V.int)))
theorem cr_sortDK {X : Cx} (hcm : X.calm = true) : CallR X (.builtin "sorted") rSortDK := by
  rintro pins s σ H _ us Q I r ⟨a, kvs, ns, rfl, hk, hn, q⟩
  rw [Vals.ref1 r]
  obtain ⟨z, lo, vs, rk, hd⟩ := (show ObjOk X.prog X.w H s.heap a (.dK kvs) from I.hok a _ hk)
  obtain ⟨ep, hat⟩ := hd.dictAt
  have kl : kvs.length = vs.length := rk.length
  have ln : ns.length = kvs.length := by
    have y := congrArg List.length hn
    rw [List.length_map, List.length_map] at y
    exact y.symm
  refine sorted_gotI (P := X.prog) (w := X.w) (ns := ns) (by rw [ln]; exact z) (fun Q1 k1 => ?_) fun h' tk p out c ms kp hp ho i1 pm pw => ?_
  · refine collect_src (PySem.W.kdl_dict (knd := mixKind X.prog X.w) (kvs := vs) (ep := ep) lo) (I.ok.hd hcm) hat (by rw [← kl]; exact z) fun h' tk acc kp up hacc => ?_
    have el : acc.toList.length = acc.size := by simp
    have vv : Vals (ns.map V.int) acc.toList := vals_of_at (by rw [List.length_map, el, hacc.1, ln, kl]) fun j x w h1 h2 => by
      obtain ⟨k2, y2, pk, hi⟩ := hacc.2 j w (by rw [← h2, ← Array.getElem?_toList])
      have e1 : (kvs.map fun kv => kv.1)[j]? = some k2 := (show (kvs.map (·.1))[j]? = some k2 from by
        rw [rk.keys]
        rw [List.getElem?_map]
        rw [pk]
        rfl)
      rw [hn, List.getElem?_map] at e1
      rw [List.getElem?_map] at h1
      cases en : ns[j]? with
      | none =>
        rw [en] at h1
        cases h1
      | some n =>
        rw [en] at h1 e1
        obtain rfl := Option.some.inj h1
        obtain rfl := (Option.some.inj e1)
        exact keyIs_rel (show keyIs (Sum.inl n) w = true from hi)
    exact k1 _ _ _ kp (Nat.le_of_lt up) vv.ints (by rw [el, hacc.1, ln, kl])
  · have hl2 : (ms.map V.int).length ≤ sizeLine := by
      rw [List.length_map, pm.length_eq, ln]
      exact z
    exact ⟨.ref p, upd H p (.lst (ms.map V.int)), I.laid (t' := tk) kp hp ⟨hl2, out, c, vals_of_ints i1, ho⟩, rfl, q ms p pm pw (I.hok.fresh hp)⟩
theorem putK_fresh {acc : List (Key × V)} {k : Key} {v : V} (h : k ∉ acc.map (·.1)) : putK acc k v = acc ++ [(k, v)] := by
  unfold putK
  rw [if_neg]
  intro c
  obtain ⟨kv, h1, h2⟩ := List.any_eq_true.mp c
  exact h (List.mem_map.mpr ⟨kv, h1, of_decide_eq_true h2⟩)
theorem merge_new : ∀ {kvs acc : List (Key × V)}, ((acc ++ kvs).map (·.1)).Nodup → mergeK acc kvs = acc ++ kvs
  | [], acc, _ => (List.append_nil _).symm
  | kv :: kvs, acc, h => by
    have n : kv.1 ∉ acc.map (·.1) := fun m => by
      rw [List.map_append, List.nodup_append] at h
      exact h.2.2 _ m _ (List.mem_map.mpr ⟨kv, List.mem_cons_self, rfl⟩) rfl
    show mergeK (putK acc kv.1 kv.2) kvs = _
    rw [putK_fresh n]
    have e : acc ++ [(kv.1, kv.2)] ++ kvs = acc ++ kv :: kvs := by simp
    rw [merge_new (by rw [e]; exact h), e]
section
variable {K : Fg} {P : Program} {w : World} {B : Bg} {G0 H0 G H G' G1 H1 G2 H2 : Hp} {σ : L2.St} {te ta tb tk tv ty : TE} {tr : TA} {tt : TT} {tg : TG} {d : PyData} {ds es : List PyData} {D : Ends} {t u : TS} {b : Bool} {v y : V} {i j : Nat} {k : Int} {p : Addr} {E : List EK} {mm : List (Int × List PyData)} {nn : List (Int × PyData)}
theorem LoK.from_ (X : Ext K B G H G1 H1) (l : LoK K B G1 H1 G2 H2 p E) : LoK K B G H G2 H2 p E :=
  ⟨X.trans l.x, X.old l.nb l.h0, l.g, l.nb, l.kn, l.ln, l.h, fun e he => by
    obtain ⟨⟨a1, a2, a3, a4⟩, z⟩ := l.ls e he
    exact ⟨⟨a1, X.old a4 a2, a3, a4⟩, z⟩⟩
theorem LoI.from_ (X : Ext K B G H G1 H1) (l : LoI K B G1 H1 G2 H2 p mm) : LoI K B G H G2 H2 p mm := by
  obtain ⟨E, l, e⟩ := l
  exact ⟨E, l.from_ X, e⟩
/-- told by what stands there now -/
theorem LoK.frz2 (l : LoK K B G0 H0 G H p E) : ∃ G2, Ext K B G0 H0 G2 H ∧ Ex G G2 ∧ DpI K G2 (.ref p) ((mmE E).map fun m => (m.1, .list m.2)) ∧ ∀ a, (a = p ∨ a ∈ E.map (·.2.1)) → G2 a = H a := by
  let G2 : Hp := fun a => if a = p ∨ a ∈ E.map (·.2.1) then H a else G a
  have out : ∀ {a : Addr} {o : HO}, G a = some o → ¬ (a = p ∨ a ∈ E.map (·.2.1)) := fun {a o} z c => by
    rcases c with c | c
    · rw [c, l.g] at z
      cases z
    · obtain ⟨e, he, rfl⟩ := List.mem_map.mp c
      rw [(l.ls e he).1.2.2.1] at z
      cases z
  have gg : Ex G G2 := fun a o z => by
    show (if a = p ∨ a ∈ E.map (·.2.1) then H a else G a) = some o
    rw [if_neg (out z)]
    exact z
  have no : ∀ {a : Addr}, (a = p ∨ a ∈ E.map (·.2.1)) → H0 a = none ∧ ¬ isB B a := fun {a} c => by
    rcases c with c | c
    · rw [c]
      exact ⟨l.h0, l.nb⟩
    · obtain ⟨e, he, rfl⟩ := List.mem_map.mp c
      exact ⟨(l.ls e he).1.2.1, (l.ls e he).1.2.2.2⟩
  refine ⟨G2, ⟨l.x.gg.trans gg, l.x.hh, fun a o z g => ?_, fun a o z => ?_, l.x.ok.c.mono gg, l.x.ok.b.keep (fun a z g => ?_) fun _ _ _ z => z⟩, gg, ⟨p, kvE E, rfl, ?_, ?_⟩, fun a c => if_pos c⟩
  · show (if a = p ∨ a ∈ E.map (·.2.1) then H a else G a) = none
    rw [if_neg (fun c => by rw [(no c).1] at z; cases z)]
    exact l.x.fr a o z g
  · have z : (if a = p ∨ a ∈ E.map (·.2.1) then H a else G a) = some o := z
    split at z
    · exact z
    · exact l.x.ok.e a o z
  · show (if a = p ∨ a ∈ E.map (·.2.1) then H a else G a) = none
    rw [if_neg (fun c => (no c).2 z)]
    exact g
  · show (if p = p ∨ p ∈ E.map (·.2.1) then H p else G p) = _
    rw [if_pos (.inl rfl)]
    exact l.h
  · unfold mmE kvE
    rw [List.map_map]
    refine paired_same fun e he => ⟨rfl, ?_⟩
    obtain ⟨_, xs, c2, c3⟩ := l.ls e he
    refine .lst (SqL.of ?_) (dpAll_mono gg c3)
    show (if e.2.1 = p ∨ e.2.1 ∈ E.map (·.2.1) then H e.2.1 else G e.2.1) = _
    rw [if_pos (.inr (List.mem_map.mpr ⟨e, he, rfl⟩))]
    exact c2
def listI (mm : List (Int × List PyData)) : List (Int × PyData) := mm.map fun m => (m.1, .list m.2)
theorem LoI.frz (l : LoI K B G0 H0 G H p mm) : ∃ G2, Ext K B G0 H0 G2 H ∧ Ex G G2 ∧ DpI K G2 (.ref p) (listI mm) := by
  obtain ⟨E, l, rfl⟩ := l
  obtain ⟨G2, X, e, d, _⟩ := l.frz2
  exact ⟨G2, X, e, d⟩
/-- d.clear() -/
theorem LoI.clear (hσ : σ[i]? = some (some (.ref p))) (e : Ok K B G0 H0) (l : LoI K B G0 H0 G H p mm) (k : ∀ H2, Ext K B G0 H0 G0 H2 → D.nx σ H2) : tDrop (tBM0 K "dict" rDClear (tVar i)) D σ H := by
  obtain ⟨E, l, rfl⟩ := l
  exact ⟨.ref p, hσ, .inr (.inr (.inl ⟨rfl, .inl ⟨_, l.h⟩⟩)), p, _, rfl, rfl, l.h, k _ ((l.x.back (Ex.refl G0) e.c).poke l.h0 (e.e.off l.h0) l.nb)⟩
/-! such dicts that a def returns: new, or to be kept -/
def RetI (K : Fg) (B : Bg) (G H : Hp) (Q : VK) (mm : List (Int × List PyData)) : Prop := ∀ p G2 H2, LoI K B G H G2 H2 p mm → Q (.ref p) H2
theorem RetI.mono {Q : VK} (X : Ext K B G H G1 H1) (h : RetI K B G H Q mm) : RetI K B G1 H1 Q mm := fun p G2 H2 l => h p G2 H2 (l.from_ X)
/-- sorted(d) -/
theorem ef_sortI (hσ : σ[i]? = some (some v)) (d : DpI K G v nn) : EvF K B (tCB rSortDK (tCons (tVar i) tNil)) σ G ((srtI (nn.map (·.1))).map PyData.int) := fun H e Q q => by
  obtain ⟨a, kvs, rfl, h1, h2⟩ := d
  refine ⟨.ref a, hσ, a, kvs, nn.map (·.1), rfl, e.e _ _ h1, ?_, fun ms p pm pw hp => ?_⟩
  · clear h1 hσ q
    induction h2 with
    | nil => rfl
    | cons z _ ih => rw [List.map_cons, List.map_cons, List.map_cons, ih, z.1]
  · obtain rfl := srtI_uniq pm pw
    exact q p _ G _ (Ext.loose e hp) hp (e.e.off hp) (e.b.ne hp) upd_same (dpAll_ints _)
end
end Lw

namespace Lw
open PySem.Spec PySem L2 PyProof.Rows
open Evl (Ex Ex.refl Ex.trans Ex.new Ex.off ex_rd ex_l ex_t)
/-! ### how far: steps along neighbours -/
def Wlk (adj : Int → List Int) (s : Int) : Nat → Int → Prop
  | 0, p => p = s
  | n + 1, p => ∃ a, Wlk adj s n a ∧ p ∈ adj a
def Far (adj : Int → List Int) (s p : Int) (n : Nat) : Prop := Wlk adj s n p ∧ ∀ m, Wlk adj s m p → n ≤ m
section
variable {adj : Int → List Int} {s : Int} {ks : List Int} {p a b : Int} {n m k : Nat}
theorem Far.one (h : Far adj s p n) (h2 : Far adj s p m) : n = m := Nat.le_antisymm (h.2 m h2.1) (h2.2 n h.1)
theorem Far.zero : Far adj s s 0 := ⟨rfl, fun _ _ => Nat.zero_le _⟩
theorem Far.next (h : Far adj s a n) (hb : b ∈ adj a) (no : ∀ m, m ≤ n → ¬ Wlk adj s m b) : Far adj s b (n + 1) :=
  ⟨⟨a, h.1, hb⟩, fun m z => by
    by_cases c : m ≤ n
    · exact absurd z (no m c)
    · omega⟩
theorem far_ex (h : Wlk adj s n p) : ∃ m, m ≤ n ∧ Far adj s p m := by
  obtain ⟨m, h1, h2⟩ := least_ex (fun n => Wlk adj s n p) n h
  exact ⟨m, h2 n h, h1, h2⟩
theorem wlk_in (hs : s ∈ ks) (cl : ∀ a ∈ ks, ∀ b ∈ adj a, b ∈ ks) : ∀ {n : Nat} {p : Int}, Wlk adj s n p → p ∈ ks
  | 0, p, h => by
    rw [show p = s from h]
    exact hs
  | n + 1, p, h => by
    obtain ⟨a, h1, h2⟩ := h
    exact cl a (wlk_in hs cl h1) p h2
end
/-- the table of all that can be reached -/
structure IsTab (adj : Int → List Int) (s : Int) (T : List (Int × Int)) : Prop where
  nd : (T.map (·.1)).Nodup
  mem : ∀ p n, (p, n) ∈ T ↔ ∃ m : Nat, n = (m : Int) ∧ Far adj s p m
/-- a queue: W found, those ahead of j done -/
structure Bfs (adj : Int → List Int) (s : Int) (ks W : List Int) (T : List (Int × Int)) (j : Nat) : Prop where
  tw : T.map (·.1) = W
  nd : W.Nodup
  sub : ∀ p ∈ W, p ∈ ks
  st : s ∈ W
  far : ∀ p n, (p, n) ∈ T → ∃ m : Nat, n = (m : Int) ∧ Far adj s p m
  up : ∀ (i i' : Nat) (p p' : Int) (m m' : Nat), i ≤ i' → W[i]? = some p → W[i']? = some p' → Far adj s p m → Far adj s p' m' → m ≤ m'
  cl : ∀ (i : Nat) (a : Int), i < j → W[i]? = some a → ∀ b ∈ adj a, b ∈ W
  bd : ∀ (p h : Int) (m k : Nat), p ∈ W → Far adj s p m → W[j]? = some h → Far adj s h k → m ≤ k + 1
section
variable {adj : Int → List Int} {s : Int} {ks W : List Int} {T : List (Int × Int)} {j : Nat} {h b : Int} {k : Nat}
theorem Bfs.begin (hs : s ∈ ks) : Bfs adj s ks [s] [(s, 0)] 0 := by
  have one : ∀ {p : Int}, p ∈ [s] → p = s := fun h => mem_1 h
  have z0 : ∀ {p : Int} {m : Nat}, p = s → Far adj s p m → m = 0 := fun e f => by
    rw [e] at f
    exact f.one Far.zero
  refine ⟨rfl, List.pairwise_singleton _ _, fun p hp => by rw [one hp]; exact hs, List.mem_cons_self, fun p n hp => ?_, fun i i' p p' m m' _ h1 h2 f1 f2 => ?_, fun i a hi _ => absurd hi (Nat.not_lt_zero _), fun p h m k hp f1 _ _ => ?_⟩
  · have e := mem_1 hp
    injection e with e1 e2
    exact ⟨0, e2, by rw [e1]; exact Far.zero⟩
  · rw [z0 (one (List.mem_of_getElem? h1)) f1]
    exact Nat.zero_le _
  · rw [z0 (one hp) f1]
    exact Nat.zero_le _
theorem Bfs.has (z : Bfs adj s ks W T j) {p : Int} (hp : p ∈ W) : ∃ m : Nat, (p, (m : Int)) ∈ T ∧ Far adj s p m := by
  rw [← z.tw] at hp
  obtain ⟨q, hq, rfl⟩ := (List.mem_map.mp hp)
  obtain ⟨m, e, f⟩ := z.far q.1 q.2 hq
  exact ⟨m, by rw [← e]; exact hq, f⟩
theorem Bfs.new (z : Bfs adj s ks W T j) (hj : W[j]? = some h) (f : Far adj s h k) (hb : b ∈ adj h) (no : b ∉ W) : Far adj s b (k + 1) := by
  have all : ∀ (m : Nat), m ≤ k → ∀ p, Wlk adj s m p → p ∈ W := by
    intro m
    induction m with
    | zero =>
      intro _ p w
      rw [show p = s from w]
      exact z.st
    | succ m ih =>
      rintro hm p ⟨a, w, ha⟩
      have am := ih (by omega) a w
      obtain ⟨i, hi⟩ := List.getElem?_of_mem am
      by_cases c : i < j
      · exact z.cl i a c hi p ha
      · obtain ⟨m', hm', fa⟩ := far_ex w
        have := z.up j i h a k m' (by omega) hj hi f fa
        omega
  exact f.next hb fun m hm w => no (all m hm b w)
theorem getE_app {α : Type} {W : List α} {x y : α} {i : Nat} (h : (W ++ [x])[i]? = some y) : W[i]? = some y ∨ y = x := by
  by_cases c : i < W.length
  · rw [List.getElem?_append_left c] at h
    exact .inl h
  · rw [List.getElem?_append_right (by omega)] at h
    exact .inr (mem_1 (List.mem_of_getElem? h))
theorem Bfs.push (z : Bfs adj s ks W T j) (hj : W[j]? = some h) (f : Far adj s h k) (hb : b ∈ adj h) (bk : b ∈ ks) (no : b ∉ W) : Bfs adj s ks (W ++ [b]) (T ++ [(b, ((k + 1 : Nat) : Int))]) j := by
  have fb := z.new hj f hb no
  have jl : j < W.length := (List.getElem?_eq_some_iff.mp hj).1
  have bd2 : ∀ (p : Int) (m : Nat), p ∈ W ++ [b] → Far adj s p m → m ≤ k + 1 := fun p m hp fp => by
    rcases mem_or hp with hp | hp
    · exact z.bd p h m k hp fp hj f
    · rw [mem_1 hp] at fp
      exact Nat.le_of_eq (fp.one fb)
  refine ⟨by rw [List.map_append, z.tw]; rfl, ?_, fun p hp => ?_, List.mem_append_left _ z.st, fun p n hp => ?_, fun i i' p p' m m' hi h1 h2 f1 f2 => ?_, fun i a hi h1 c hc => ?_, fun p h2 m k2 hp fp hj2 fh => ?_⟩
  · rw [List.nodup_append]
    exact ⟨z.nd, List.pairwise_singleton _ _, fun x hx y hy c => no (by rw [← show y = b from mem_1 hy, ← c]; exact hx)⟩
  · rcases mem_or hp with hp | hp
    · exact z.sub p hp
    · rw [mem_1 hp]
      exact bk
  · rcases mem_or hp with hp | hp
    · exact z.far p n hp
    · have e := mem_1 hp
      injection e with e1 e2
      exact ⟨k + 1, e2, by rw [e1]; exact fb⟩
  · rcases getE_app h2 with h2' | e2
    · have il : i' < W.length := (List.getElem?_eq_some_iff.mp h2').1
      rw [List.getElem?_append_left (by omega)] at h1
      exact z.up i i' p p' m m' hi h1 h2' f1 f2
    · rw [e2] at f2
      rw [f2.one fb]
      exact bd2 p m (List.mem_of_getElem? h1) f1
  · rw [List.getElem?_append_left (by omega)] at h1
    exact List.mem_append_left _ (z.cl i a hi h1 c hc)
  · rw [List.getElem?_append_left jl, hj] at hj2
    obtain rfl := Option.some.inj hj2
    rw [fh.one f]
    exact bd2 p m hp fp
theorem Bfs.next (z : Bfs adj s ks W T j) (hj : W[j]? = some h) (all : ∀ b ∈ adj h, b ∈ W) : Bfs adj s ks W T (j + 1) := by
  refine ⟨z.tw, z.nd, z.sub, z.st, z.far, z.up, fun i a hi h1 b hb => ?_, fun p h2 m k2 hp fp hj2 fh => ?_⟩
  · by_cases c : i < j
    · exact z.cl i a c h1 b hb
    · have e : i = j := by omega
      rw [e, hj] at h1
      obtain rfl := Option.some.inj h1
      exact all b hb
  · obtain ⟨k, _, f⟩ := z.has (List.mem_of_getElem? hj)
    have a := z.bd p h m k hp fp hj f
    have b := z.up j (j + 1) h h2 k k2 (Nat.le_succ _) hj hj2 f fh
    omega
theorem Bfs.done (z : Bfs adj s ks W T j) (e : W.length ≤ j) : IsTab adj s T := by
  have all : ∀ {n : Nat} {p : Int}, Wlk adj s n p → p ∈ W := fun {n p} w => wlk_in (ks := W) z.st (fun a ha b hb => by
    obtain ⟨i, hi⟩ := List.getElem?_of_mem ha
    have il : i < W.length := (List.getElem?_eq_some_iff.mp hi).1
    exact z.cl i a (by omega) hi b hb) w
  refine ⟨by rw [z.tw]; exact z.nd, fun p n => ⟨z.far p n, ?_⟩⟩
  rintro ⟨m, rfl, f⟩
  obtain ⟨m', h1, f'⟩ := z.has (all f.1)
  rw [f.one f']
  exact h1
theorem Bfs.len (z : Bfs adj s ks W T j) : W.length ≤ ks.length := nd_len W ks z.nd z.sub
end
/-- by levels: all that is at most k away, and of the next level those that S tells -/
structure Lv (adj : Int → List Int) (s : Int) (T : List (Int × Int)) (k : Nat) (S : Int → Prop) : Prop where
  nd : (T.map (·.1)).Nodup
  mem : ∀ p n, (p, n) ∈ T ↔ ∃ m : Nat, n = (m : Int) ∧ Far adj s p m ∧ (m ≤ k ∨ (m = k + 1 ∧ S p))
section
variable {adj : Int → List Int} {s : Int} {ks : List Int} {T : List (Int × Int)} {k : Nat} {S S2 : Int → Prop} {a b : Int}
theorem Lv.begin : Lv adj s [(s, 0)] 0 fun _ => False := by
  refine ⟨List.pairwise_singleton _ _, fun p n => ⟨fun h => ?_, ?_⟩⟩
  · have e := mem_1 h
    injection e with e1 e2
    exact ⟨0, e2, by rw [e1]; exact Far.zero, .inl (Nat.le_refl _)⟩
  · rintro ⟨m, rfl, f, h⟩
    rcases h with h | ⟨_, h⟩
    · have e : m = 0 := by omega
      subst e
      rw [show p = s from f.1]
      exact List.mem_cons_self
    · exact h.elim
theorem Lv.as (z : Lv adj s T k S) (e : ∀ p, Far adj s p (k + 1) → (S p ↔ S2 p)) : Lv adj s T k S2 := by
  refine ⟨z.nd, fun p n => (z.mem p n).trans ⟨?_, ?_⟩⟩
  · rintro ⟨m, e1, f, h⟩
    refine ⟨m, e1, f, ?_⟩
    rcases h with h | ⟨h1, h2⟩
    · exact .inl h
    · subst h1
      exact .inr ⟨rfl, (e p f).mp h2⟩
  · rintro ⟨m, e1, f, h⟩
    refine ⟨m, e1, f, ?_⟩
    rcases h with h | ⟨h1, h2⟩
    · exact .inl h
    · subst h1
      exact .inr ⟨rfl, (e p f).mpr h2⟩
theorem Lv.next (z : Lv adj s T k S) (e : ∀ p, Far adj s p (k + 1) → S p) : Lv adj s T (k + 1) fun _ => False := by
  refine ⟨z.nd, fun p n => (z.mem p n).trans ⟨?_, ?_⟩⟩
  · rintro ⟨m, e1, f, h⟩
    exact ⟨m, e1, f, .inl (by omega)⟩
  · rintro ⟨m, e1, f, h⟩
    refine ⟨m, e1, f, ?_⟩
    rcases h with h | ⟨_, h⟩
    · by_cases c : m ≤ k
      · exact .inl c
      · have e2 : m = k + 1 := by omega
        subst e2
        exact .inr ⟨rfl, e p f⟩
    · exact h.elim
theorem Lv.done (z : Lv adj s T k S) (e : ∀ p m, Far adj s p m → m ≤ k) : IsTab adj s T :=
  ⟨z.nd, fun p n => (z.mem p n).trans ⟨fun ⟨m, e1, f, _⟩ => ⟨m, e1, f⟩, fun ⟨m, e1, f⟩ => ⟨m, e1, f, .inl (e p m f)⟩⟩⟩
theorem Lv.at_ (z : Lv adj s T k S) (a : Int) : (a, (k : Int)) ∈ T ↔ Far adj s a k := by
  rw [z.mem]
  constructor
  · rintro ⟨m, e, f, _⟩
    rw [show k = m by omega]
    exact f
  · exact fun f => ⟨k, rfl, f, .inl (Nat.le_refl _)⟩
theorem Lv.old (z : Lv adj s T k S) (h : b ∈ T.map (·.1)) : Lv adj s T k fun p => S p ∨ p = b := z.as fun p f => ⟨.inl, fun h2 => by
  rcases h2 with h2 | rfl
  · exact h2
  · obtain ⟨q, hq, rfl⟩ := List.mem_map.mp h
    obtain ⟨m, _, f2, h3⟩ := (z.mem q.1 q.2).mp hq
    have e := f.one f2
    rcases h3 with h3 | ⟨_, h3⟩
    · omega
    · exact h3⟩
end
/-! ### such tables as dicts -/
section
variable {T : List (Int × Int)} {k n : Int}
end
def intI (T : List (Int × Int)) : List (Int × PyData) := T.map fun q => (q.1, .int q.2)
section
variable {K : Fg} {P : Program} {w : World} {B : Bg} {G0 H0 G H G' G1 H1 G2 H2 : Hp} {σ : L2.St} {te ta tb tk tv ty : TE} {tr : TA} {tt : TT} {g : TG} {d : PyData} {ds es : List PyData} {D : Ends} {t u : TS} {b : Bool} {v y : V} {i j : Nat} {k n : Int} {p f : Addr} {kvs : List (Key × V)} {T : List (Int × Int)} {S : List (Int × Int) → Prop}
/-- a new table is returned -/
def RetT (K : Fg) (B : Bg) (G H : Hp) (Q : VK) (S : List (Int × Int) → Prop) : Prop := ∀ v T G2 H2, S T → Ext K B G H G2 H2 → DpI K G2 v (intI T) → Q v H2
theorem RetT.mono {Q : VK} (X : Ext K B G H G1 H1) (h : RetT K B G H Q S) : RetT K B G1 H1 Q S := fun v T G2 H2 s X2 dv => h v T G2 H2 s (X.trans X2) dv
end
/-! what is never reached -/
end Lw

namespace Lw
open PySem.Spec PySem L2 PyProof.Rows
open Evl (Ex Ex.refl Ex.trans Ex.new Ex.off ex_rd ex_l ex_t)
section
variable {K : Fg} {P : Program} {w : World} {B : Bg} {G0 H0 G H G' G1 H1 G2 H2 : Hp} {σ : L2.St} {te ta tb tk tv ty : TE} {tr : TA} {tt : TT} {g : TG} {d x : PyData} {ds es : List PyData} {D : Ends} {t u : TS} {v y : V} {i j : Nat} {k n : Int} {p f : Addr} {kvs : List (Key × V)} {nn : List (Int × PyData)}
end
end Lw

namespace Lw
open PySem.Spec PySem L2 PyProof.Rows
open Evl (Ex Ex.refl Ex.trans Ex.new Ex.off ex_rd ex_l ex_t)
section
variable {K : Fg} {P : Program} {w : World} {B : Bg} {G0 H0 G H G' G1 H1 G2 H2 : Hp} {σ : L2.St} {te ta tb tk tv ty : TE} {tr : TA} {tt : TT} {g : TG} {d x : PyData} {ds es : List PyData} {D : Ends} {t u : TS} {v y : V} {i j : Nat} {k n : Int} {p f : Addr} {kvs : List (Key × V)} {nn : List (Int × PyData)}
/-- a dict with number keys that is returned and kept -/
def RetD (K : Fg) (B : Bg) (G H : Hp) (Q : VK) (nn : List (Int × PyData)) : Prop := ∀ v G2 H2, Ext K B G H G2 H2 → DpI K G2 v nn → Q v H2
theorem RetD.mono {Q : VK} (X : Ext K B G H G1 H1) (h : RetD K B G H Q nn) : RetD K B G1 H1 Q nn := fun v G2 H2 X2 dv => h v G2 H2 (X.trans X2) dv
end
end Lw

namespace Lw
open PySem.Spec PySem L2 PyProof.Rows
open Evl (Ex Ex.refl Ex.trans Ex.new Ex.off ex_rd ex_l ex_t)
/-! ### a dict with number keys, locked while it is walked -/
def Dat (G G' : Hp) : Prop := ∀ a xs, (Rd G a (.lst xs) → Rd G' a (.lst xs)) ∧ (Rd G a (.tup xs) → Rd G' a (.tup xs))
mutual
theorem dp_dat {K : Fg} {H H' : Hp} (e : Dat H H') : ∀ {v : V} {d : PyData}, Dp K H v d → Dp K H' v d
  | _, _, .non => .non
  | _, _, .bl b => .bl b
  | _, _, .int i => .int i
  | _, _, .str x => .str x
  | _, _, .lst h a => .lst (h.imp_left (e _ _).1) (dpAll_dat e a)
  | _, _, .tup h a => .tup (h.imp_left (e _ _).2) (dpAll_dat e a)
theorem dpAll_dat {K : Fg} {H H' : Hp} (e : Dat H H') : ∀ {vs : List V} {ds : List PyData}, DpAll K H vs ds → DpAll K H' vs ds
  | _, _, .nil => .nil
  | _, _, .cons h a => .cons (dp_dat e h) (dpAll_dat e a)
end
section
variable {K : Fg} {B : Bg} {G G' H G2 H2 G1 : Hp} {a d : Addr} {u u' : HO} {o : Obj} {kvs : List (Key × V)} {v : V} {mm nn : List (Int × PyData)} {σ : L2.St} {te ty : TE} {ds : List PyData} {x : PyData} {i : Nat} {k : Int}
/-- a dict told by its keys, locked or not -/
def DpR (K : Fg) (G : Hp) (v : V) (mm : List (Int × PyData)) : Prop := ∃ (a : Addr) (kvs : List (Key × V)), v = .ref a ∧ Rd G a (.dK kvs) ∧ Paired (fun (kv : Key × V) (m : Int × PyData) => kv.1 = Sum.inl m.1 ∧ Dp K G kv.2 m.2) kvs mm
/-- locked -/
def DpZ (K : Fg) (G : Hp) (v : V) (mm : List (Int × PyData)) : Prop := ∃ (a : Addr) (o : Obj) (kvs : List (Key × V)), v = .ref a ∧ G a = some (.frz o (.dK kvs)) ∧ Paired (fun (kv : Key × V) (m : Int × PyData) => kv.1 = Sum.inl m.1 ∧ Dp K G kv.2 m.2) kvs mm
theorem DpZ.r (h : DpZ K G v mm) : DpR K G v mm := by
  obtain ⟨a, o, kvs, e, h, p⟩ := h
  exact ⟨a, kvs, e, .inr ⟨o, h⟩, p⟩
end
section
variable {K : Fg} {B : Bg} {G G' H : Hp} {σ : L2.St} {te : TE} {tt : TT} {tb : TBd} {ds : List PyData} {v : V} {mm : List (Int × PyData)} {vs : List Nat}
end
end Lw

namespace Lw
open PySem.Spec PySem L2 PyProof.Rows
open Evl (Ex Ex.refl Ex.trans Ex.new Ex.off ex_rd ex_l ex_t)
/-! ### two lists that the law changes later -/
structure LL (K : Fg) (B : Bg) (G0 H0 G H : Hp) (p q : Addr) (ds es : List PyData) : Prop where
  l : Loo K B G0 H0 G H p ds
  m : Loo K B G0 H0 G H q es
  ne : p ≠ q
section
variable {K : Fg} {B : Bg} {G0 H0 G H G2 H2 : Hp} {p q : Addr} {ds es : List PyData} {d : PyData} {σ : L2.St} {ta te : TE} {D : Ends} {u : TS} {i : Nat}
theorem LL.of (a : Loo K B G0 H0 G H p ds) (b : Loo K B G H G2 H2 q es) : LL K B G0 H0 G2 H2 p q ds es :=
  ⟨a.step b.x, ⟨a.x.trans b.x, a.x.old b.nb b.h0, b.g, b.nb, b.h⟩, fun e => by
    obtain ⟨_, z, _⟩ := a.h
    rw [e, b.h0] at z
    cases z⟩
theorem LL.step (a : LL K B G0 H0 G H p q ds es) (X : Ext K B G H G2 H2) : LL K B G0 H0 G2 H2 p q ds es := ⟨a.l.step X, a.m.step X, a.ne⟩
/-- told as they stand; what comes behind -/
theorem LL.see (a : LL K B G0 H0 G H p q ds es) : ∃ G1, Ex G G1 ∧ Ok K B G1 H ∧ Dp K G1 (.ref p) (.list ds) ∧ Dp K G1 (.ref q) (.list es) ∧ ∀ G2 H2, Ext K B G1 H G2 H2 → LL K B G0 H0 G H2 p q ds es := by
  obtain ⟨xs, h1, h2⟩ := a.l.h
  obtain ⟨ys, h3, h4⟩ := a.m.h
  have X1 : Ext K B G0 H0 (upd G p (.lst xs)) H := a.l.x.freeze a.l.h0 a.l.g a.l.nb h1
  have gq : upd G p (.lst xs) q = none := by
    rw [upd_ne (Ne.symm a.ne)]
    exact a.m.g
  have X2 : Ext K B G0 H0 (upd (upd G p (.lst xs)) q (.lst ys)) H := X1.freeze a.m.h0 gq a.m.nb h3
  have e1 : Ex G (upd G p (.lst xs)) := Ex.new a.l.g
  have e2 : Ex (upd G p (.lst xs)) (upd (upd G p (.lst xs)) q (.lst ys)) := Ex.new gq
  refine ⟨_, e1.trans e2, X2.ok, .lst (SqL.of (e2 p _ upd_same)) (dpAll_mono (e1.trans e2) h2), .lst (SqL.of upd_same) (dpAll_mono (e1.trans e2) h4), fun G2 H2 X => ?_⟩
  have eg : Ex G G2 := (e1.trans e2).trans X.gg
  have hh : ∀ c o, ¬ isB B c → H c = some o → H2 c = some o := X.hh
  have Y : Ext K B G0 H0 G H2 := ⟨a.l.x.gg, fun c o n z => hh c o n (a.l.x.hh c o n z), a.l.x.fr, X.ok.less eg a.l.x.ok.c⟩
  exact ⟨⟨Y, a.l.h0, a.l.g, a.l.nb, xs, hh p _ a.l.nb h1, h2⟩, ⟨Y, a.m.h0, a.m.g, a.m.nb, ys, hh q _ a.m.nb h3, h4⟩, a.ne⟩
theorem LL.append (hσ : σ[i]? = some (some (.ref p))) (a : LL K B G0 H0 G H p q ds es) (h : EvD K B ta σ G d) (hl : ds.length < 100000) (k : ∀ G2 H2, LL K B G0 H0 G2 H2 p q (ds ++ [d]) es → Ex G G2 → u D σ H2) :
    tSeq (tDrop (tBM K "list" rAppend (tVar i) (tCons ta tNil))) u D σ H := by
  obtain ⟨_, h1, _⟩ := a.l.h
  show tDrop (tBM K "list" rAppend (tVar i) (tCons ta tNil)) { D with nx := u D } σ H
  refine ⟨.ref p, hσ, .inl ⟨rfl, _, SqL.of h1⟩, h H a.l.x.ok _ fun v G2 H2 X dv => ?_⟩
  have m := a.step X
  obtain ⟨xs, h3, h4⟩ := m.l.h
  obtain ⟨ys, h5, h6⟩ := m.m.h
  have Y : Ext K B G0 H0 G2 (upd H2 p (.lst (xs ++ [v]))) := ⟨m.l.x.gg, fun c o n z => by
    rw [upd_ne (ne_of_none z a.l.h0)]
    exact m.l.x.hh c o n z, m.l.x.fr, m.l.x.ok.mut m.l.g a.l.nb⟩
  refine ⟨p, xs, v, rfl, rfl, h3, by rw [dpAll_len h4]; exact szl hl, k G2 _ ⟨⟨Y, a.l.h0, m.l.g, a.l.nb, xs ++ [v], upd_same, dpAll_app h4 (.cons dv .nil)⟩, ⟨Y, a.m.h0, m.m.g, a.m.nb, ys, ?_, h6⟩, a.ne⟩ X.gg⟩
  rw [upd_ne (Ne.symm a.ne)]
  exact h5
/-! ### a dict of pairs with a number ahead -/
end
end Lw

namespace Lw
open PySem.Spec PySem L2 PyProof.Rows
open Evl (Ex Ex.refl Ex.trans Ex.new Ex.off ex_rd ex_l ex_t)
/-! ### set(t), t a tuple of numbers; how many such a set has -/
section
variable {X : Cx}
end
section
variable {K : Fg} {B : Bg} {G G' H : Hp} {σ : L2.St} {te ta tb : TE} {tt tu : TT} {tr : TA} {ds : List PyData} {d : PyData} {v : V} {vs : List Nat} {w : World} {D : Ends} {t u : TS}
/-! ### [.. for a, b in a list of pairs] -/
/-! ### for over a tuple that is one of several -/
/-! ### tests of which it is all one how they come out -/
def EvBA (K : Fg) (B : Bg) (tt : TT) (σ : L2.St) (G : Hp) : Prop := ∀ H, Ok K B G H → ∀ Q : Bool → Hp → Prop, (∀ b G2 H2, Ext K B G H G2 H2 → Q b H2) → tt σ H Q
theorem EvBA.mono (e : Ex G G') (c : Cel K B G) (h : EvBA K B tt σ G) : EvBA K B tt σ G' := fun H eH Q q =>
  h H (eH.less e c) Q fun b G2 H2 X => by
    obtain ⟨X2, _⟩ := X.wide e eH
    exact q b _ H2 X2
theorem eba_of {b : Bool} (h : EvB K B tt σ G b) : EvBA K B tt σ G := fun H e Q q => h H e Q fun G2 H2 X => q b G2 H2 X
theorem eba_test (h : EvS K B te σ G (fun d => ∃ b, d = .bool b)) : EvBA K B (tTest te) σ G := fun H e Q q =>
  h H e _ fun d v G2 H2 s X dv => by
    obtain ⟨b, rfl⟩ := s
    exact ⟨b, dp_bl dv, q b G2 H2 X⟩
theorem eba_and (h : EvBA K B tt σ G) (h2 : EvBA K B tu σ G) : EvBA K B (tAnd tt tu) σ G := fun H e Q q =>
  h H e _ fun b G2 H2 X => by
    cases b with
    | false =>
      show (if false = true then _ else _)
      rw [ifF]
      exact q false G2 H2 X
    | true =>
      refine (show (if true = true then _ else _) from ?_)
      rw [if_pos rfl]
      exact h2.mono X.gg e.c H2 X.ok Q fun b G3 H3 X3 => q b G3 H3 (X.trans X3)
/-! ### a list as a test -/
end
end Lw

namespace Lw
open PySem.Spec PySem L2 PyProof.Rows
open Evl (Ex Ex.refl Ex.trans Ex.new Ex.off ex_rd ex_l ex_t)
/-! ### {e for x in xs if t}: a new set of numbers -/
/-- what comes to a set by a number more -/
def more (S : Int → Bool) (k : Int) : Int → Bool := fun j => S j || decide (j = k)
section
variable {X : Cx}
end
section
variable {K : Fg} {B : Bg} {G G' H : Hp} {σ : L2.St} {te ta tb : TE} {tt tu : TT} {tr : TA} {ds : List PyData} {d : PyData} {w : World} {D : Ends} {t u : TS} {wi : TI} {as bs : Nat → Option PyData} {n : Nat}
theorem range_oneI (j : Nat) (f : Nat → Option Int) : (List.range (j + 1)).filterMap f = (List.range j).filterMap f ++ (f j).toList := by
  rw [List.range_succ, List.filterMap_append]
  cases h : f j <;> simp [List.filterMap_cons, h]
end
end Lw

namespace Lw
open PySem.Spec PySem L2 PyProof.Rows
open Evl (Ex Ex.refl Ex.trans Ex.new Ex.off ex_rd ex_l ex_t)
/-! ### sorted(d.items()), numbers for keys and values -/
section
variable {s : Shared} {P : Program} {w : World} {A : Around} {E : Value → Shared → Prop}
end
/-- pairs of numbers as a dict's -/
def kvI2 (ps : List (Int × Int)) : List (L2.Key × V) := ps.map fun q => (Sum.inl q.1, V.int q.2)
section
variable {X : Cx}
end
section
variable {K : Fg} {B : Bg} {G G' H : Hp} {σ : L2.St} {te ta tb : TE} {tt tu : TT} {tr : TA} {ds : List PyData} {d : PyData} {w : World} {D : Ends} {t u : TS} {i : Nat}
/-- new tuples are taken in -/
theorem Ext.grow {G1 H1 H2 : Hp} {L : List (Addr × List Int)} (X : Ext K B G H G1 H1) (up : ∀ b o, H1 b = some o → H2 b = some o) (new : ∀ z ∈ L, H1 z.1 = none ∧ H2 z.1 = some (.tup (z.2.map V.int))) :
    ∃ G2, Ext K B G H G2 H2 ∧ Ex G1 G2 ∧ (∀ z ∈ L, G2 z.1 = some (.tup (z.2.map V.int))) ∧ ∀ a, G1 a = none → (∀ z ∈ L, z.1 ≠ a) → G2 a = none := by
  let GT : Hp := fun a => if a ∈ L.map (·.1) then H2 a else none
  have eT : Ex GT H2 := fun a o h => by
    have h' : (if a ∈ L.map (·.1) then H2 a else none) = some o := h
    split at h'
    · exact h'
    · cases h'
  have e1 : Ex G1 H2 := fun a o h => up a o (X.ok.e a o h)
  have none_of : ∀ a, G1 a = none → (∀ z ∈ L, z.1 ≠ a) → join G1 GT a = none := fun a g n => join_none g (by
    show (if a ∈ L.map (·.1) then H2 a else none) = none
    rw [if_neg fun m => by
      obtain ⟨z, hz, ez⟩ := List.mem_map.mp m
      exact n z hz ez])
  refine ⟨join G1 GT, ⟨X.gg.trans join_l, fun a o n h => up a o (X.hh a o n h), fun a o h g => none_of a (X.fr a o h g) fun z hz ez => ?_, ⟨join_of e1 eT, X.ok.c.mono join_l, X.ok.b.keep (fun a hb g => none_of a g fun z hz ez => ?_) fun a o _ h => up a o h⟩⟩, join_l, fun z hz => join_r e1 eT _ _ ?_, none_of⟩
  · rw [← ez] at h
    by_cases ib : isB B z.1
    · obtain ⟨c, q⟩ := ib
      obtain ⟨_, i, r, m, e2, _⟩ := X.ok.b z.1 c q
      rw [(new z hz).1] at e2
      cases e2
    · have y := X.hh _ _ ib h
      rw [(new z hz).1] at y
      cases y
  · obtain ⟨c, q⟩ := hb
    obtain ⟨_, i, r, m, e2, _⟩ := X.ok.b a c q
    rw [← ez, (new z hz).1] at e2
    cases e2
  · show (if z.1 ∈ L.map (·.1) then H2 z.1 else none) = _
    rw [if_pos (List.mem_map.mpr ⟨z, hz, rfl⟩)]
    exact (new z hz).2
/-- for a, b in pairs, what the loop changes told by what stands there now -/
theorem sq_forP0 {wi : TI} {as bs : Nat → Option PyData} {n i j : Nat} {Pv : Hp → Nat → L2.St → Hp → Hp → Prop} (h : EvP K B wi σ G n as bs) (e : Ok K B G H) (h0 : ∀ G2 H2, Ext K B G H G2 H2 → Pv G2 0 σ G2 H2)
    (ho : ∀ Gx k σ' G1 H1, Pv Gx k σ' G1 H1 → Ex Gx G1 ∧ Ok K B G1 H1) (hm : ∀ Gx k σ' G1 H1 G2 H2, Pv Gx k σ' G1 H1 → Ext K B G1 H1 G2 H2 → Pv Gx k σ' G2 H2)
    (hs : ∀ G1 H1, Ext K B G H G1 H1 → ∀ (k : Nat) x y v w σ' G' H', k < n → as k = some x → bs k = some y → Pv G1 k σ' G' H' → Dp K G' v x → Dp K G' w y →
      t (lpE D u fun σ2 H2 => ∃ G2, Pv G1 (k + 1) σ2 G2 H2) ((σ'.set i (some v)).set j (some w)) H')
    (hd : ∀ G1 H1, Ext K B G H G1 H1 → ∀ σ' G' H', Pv G1 n σ' G' H' → u D σ' H') : tSeq (tFor wi (gTup K 2 (gCons (gName i) (gCons (gName j) gNil))) t) u D σ H :=
  h H e _ fun J xs ys G1 H1 X wk dx dy => by
    refine for_it wk (fun k σ' H' => ∃ G', Pv G1 k σ' G' H') ⟨G1, h0 G1 H1 X⟩ ?_ ?_ ?_
    · rintro k σ' H' _ ⟨G', p⟩
      obtain ⟨p1, p2⟩ := ho _ _ _ _ _ p
      exact p1.trans p2.e
    · rintro k v σ' H' H2 hk ⟨G', p⟩ ⟨T, x, y, rfl, hT, rfl, ex, ey⟩
      obtain ⟨p1, p2⟩ := ho _ _ _ _ _ p
      obtain ⟨a, ha, ad⟩ := dx k x hk ex
      obtain ⟨b, hb, bd⟩ := dy k y hk ey
      have XT := Ext.new (o := .tup [x, y]) p2 hT
      have eg := p1.trans XT.gg
      exact ⟨T, [x, y], rfl, SqT.of upd_same, rfl, x, [y], rfl, y, [], rfl, rfl, hs G1 H1 X k a b x y σ' _ _ hk ha hb (hm _ _ _ _ _ _ _ p XT) (dp_mono eg ad) (dp_mono eg bd)⟩
    · rintro σ' H' ⟨G', p⟩
      exact hd G1 H1 X σ' G' H' p
/-! ### [.. for l in a tuple of tuples of numbers if ..] -/
/-! ### counting into a dict -/
structure CntI (ps : List (Int × Int)) (cs : List Int) : Prop where
  nd : (ps.map (·.1)).Nodup
  mem : ∀ c, c ∈ ps.map (·.1) ↔ c ∈ cs
  cnt : ∀ q ∈ ps, q.2 = (cs.count q.1 : Int)
theorem CntI.nil : CntI [] [] := ⟨List.nodup_nil, fun c => Iff.rfl, fun q h => by cases h⟩
def lostOf (cs : List Int) : List (List Int) := (sset cs).map fun c => [c, (cs.count c : Int)]
theorem kvI2_val (ps : List (Int × Int)) (c : Int) : valV (kvI2 ps) (Sum.inl c) = (ps.find? fun q => decide (q.1 = c)).map fun q => V.int q.2 := by
  unfold valV kvI2
  rw [List.find?_map, Option.map_map]
  refine congrArg (fun z => Option.map _ z) (congrArg (fun f => List.find? f ps) (funext fun q => ?_))
  show decide (Sum.inl q.1 = Sum.inl c) = decide (q.1 = c)
  exact decide_eq_decide.mpr ⟨fun z => Sum.inl.inj z, fun z => by rw [z]⟩
theorem CntI.find {ps : List (Int × Int)} {cs : List Int} (h : CntI ps cs) (c : Int) : (ps.find? fun q => decide (q.1 = c)).map (·.2) = if c ∈ cs then some (cs.count c : Int) else none := by
  cases e : ps.find? fun q => decide (q.1 = c) with
  | none =>
    rw [if_neg fun m => ?_]
    · rfl
    · obtain ⟨q, hq, ec⟩ := List.mem_map.mp ((h.mem c).mpr m)
      exact List.find?_eq_none.mp e q hq (decide_eq_true ec)
  | some q =>
    have hq := List.mem_of_find?_eq_some e
    have ec : q.1 = c := of_decide_eq_true (List.find?_some (p := fun q : Int × Int => decide (q.1 = c)) e)
    rw [if_pos ((h.mem c).mp (List.mem_map.mpr ⟨q, hq, ec⟩))]
    show some q.2 = _
    rw [h.cnt q hq, ec]
theorem CntI.get {ps : List (Int × Int)} {cs : List Int} (h : CntI ps cs) (c : Int) : (valV (kvI2 ps) (Sum.inl c)).getD (.int 0) = .int (cs.count c : Int) := by
  have z := h.find c
  rw [kvI2_val]
  cases e : ps.find? fun q => decide (q.1 = c) with
  | none =>
    rw [e] at z
    by_cases m : c ∈ cs
    · rw [if_pos m] at z
      cases z
    · rw [List.count_eq_zero_of_not_mem m]
      rfl
  | some q =>
    rw [e] at z
    by_cases m : c ∈ cs
    · rw [if_pos m] at z
      have z : q.2 = _ := Option.some.inj z
      show V.int q.2 = _
      rw [z]
    · rw [if_neg m] at z
      cases z
theorem CntI.put {ps : List (Int × Int)} {cs : List Int} (h : CntI ps cs) (c : Int) : ∃ qs, putK (kvI2 ps) (Sum.inl c) (.int (cs.count c + 1 : Int)) = kvI2 qs ∧ CntI qs (cs ++ [c]) ∧ qs.length ≤ ps.length + 1 := by
  by_cases m : c ∈ ps.map (·.1)
  · refine ⟨ps.map fun q => if q.1 = c then (c, (cs.count c + 1 : Int)) else q, ?_, ⟨?_, fun z => ?_, fun q hq => ?_⟩, by rw [List.length_map]; omega⟩
    · unfold putK
      rw [if_pos ?_]
      · unfold kvI2
        simp only [List.map_map]
        refine List.map_congr_left fun q _ => ?_
        show (if (Sum.inl q.1 : L2.Key) = Sum.inl c then ((Sum.inl q.1 : L2.Key), V.int (cs.count c + 1 : Int)) else (Sum.inl q.1, V.int q.2)) = (Sum.inl (if q.1 = c then (c, (cs.count c + 1 : Int)) else q).1, V.int (if q.1 = c then (c, (cs.count c + 1 : Int)) else q).2)
        by_cases e : q.1 = c
        · rw [if_pos (by rw [e]), if_pos e, e]
        · rw [if_neg (fun z => e (Sum.inl.inj z)), if_neg e]
      · obtain ⟨q, hq, ec⟩ := List.mem_map.mp m
        exact List.any_eq_true.mpr ⟨_, List.mem_map.mpr ⟨q, hq, rfl⟩, decide_eq_true (by rw [ec])⟩
    · rw [List.map_map, List.map_congr_left (g := (·.1)) fun q _ => ?_]
      · exact h.nd
      · show (if q.1 = c then (c, _) else q).1 = q.1
        split
        · rename_i e
          exact e.symm
        · rfl
    · rw [List.map_map, List.map_congr_left (g := (·.1)) fun q _ => ?_, h.mem, List.mem_append, List.mem_singleton]
      · exact ⟨.inl, fun y => y.elim id fun e => by rw [e]; exact (h.mem c).mp m⟩
      · show (if q.1 = c then (c, _) else q).1 = q.1
        split
        · rename_i e
          exact e.symm
        · rfl
    · obtain ⟨q0, hq0, rfl⟩ := List.mem_map.mp hq
      by_cases e : q0.1 = c
      · rw [if_pos e, List.count_append, List.count_singleton_self]
        show (cs.count c + 1 : Int) = ((cs.count c + 1 : Nat) : Int)
        omega
      · rw [if_neg e, List.count_append, List.count_eq_zero_of_not_mem (a := q0.1) (l := [c]) (fun z => e (mem_1 z)), h.cnt q0 hq0]
        rfl
  · have mc : c ∉ cs := fun z => m ((h.mem c).mpr z)
    refine ⟨ps ++ [(c, (cs.count c + 1 : Int))], ?_, ⟨?_, fun z => ?_, fun q hq => ?_⟩, by rw [List.length_append]; exact Nat.le_refl _⟩
    · unfold putK
      rw [if_neg ?_]
      · unfold kvI2
        rw [List.map_append]
        rfl
      · intro y
        obtain ⟨p, hp, e⟩ := List.any_eq_true.mp y
        obtain ⟨q, mq, rfl⟩ := List.mem_map.mp hp
        exact m (List.mem_map.mpr ⟨q, mq, Sum.inl.inj (of_decide_eq_true e)⟩)
    · rw [List.map_append]
      exact List.nodup_append.mpr ⟨h.nd, List.pairwise_singleton _ _, fun a ha b hb e => m (by
        have hb : b = c := mem_1 hb
        rw [← hb, ← e]
        exact ha)⟩
    · rw [List.map_append, List.mem_append, List.mem_append, h.mem]
      exact Iff.rfl
    · rcases mem_or hq with hq | hq
      · have ne : q.1 ≠ c := fun z => m (by rw [← z]; exact List.mem_map.mpr ⟨q, hq, rfl⟩)
        rw [List.count_append, List.count_eq_zero_of_not_mem (a := q.1) (l := [c]) (fun z => ne (mem_1 z)), h.cnt q hq]
        rfl
      · rw [mem_1 hq, List.count_append, List.count_singleton_self]
        show (cs.count c + 1 : Int) = ((cs.count c + 1 : Nat) : Int)
        omega
end
end Lw

namespace Lw
open PySem.Spec PySem L2 PyProof.Rows
open Evl (Ex Ex.refl Ex.trans Ex.new Ex.off ex_rd ex_l ex_t)
/-! ### None asked of a dict whose keys are tuples -/
section
variable {s : Shared} {P : Program} {w : World} {A : Around}
variable {E : Value → Shared → Prop}
end
section
variable {X : Cx}
end
section
variable {K : Fg} {P : Program} {w : World} {B : Bg} {G G' G0 H0 G2 H2 H : Hp} {σ : L2.St} {te ta tb : TE} {tr : TA} {ds es : List PyData} {d : PyData} {D : Ends} {u : TS} {i j : Nat} {v : V} {p q : Addr}
end
end Lw

namespace Lw
open PySem.Spec PySem L2 PyProof.Rows
open Evl (Ex Ex.refl Ex.trans Ex.new Ex.off ex_rd ex_l ex_t)
/-! ### [.. for i in range(n) if ..] while an error is handled -/
/-- where the walk over the numbers below n stands -/
abbrev AtR (h : Heap) (it : Addr) (n i : Nat) : Prop := IsRangeIter h it (0 + (i : Int) * 1) ((n : Int) - (i : Int)) 1
theorem atR_next {h : Heap} {it : Addr} {n i : Nat} (z : IsRangeIter h it (0 + (i : Int) * 1 + 1) ((n : Int) - (i : Int) - 1) 1) : AtR h it n (i + 1) := by
  have e1 : 0 + (i : Int) * 1 + 1 = 0 + ((i + 1 : Nat) : Int) * 1 := by omega
  have e2 : (n : Int) - (i : Int) - 1 = (n : Int) - ((i + 1 : Nat) : Int) := by omega
  rw [e1, e2] at z
  exact z
section
variable {X : Cx}
theorem lr_walk {elt tg iter : Expr} {ifs : List Expr} {scope : Scope} {pos : Pos} {g : TG} {tt : TT} {te : TE} {it D x1 : Addr} {ce : Env} {own : List Nat} {W : Nat → Nat → Hp → Prop} {n : Nat}
    {sB : Shared} {HB : Hp} {σ : L2.St} {R : Result → Shared → Prop} {Fin' : Hp → Prop}
    (hot : ∀ s' H', Inv (X.blk sB HB scope ce [it]) [] (wipe σ own) H' s' → HotX.HotAt X.A x1 s'.heap)
    (pg : PG (X.blk sB HB scope ce [it]) tg g) (pt : PTs (X.blk sB HB scope ce [it]) ifs tt) (pe : PE (X.blk sB HB scope ce [it]) elt te)
    (turn : ∀ i m H, W i m H → (n ≤ i ∧ Fin' H) ∨ (i < n ∧ ∃ Nx : Hp → Prop, (∀ H', Nx H' → ∃ m', m' < m ∧ W (i + 1) m' H') ∧ g (.int ((0 : Int) + (i : Int))) (wipe σ own) H fun σ2 H2 =>
      wipe σ2 own = wipe σ own ∧ tt σ2 H2 fun b H3 => if b = true then te σ2 H3 fun y H4 => ∃ acc, H4 D = some (.lst acc) ∧ acc.length < sizeLine ∧ Nx (upd H4 D (.lst (acc ++ [y]))) else Nx H3))
    (out : ∀ sE HE, Inv (X.blk sB HB scope ce [it]) [] (wipe σ own) HE sE → Fin' HE → R (.ok .next) sE)
    {m0 : Nat} {s : Shared} (i0 : ∃ i H', Inv (X.blk sB HB scope ce [it]) [] (wipe σ own) H' s ∧ AtR s.heap it n i ∧ H' it = none ∧ W i m0 H') :
    codeAny (model X.prog X.w) X.A (.compLoop (.ListComp elt [⟨tg, iter, ifs, 0⟩] scope pos) 0 (.ref it) (.ref D) ce) R s := by
  have mine : ∀ {σ' : L2.St} {H' : Hp} {s' : Shared}, Inv (X.blk sB HB scope ce [it]) [] σ' H' s' → H' it = none → FpOk (X.blk sB HB scope ce [it]) [] H' it := fun I' free => by
    have mem : it ∈ [it] := List.mem_singleton.mpr rfl
    obtain ⟨x1, x2⟩ := I'.ok.exf it mem
    exact ⟨free, x1, I'.ok.exfs it mem, .inl mem, x2, fun p hp => by cases (show p ∈ ([] : List (Addr × Obj)) ++ [] from hp)⟩
  refine compLoop_any (fun m t => ∃ i H', Inv (X.blk sB HB scope ce [it]) [] (wipe σ own) H' t ∧ AtR t.heap it n i ∧ H' it = none ∧ W i m H') (fun m t inv => ?_) m0 i0
  obtain ⟨i, Ht, It, at_, free, wt⟩ := inv
  obtain ⟨f0, f1, f2, f3, f4, f5⟩ := mine It free
  rcases turn i m Ht wt with ⟨stop, fin⟩ | ⟨go, Nx, less, step⟩
  · refine HotX.pyNext_range_end_hot (hot t Ht It) at_ (by omega) fun h' eb => out _ Ht (It.turned (t' := t.toks) (fun b o _ z => eb b o z) f0 f1 f3 f4 f5) fin
  · refine wpAny_pyNext_range_item at_ (by omega) fun h' st sb => ?_
    have I1 : Inv (X.blk sB HB scope ce [it]) [] (wipe σ own) Ht { t with heap := h', toks := t.toks + 1 } := It.turned (fun b o hb z => (sb.2 b hb).trans z) f0 f1 f3 f4 f5
    have st1 : AtR h' it n (i + 1) := atR_next st
    refine thnF (go_of (s := { t with heap := h', toks := t.toks + 1 }) (n := "range_iterator") st1 rfl rfl (by decide) (Q := fun _ s2 => s2 = { t with heap := h', toks := t.toks + 1 }) rfl) fun _ t3 e3 => ?_
    subst e3
    have P3 := I1.pinned (fp := [it]) (fun b hb => by rw [List.mem_singleton.mp hb]; exact mine I1 free) (fun b hb => by rw [List.mem_singleton.mp hb]; exact ⟨_, st1, fun v z => by cases (show Data.fields _ = Data.cell v from z)⟩)
    have again : ∀ {σ' : L2.St} {t' : Shared} {H' : Hp}, wipe σ' own = wipe σ own → Inv (X.blk sB HB scope ce [it]) ([] ++ pinsAt [it] h') σ' H' t' → Nx H' →
        ∃ k, k < m ∧ ∃ i H', Inv (X.blk sB HB scope ce [it]) [] (wipe σ own) H' t' ∧ AtR t'.heap it n i ∧ H' it = none ∧ W i k H' := fun {σ' t' H'} ew I' nx => by
      obtain ⟨k, lt, wk⟩ := less H' nx
      have held := I'.pin (it, _) (List.mem_append_right _ (List.mem_append_right _ (mem_pinsAt (List.mem_singleton.mpr rfl) st1)))
      have J' := (I'.unpinned (pins := [])).weak (σ' := wipe σ own) (by rw [← ew, wipe_length]) fun j v e => by
        rw [← ew] at e
        exact (wipe_some e).1
      exact ⟨k, lt, i + 1, H', J', held.1, held.2.1, wk⟩
    refine thnF (pg.run _ _ _ Ht (.int ((0 : Int) + (i : Int))) _ _ P3 ⟨_, by rw [Int.mul_one]⟩ step) fun _ t4 z => ?_
    obtain ⟨σ4, H4, I4, ew, z⟩ := z
    refine thnF (pt.run _ t4 σ4 H4 _ I4 z) fun yes t5 z => ?_
    obtain ⟨H5, I5, z⟩ := z
    cases yes with
    | false => exact again ew I5 z
    | true =>
      refine thnF (pe.run _ t5 σ4 H5 _ I5 z) fun kv t6 z => ?_
      obtain ⟨yk, H6, I6, rk, acc, hD, few, nx⟩ := z
      exact app_ok (X := X.blk sB HB scope ce [it]) I6 hD few rk fun t7 I7 => again ew I7 nx
theorem small_range {n : Nat} (h : n ≤ 100000) : Builtin.Range.small 0 (n : Int) 1 = true := small_one (by decide) (by decide) (by omega) (by omega)
/-- a walk over the numbers below n begins -/
theorem rng_run {a : Expr} {ta : TA} {p pos : Pos} {pins : List (Addr × Obj)} {s : Shared} {σ : L2.St} {H : Hp} {Z : Nat → Hp → Prop} {R : Addr → Shared → Prop} (hg : Gl X "range") (hm : X.mg "range" = none) (ha : PA X [a] ta) (hs : starEach [a] X.env = [(false, eval a X.env)]) (I : Inv X pins σ H s)
    (h : ta σ H fun us H1 => ∃ n : Nat, us = [.int (n : Int)] ∧ n ≤ 100000 ∧ Z n H1) (k : ∀ it s2 n H1, Inv X pins σ H1 s2 → AtR s2.heap it n 0 → FpOk X pins H1 it → Z n H1 → R it s2) :
    wpAny (model X.prog X.w) X.A (eval (.Call (.Name "range" p) [a] [] pos) X.env) (fun v s1 => wpAny (model X.prog X.w) X.A (pyIter v) (fun r s2 => ∃ it, r = .ref it ∧ R it s2) X.xe s1) X.xe s := by
  have arg := ha.run pos pins s σ H _ I h
  refine Call_ (ld_blt I hg hm boot_range (PyProof.Rows.callWith_type1 (thn arg fun us s1 z => ?_) hs rfl))
  obtain ⟨vs, H1, I1, r1, n, rfl, few, z⟩ := z
  obtain ⟨u, rfl, t, rfl⟩ : ∃ u, us = [u] ∧ ∃ t, u = Value.int (n : Int) t := by
    cases r1 with
    | cons r rr =>
      cases rr
      obtain ⟨t, e⟩ := r
      exact ⟨_, rfl, t, e⟩
  refine call_range_1 (wpAny_pyIter_range (IsRange.new ..) (small_range few) ?_)
  have up : ∀ {h : Heap} {o : Obj} (b : Addr) (q : Obj), h.get? b = some q → (h.push o).get? b = some q := fun b q e => Heap.get?_push_of_some _ e
  refine ⟨_, rfl, k _ _ n H1 ((I1.kept (t' := _) up).kept up) ?_ ((I1.kept (t' := _) up).fpOk (Nat.le_refl _) ((I1.kept (t' := s1.toks) up).hok.fresh (Nat.le_refl _))) z⟩
  have e1 : (0 : Int) + ((0 : Nat) : Int) * 1 = 0 := by decide
  have e2 : (n : Int) - ((0 : Nat) : Int) = Builtin.Range.rangeSize 0 (n : Int) 1 := by
    rw [rangeSize_one]
    split <;> omega
  show IsRangeIter _ _ ((0 : Int) + ((0 : Nat) : Int) * 1) ((n : Int) - ((0 : Nat) : Int)) 1
  simpa only [e1, e2] using Heap.get?_push_size _ rfl
def tLcR (ta : TA) (g : TG) (tt : TT) (te : TE) (own : List Nat) : TE := fun σ H Q => ta σ H fun us H1 => ∃ n : Nat, us = [.int (n : Int)] ∧ n ≤ 100000 ∧ ∀ D, H1 D = none → ∃ W : Nat → Nat → Hp → Prop, (∃ m, W 0 m (upd H1 D (.lst []))) ∧
  ∀ i m H, W i m H → (n ≤ i ∧ Q (.ref D) H) ∨ (i < n ∧ ∃ Nx : Hp → Prop, (∀ H', Nx H' → ∃ m', m' < m ∧ W (i + 1) m' H') ∧ g (.int ((0 : Int) + (i : Int))) (wipe σ own) H fun σ2 H2 =>
      wipe σ2 own = wipe σ own ∧ tt σ2 H2 fun b H3 => if b = true then te σ2 H3 fun y H4 => ∃ acc, H4 D = some (.lst acc) ∧ acc.length < sizeLine ∧ Nx (upd H4 D (.lst (acc ++ [y]))) else Nx H3)
theorem pe_lcR {elt tg a : Expr} {ifs : List Expr} {scope : Scope} {own : List (Str × Nat)} {pos p rp : Pos} {ta : TA} {g : TG} {tt : TT} {te : TE} (hc : L2H.HotC X) (hN : X.N.Nodup) (hgl : Gl X "range") (hm : X.mg "range" = none) (ha : PA X [a] ta) (ok : BlkOk X.N X.env.scope scope own)
    (hg : InBlk X scope fun Y => PG Y tg g) (ht : InBlk X scope fun Y => PTs Y ifs tt) (he : InBlk X scope fun Y => PE Y elt te) (hst : starEach [a] X.env = [(false, eval a X.env)] := by rfl)
    (hs : ∀ x, foldedSetIterable (.Call (.Name "range" p) [a] [] rp) X.env x = pure x := by intro _; rfl) : PE X (.ListComp elt [⟨tg, .Call (.Name "range" p) [a] [] rp, ifs, 0⟩] scope pos) (tLcR ta g tt te (own.map (·.2))) := by
  constructor
  intro pins s σ H Q I h
  rw [eval_ListComp]
  have fr : ∀ y ∈ scope.names, y.2 = .free → ∃ c, X.env.cells.lookup y.1 = some c := fun y hy e => (ok.free y hy e).elim (fun k => I.ok.has _ (.inl k)) fun k => I.ok.has _ (.inr k)
  refine wpAny_comprehension_free (use := none) rfl hs (closure_ok fr) ok.kind (fun y hy e => by rw [ok.uniq y hy, e]) (thn (rng_run (Z := fun n H1 => ∀ D, H1 D = none → ∃ W : Nat → Nat → Hp → Prop, (∃ m, W 0 m (upd H1 D (.lst []))) ∧ ∀ i m H, W i m H → _ ∨ _) (R := fun it s2 => ∃ n H1, Inv X pins σ H1 s2 ∧ AtR s2.heap it n 0 ∧ FpOk X pins H1 it ∧ _) hgl hm ha hst I h fun it s2 n H1 I1 at1 f1 z => ⟨n, H1, I1, at1, f1, z⟩) fun xv s1 hx => thn hx ?_)
  rintro itv s2 ⟨it, rfl, n, H2, I2, at2, f2, q⟩
  have Dn : H2 s2.heap.objs.size = none := I2.hok.fresh (Nat.le_refl _)
  obtain ⟨W, ⟨m0, w0⟩, turn⟩ := q s2.heap.objs.size Dn
  have lt : it < s2.heap.objs.size := Heap.lt_size at2
  have grow : ∀ b o, s2.heap.get? b = some o → (s2.heap.push (seqObj "list" #[] 0)).get? b = some o := fun b o => Heap.get?_push_of_some _
  have I3 : Inv X pins σ (upd H2 s2.heap.objs.size (.lst [])) { s2 with heap := s2.heap.push (seqObj "list" #[] 0) } := I2.laid (t' := s2.toks) (o := .lst []) grow (Nat.le_refl _) ⟨Nat.zero_le _, [], 0, .nil, Heap.get?_push_size _ rfl⟩
  have f3 : ∀ b ∈ [it], FpOk X pins (upd H2 s2.heap.objs.size (.lst [])) b ∧ b < (s2.heap.push (seqObj "list" #[] 0)).objs.size := fun b hb => by
    rw [List.mem_singleton.mp hb]
    obtain ⟨z1, z2⟩ := f2
    refine ⟨⟨?_, z2⟩, by rw [Heap.size_push]; exact Nat.lt_succ_of_lt lt⟩
    rw [upd_ne (Nat.ne_of_lt lt)]
    exact z1
  have I4 := block_start (X := X) (pins := pins) I3 ok hN f3
  have z1 := hg { s2 with heap := s2.heap.push (seqObj "list" #[] 0) } (upd H2 s2.heap.objs.size (.lst [])) (s2.heap.push (seqObj "list" #[] 0)).objs.size (cellsFrom ((s2.heap.push (seqObj "list" #[] 0)).objs.size + 1) scope.names (cloFrom X.env.cells scope.names [])) [it]
  have z2 := ht { s2 with heap := s2.heap.push (seqObj "list" #[] 0) } (upd H2 s2.heap.objs.size (.lst [])) (s2.heap.push (seqObj "list" #[] 0)).objs.size (cellsFrom ((s2.heap.push (seqObj "list" #[] 0)).objs.size + 1) scope.names (cloFrom X.env.cells scope.names [])) [it]
  have z3 := he { s2 with heap := s2.heap.push (seqObj "list" #[] 0) } (upd H2 s2.heap.objs.size (.lst [])) (s2.heap.push (seqObj "list" #[] 0)).objs.size (cellsFrom ((s2.heap.push (seqObj "list" #[] 0)).objs.size + 1) scope.names (cloFrom X.env.cells scope.names [])) [it]
  refine wpAny_newObj_type (newEnv_comp (show codeAny _ _ (.compStart _ 0 (.ref it) (.ref s2.heap.objs.size) (compEnvC scope (cellsFrom ((s2.heap.push (seqObj "list" #[] 0)).objs.size + 1) scope.names (cloFrom X.env.cells scope.names [])) (s2.heap.push (seqObj "list" #[] 0)).objs.size X.env)) _ _ from ?_)) (Nat.zero_le _)
  have at4 : AtR (pushCells ((s2.heap.push (seqObj "list" #[] 0)).push newD) scope.names) it n 0 := pushCells_keeps scope.names _ it _ (Heap.get?_push_of_some _ (grow it _ at2))
  -- back in the def
  have home : ∀ sE HE, Inv (X.blk { s2 with heap := s2.heap.push (seqObj "list" #[] 0) } (upd H2 s2.heap.objs.size (.lst [])) scope (compEnvC scope (cellsFrom ((s2.heap.push (seqObj "list" #[] 0)).objs.size + 1) scope.names (cloFrom X.env.cells scope.names [])) (s2.heap.push (seqObj "list" #[] 0)).objs.size X.env) [it]) [] (wipe σ (own.map (·.2))) HE sE → Inv X pins σ HE sE := fun sE HE IE => I3.call' (ch := [it]) IE.os IE.base IE.hok IE.bare fun b hb => by
    obtain ⟨_, a2, _, a4, a5, a6⟩ := (f3 b hb).1
    exact ⟨a4, a2, a5, a6⟩
  obtain ⟨x1, hx1⟩ : ∃ x1, ∀ sE HE, Inv X pins σ HE sE → HotX.HotAt X.A x1 sE.heap := by
    obtain ⟨pp, ⟨hh, v1, e1, c1⟩, hp⟩ := hc
    exact ⟨pp.1, fun sE HE IE => ⟨hh, pp.2, v1, (IE.pin pp (List.mem_append_left _ hp)).1, e1, c1⟩⟩
  have walk := lr_walk (pos := pos) (iter := .Call (.Name "range" p) [a] [] rp) (D := s2.heap.objs.size) (W := W) (R := compPost (model X.prog X.w) X.A X.xe none (fun v s' => EP X pins σ Q v s') (.ref s2.heap.objs.size) (s2.heap.push (seqObj "list" #[] 0)).objs.size) (fun s' H' I' => hx1 s' H' (home s' H' I')) z1 z2 z3 turn (fun sE HE IE fin => ?_) ⟨0, _, I4, at4, (f3 it (List.mem_singleton.mpr rfl)).1.1, w0⟩
  · exact codeAny_compStart_list walk (wpAny_pyIter_rangeiter at4 walk)
  have IX := home sE HE IE
  obtain ⟨m, hn, _⟩ := IE.loc
  obtain ⟨c0, c1, _, c3, c4, c5⟩ := I3.fpOk (b := (s2.heap.push (seqObj "list" #[] 0)).objs.size) (Nat.le_refl _) (show HE _ = none from IE.free)
  exact ⟨m, hn, fun h'' sb => ⟨.ref _, HE, IX.turned (t' := sE.toks) (fun b o hb e => (sb.2 b hb).trans e) c0 c1 c3 c4 c5, rfl, fin⟩⟩
end
end Lw

namespace Lw
open PySem.Spec PySem L2 PyProof.Rows
open Evl (Ex Ex.refl Ex.trans Ex.new Ex.off ex_rd ex_l ex_t)
/-! ### defs called while an error of a known class is handled -/
/-- the error that is handled stands at p.1 as p.2, of the kind Ph -/
def HotE (X : Cx) (Ph : Addr → Obj → Prop) : Prop := ∃ p : Addr × Obj, L2H.Hot1 X.A p ∧ Ph p.1 p.2 ∧ p ∈ X.pn
structure FnE (P : Program) (w : World) (K : Fg) (mg : Str → Option Value) (base : Heap) (CX : CXT) (k : Nat) (f : Addr) (fd : FuncData) (ps : List Str) (Ph : Addr → Obj → Prop) (sp : Sp) : Prop where
  ln : ∀ vs H Q E, sp vs H Q E → vs.length = ps.length
  go : ∀ (A : Around) (outer : List Env) (s : Shared) (H : Hp) (us : List Value) (vs : List V) (Q : VK) (E : XK) (p : Addr × Obj), L2H.RoomH k A → L2H.Hot1 A p → Ph p.1 p.2 → L2H.PinOk outer H s p → Env0 P w K mg base A outer s H → BindsTo s fd ⟨us, []⟩ (ps.zip us) → Vals vs us → sp vs H Q E → codeAny (model P w) A (.call (.ref f) ⟨us, []⟩) (CR CX outer P w H s Q E) s
structure GoodE (P : Program) (w : World) (K : Fg) (mg : Str → Option Value) (base : Heap) (CX : CXT) (k : Nat) (x : Str) (ps : List Str) (Ph : Addr → Obj → Prop) (sp : Sp) : Prop where
  ex : ∃ fd, FnE P w K mg base CX k (He.ga K x) fd ps Ph sp ∧ Binds K fd ps []
  g : mg x = some (.ref (He.ga K x))
  kp : PySem.W.keepIn K (.ref (He.ga K x)) = true
theorem fnE_of {P : Program} {w : World} {K : Fg} {mg : Str → Option Value} {base : Heap} {CX : CXT} {k : Nat} {f : Addr} {fd : FuncData} {N ps : List Str} {x qual : Str} {params : Arguments} {body : List Stmt} {scope : Scope} {dvs : List V} {kws : List (Str × V)} {Ph : Addr → Obj → Prop} {sp : Sp}
    (F : FunD K x qual params body scope dvs kws f fd) (S : FnScope N ps scope) (ln : ∀ vs H Q E, sp vs H Q E → vs.length = ps.length)
    (bd : ∀ (cdv : Value) (A : Around) (outer : List Env) (s : Shared) (H : Hp) (vs : List V) (Q : VK) (E : XK) (p : Addr × Obj), L2H.Hot1 A p → Ph p.1 p.2 → L2H.RoomH k (A.deeper (envOfC qual scope s.heap.objs.size f cdv)) → sp vs H Q E →
      ∃ t, PSs (L2H.cxH CX P w K mg base N qual scope f cdv A outer s H E p) body t ∧ t { nx := fun _ H' => Q .non H', rt := Q } (L2.start N vs) H) : FnE P w K mg base CX (k + 1) f fd ps Ph sp := by
  obtain ⟨c0, d0, dV, kV, doc, pm, an, cdv, ct, slo, rfl, lk, hcd, _, _⟩ := F.ex
  refine ⟨ln, fun A outer s H us vs Q E p room hot hp pin e0 hb r hsp => ?_⟩
  have kx : K.In s.heap := e0.mod.kin.keeps fun b o e => (e0.bs b o e).1
  have nolim := e0.mod.nolimit.keeps fun b o e => (e0.bs b o e).1
  refine codeAny_call_function room.depth (kx _ _ lk) rfl S.co S.gen rfl (PySem.W.codeRec_of kx hcd) (hb _ _ _ _ (wpAny_newFunctionEnv_cells S.kind (fun y hy => ?_) fun env he s1 x => ?_))
  · obtain ⟨n, v⟩ := y
    exact (S.par n (List.of_mem_zip hy).1).imp id fun q => ⟨q, PySem.W.cellsFrom_some _ _ _ (.inl q)⟩
  subst he
  obtain ⟨t, ht, hq⟩ := bd cdv A outer s H vs Q E p hot hp (room.deeper _) hsp
  have I := L2H.inv_startH (CX := CX) (qual := qual) (cd := cdv) (E := E) S pin e0 (ln _ _ _ _ hsp) r x
  refine ⟨nolim.keeps x.toInCall.keep, codeAny_func (wpAny_mono (ht.run [] s1 (L2.start N vs) H _ I hq) (fun fl s' hs => ?_) fun e s' hs => hs)⟩
  have fin : ∀ {σ' : L2.St} {H' : Hp} {v : V} {u : Value}, Inv (L2H.cxH CX P w K mg base N qual scope f cdv A outer s H E p) [] σ' H' s' → RelV v u → Q v H' → CE outer P w H s Q u s' := fun J rv q => ⟨_, _, J.os, J.bare, J.base, J.hok, rv, q⟩
  cases fl with
  | ret u =>
    obtain ⟨_, _, _, J, rv, q⟩ := hs
    exact fin J rv q
  | next =>
    obtain ⟨σ', H', J, q⟩ := hs
    exact fin (u := Value.none) (v := V.non) J rfl q
  | brk => exact hs.elim fun _ z => z.elim fun _ z => False.elim z.2
  | cont => exact hs.elim fun _ z => z.elim fun _ z => False.elim z.2
section
variable {X : Cx} {k : Nat} {ps : List Str} {sp : Sp} {Ph : Addr → Obj → Prop} {x : Str} {p pos : Pos} {e : Expr} {es : List Expr} {t : TA}
theorem pe_ownE (F : GoodE X.prog X.w X.K X.mg X.base (L2.CX X.prog X.w) k x ps Ph sp) (hr : L2H.RoomH k X.A) (hc : HotE X Ph) (hg : Gl X x) (ha : PA X (e :: es) t)
    (tx : Tx1 X pos x e es := by exact ⟨by decide, by rfl, by rfl⟩) : PE X (.Call (.Name x p) (e :: es) [] pos) (tCall sp [] E0 t) := by
  obtain ⟨fd, G, b⟩ := F.ex
  constructor
  intro pins s σ H Q I h
  refine wpAny_Call_Name_kw (ld_glob I hg F.g (PySem.W.callWith_K (h₀ := X.base) I.ok.mod.kin F.kp (thn (ha.run pos pins s σ H _ I h) fun us s1 z => ?_) tx.fst tx.no) tx.nm)
  obtain ⟨vs, H1, I1, r, q⟩ := z
  rw [List.append_nil] at q
  refine ⟨I1.kIn, ?_⟩
  obtain ⟨pp, hot, hp, mem⟩ := hc
  have hl : us.length = ps.length := by rw [← r.length]; exact G.ln _ _ _ _ q
  have bt := b s1 us I1.kIn (by rw [List.append_nil]; exact hl)
  rw [List.append_nil] at bt
  obtain ⟨g1, g2, g3, g4, g5⟩ := I1.pin pp (List.mem_append_left _ mem)
  have pin : L2H.PinOk X.stack H1 s1 pp := ⟨g1, g2, fun hm => (List.mem_cons.mp (I1.stkSub pp.1 hm)).elim g3 g4, g5⟩
  refine wpAny_call (codeAny_mono (G.go X.A X.stack s1 H1 us vs Q E0 pp hr hot hp pin I1.env0 bt r q) fun r s' hq => ?_)
  cases r with
  | error e => exact passL pins σ H1 s1 e s' I1 hq
  | ok fl =>
    cases fl with
    | ret u => exact I1.after hq
    | next => exact hq.elim
    | brk => exact hq.elim
    | cont => exact hq.elim
/-- isinstance of the error that stands pinned -/
theorem call_isP {a D : Addr} {oe : Obj} (T : ExcC X.K D) (mem : (a, oe) ∈ X.pn) (hz : Zc (.ref D) none oe) (hf : ∃ vs, oe.data = .fields vs) : CallR X (.builtin "isinstance") (rIsE X.K D a) := by
  rintro pins s σ H xs us Q I r ⟨c, cv, b, rfl, hcv, ek, q⟩
  obtain ⟨here, _⟩ := I.pin (a, oe) (List.mem_append_left _ mem)
  obtain ⟨vs, hv⟩ := hf
  cases r with
  | cons rx rr =>
    cases rr with
    | cons rt rr =>
      cases rr
      cases rx
      obtain rfl := hcv _ rt
      have J9 : PySem.W.InstAt s.heap a oe D none := by
        obtain ⟨c0, d0, oda, slo⟩ := oe
        obtain ⟨rfl, rfl⟩ := hz
        obtain rfl : oda = .fields vs := hv
        exact ⟨here, rfl, rfl, trivial⟩
      exact PySem.W.kia_one (PySem.W.handS_kitx_exc T.hg T.hk T.hs T.hd T.ha T.hn T.ht T.hm) I.kIn J9 ek (fun z => nomatch z) fun tk => ⟨.bl b, H, I.kept (t' := tk) fun _ _ z => z, rfl, q⟩
theorem call_isPD {a C dd : Addr} {oe : Obj} (T : ExcC X.K C) (mem : (a, oe) ∈ X.pn) (hz : Zc (.ref C) (some dd) oe) (hf : ∃ vs, oe.data = .fields vs) : CallR X (.builtin "isinstance") (rIsD X.K C a dd) := by
  rintro pins s σ H xs us Q I r ⟨c, cv, b, fs, rfl, hc, ek, hd, q⟩
  obtain ⟨cd, hcd, _⟩ := PySem.W.any_some T.hd
  obtain ⟨mA, ⟨od, es, ep, god, _⟩, _⟩ := I.hok dd _ hd
  obtain ⟨here, _⟩ := I.pin (a, oe) (List.mem_append_left _ mem)
  obtain ⟨vs, hv⟩ := hf
  cases r with
  | cons rx rr =>
    cases rr with
    | cons rt rr =>
      cases rr
      cases rx
      obtain rfl := hc _ rt
      rcases oe with ⟨oc, od', da, sl⟩
      obtain ⟨z1, z2⟩ := hz
      have z1 : oc = .ref C := z1
      have z2 : od' = some dd := z2
      have hv : da = .fields vs := hv
      subst z1 z2 hv
      refine PySem.W.kia_one (PySem.W.kitx_exc (od := some od) (by rw [hcd]; rfl) T.hg T.hk T.hs T.ha T.hn T.ht T.hm) I.kIn ⟨here, rfl, rfl, god⟩ ek (fun z => nomatch z) fun tk => ⟨.bl b, H, I.kept (t' := tk) fun _ _ z => z, rfl, q⟩
end
section
variable {K : Fg} {B : Bg} {G H : Hp} {σ : L2.St} {te : TE} {tr : TA} {tt : TT}
/-- [e for i in range(n) if t], while an error is handled -/
theorem ef_lcRR {i n : Nat} {f : Nat → Option PyData} (ha : EvA K B tr σ G [.int (n : Int)]) (hn : n ≤ 100000)
    (ht : ∀ j, j < n → EvB K B tt ((σ.set i none).set i (some (.int (j : Int)))) G (f j).isSome) (he : ∀ j d, j < n → f j = some d → EvD K B te ((σ.set i none).set i (some (.int (j : Int)))) G d) :
    EvF K B (tLcR tr (gName i) tt te [i]) σ G ((List.range n).filterMap f) := fun H e Q q =>
  ha H e _ fun vs G1 H1 X dv => by
    refine ⟨n, dpAll_intsV (bs := [(n : Int)]) dv, hn, fun D hD => ?_⟩
    have nb := X.ok.b.ne hD
    refine ⟨fun j m H' => m = n - j ∧ j ≤ n ∧ ∃ G' ys, Ext K B G1 H1 G' H' ∧ G' D = none ∧ H' D = some (.lst ys) ∧ DpAll K G' ys ((List.range j).filterMap f), ⟨n, rfl, Nat.zero_le _, G1, [], Ext.loose X.ok hD, X.ok.e.off hD, upd_same, .nil⟩, ?_⟩
    rintro j m H' ⟨rfl, jn, G', ys, X', g', h', a'⟩
    rcases Nat.lt_or_ge j n with lt | ge
    · refine .inr ⟨lt, fun H2 => ∃ G' ys, Ext K B G1 H1 G' H2 ∧ G' D = none ∧ H2 D = some (.lst ys) ∧ DpAll K G' ys ((List.range (j + 1)).filterMap f), fun H2 z => ⟨n - (j + 1), by omega, rfl, lt, z⟩, ?_⟩
      have e0 : (0 : Int) + (j : Int) = (j : Int) := Int.zero_add _
      rw [e0]
      refine ⟨?_, ?_⟩
      · show (((σ.set i none).set i (some (V.int (j : Int)))).set i none) = σ.set i none
        rw [List.set_set, List.set_set]
      · have hlen : ((List.range j).filterMap f).length < 100000 := by
          have z := List.length_filterMap_le f (List.range j)
          rw [List.length_range] at z
          omega
        have eg := X.gg.trans X'.gg
        refine lc_turn (o := f j) hD nb X' g' h' a' hlen ((ht j lt).mono eg e.c) (fun d ed => (he j d lt ed).mono eg e.c) fun G4 H4 zs X4 g4 h4 a4 => ⟨G4, zs, X4, g4, h4, ?_⟩
        rw [range_oneN]
        exact a4
    · obtain rfl : j = n := by omega
      exact .inl ⟨Nat.le_refl _, q D ys G' H' (X.trans X') (X.old nb hD) g' nb h' a'⟩
end
end Lw

namespace Lw
open PySem.Spec PySem L2 PyProof.Rows
open Evl (Ex Ex.refl Ex.trans Ex.new Ex.off ex_rd ex_l ex_t)
/-! ### errors of which it is known that they have no context: calls, raises, try -/
theorem passLN {X : Cx} : Passes (L2N.CX X.prog X.w) X E0 := fun _ _ _ _ _ _ _ h => by
  rcases h with ⟨_, _, _, _, _, _, _, _, _, _, _, _, nope⟩
  exact False.elim nope
theorem takes0N {X : Cx} : L2N.Takes X (fun _ _ _ _ => False) := fun _ _ x => by
  rcases x with ⟨_, _, _, _, _, _, _, _, _, _, _, _, _, _, _, _, nope⟩
  exact False.elim nope
abbrev BodyN (X : Cx) (body : List Stmt) (tb : WX → TS) : Prop := ∀ (W : WX) (pn : List (Addr × Obj)) (xe : Value → Shared → Prop), L2N.Takes (X.tr pn xe) W → PassesOwn (model X.prog X.w) X.A X.env xe → PSs (X.tr pn xe) body (tb W)
abbrev SuiteN (X : Cx) (sts : List Stmt) (ts : Addr → Value → Option Addr → TS) : Prop := ∀ (a : Addr) (oe : Obj) (cls : Value) (d : Option Addr) (pn : List (Addr × Obj)), L2N.Zn cls d oe → (∃ vs, oe.data = .fields vs) → PSs (X.suite a ((a, oe) :: pn)) sts (ts a cls d)
section
variable {X : Cx} {x y n : Str} {c1 c2 : Value} {i : Nat} {body suite : List Stmt} {b₀ : Stmt} {np np2 tp pos pos' : Pos} {kk : Nat} {tb : WX → TS} {ts : Addr → Value → Option Addr → TS} {Wout : WX}
theorem ps_try2N (hs : X.stack = X.env :: X.outer) (hf : X.env.frame = some X.env.locals) (hN : X.N.Nodup) (hi : X.N[i]? = some n) (hln : X.env.kindOf n = some .local) (h1 : Names X x c1) (h2 : Names X y c2) (tk : L2N.Takes X Wout)
    (hb : BodyN X body tb) (hsu : SuiteN X (b₀ :: suite) ts) :
    PS X (.Try body [.ExceptHandler (some (.Tuple [.Name x np, .Name y np2] kk tp)) (some n) (b₀ :: suite) pos'] [] [] pos) (fun D σ H => tb (wAs2 X.K c1 c2 i ts Wout D) D σ H) := by
  refine ⟨fun pins s σ H D I h => wpAny_Try_except ?_⟩
  have frm : X.A.frames = some (X.env :: X.outer) := by rw [I.ok.frames, hs]
  have okX := I.ok
  refine wpAny_mono ((hb (wAs2 X.K c1 c2 i ts Wout D) (X.pn ++ pins) (fun e t1 => wpAny (model X.prog X.w) X.A (noteFrame e X.env) (fun _ t2 => wpAny (model X.prog X.w) X.A (setFlight e none) (fun _ t3 =>
    wpAny (model X.prog X.w) X.A (handleBy e X.env [.ExceptHandler (some (.Tuple [.Name x np, .Name y np2] kk tp)) (some n) (b₀ :: suite) pos']) (SP X pins D) X.xe t3) X.xe t2) X.xe t1) (fun u s' xx => ?_) PassesOwn.looking).run [] s σ H D (I.toTry _) h) (fun f s1 sp => ?_) fun e s1 he => he
  · rcases xx with ⟨a, B, sI, pins', σ', H', cls, d, rfl, J', nb, up, sky, na, os, ag, b, hb1, yes, no⟩
    have JX := J'.ofTry okX
    rw [show (X.tr (X.pn ++ pins) _).stack = X.env :: X.outer from hs] at sky
    refine L2N.Sky.land L2N.Zn.steady frm hf sky fun h3 fl3 up3 => ?_
    have at3 := JX.landed (s' := { s' with heap := h3 }) nb fl3.1 (up.trans up3) os ag
    obtain ⟨ob, vs, ga, gz, gd⟩ := fl3.there
    -- the exception is no frame of the stack
    have off : a ∉ frs (X.env :: X.outer) := fun hm => by
      obtain ⟨_, o', e', hnf⟩ := fl3.2.2.1.mem hm
      rw [ga] at e'
      cases e'
      exact hnf _ gd
    have apart : a ≠ X.env.locals ∧ a ∉ X.fs := by
      refine ⟨fun z => off (List.mem_filterMap.mpr ⟨X.env, List.mem_cons_self, by rw [hf, z]⟩), fun hm => ?_⟩
      rcases List.mem_filterMap.mp hm with ⟨e, he, q⟩
      exact off (List.mem_filterMap.mpr ⟨e, List.mem_cons_of_mem _ he, q⟩)
    have in3 := at3.suite ga gd na apart.1 apart.2
    refine wpAny_handleBy_cons (codeAny_handlers_test (wpAny_Tuple ?_)) fun q => by cases q
    -- the tuple of classes
    refine wpAny_items_cons (name_at (X := X.suite a ((a, ob) :: (X.pn ++ pins))) in3 h1 (wpAny_items_cons (name_at (X := X.suite a ((a, ob) :: (X.pn ++ pins))) in3 h2 (wpAny_items_nil ⟨by size_fits, ?_⟩))))
    have kp : ∀ q o, h3.get? q = some o → (h3.push { cls := .type "tuple", data := .seq [c1, c2].toArray }).get? q = some o := fun q o z => Heap.get?_push_of_some _ z
    have its : PySem.W.Looks (model X.prog X.w) h3 (typeOf (.ref a)) cls := fun A Q E s k q => wpAny_typeOf_ref (k a ob ga) (gz.1 ▸ q)
    refine (PySem.W.exm_tup2 (at3.kIn.keeps kp) (its.keeps kp) (Heap.get?_push_size h3 rfl) hb1).here ?_
    have fl4 := flying_up kp fl3
    have up4 := (up.trans up3).trans (Heap.UpToSlots.of_keeps kp)
    generalize h3.push { cls := .type "tuple", data := .seq [c1, c2].toArray } = h4 at fl4 up4
    cases b with
    | true =>
      refine codeAny_handlers_suite_as (HandSPX.lands_againZ (s := { s' with heap := h4 }) fl4 fun h5 fl5 up5 => ?_)
      have at5 := JX.landed (s' := { s' with heap := h5 }) nb fl5.1 (up4.trans up5) os ag
      rcases fl5.there with ⟨o5, v5, g5, z5, d5⟩
      refine store_ok (X := X.suite a ((a, o5) :: (X.pn ++ pins))) (v := .ref a) (at5.suite g5 d5 na apart.1 apart.2) hN hi (.inl hln) rfl (fun s6 S6 => ?_) (.inr hln)
      exact wpAny_mono ((hsu a o5 cls d (X.pn ++ pins) z5 ⟨_, d5⟩).run [] s6 _ H' _ S6 (yes rfl a na)) (fun f s7 sp => suite_end okX hN hi hln sp) fun _ _ z => z.elim
    | false =>
      refine (show wpAny _ X.A (handleBy (.ref a) X.env []) _ _ _ from wpAny_handleBy_nil ?_)
      rcases id fl4 with ⟨_, _, _, oe, ve, T, oT, ts', he, hz, hd, e1, _⟩
      have known : ¬ ((Value.ref T == Value.none) = true) := by simp
      unfold PySem.passOn
      refine wpAny_bind (wpAny_field he hd e1 ?_)
      rw [if_neg known]
      have on : wpAny (model X.prog X.w) X.A (setFlight (.ref a) X.env.frame) (fun _ t4 => wpAny (model X.prog X.w) X.A (throw (.ref a) : Sem Flow) (SP X pins D) X.xe t4) X.xe { s' with heap := h4 } := by
        rw [hf]
        refine HandSPX.setFlight_upZ (s := { s' with heap := h4 }) fl4 fun h5 hh5 up5 => wpAny_throw (tk _ _ ?_)
        exact ⟨a, B, sI, pins, σ', H', cls, d, rfl, JX, nb, up4.trans up5, .inr (.inr (by rw [hs]; exact hh5)), na, os, ag, no rfl⟩
      first
        | exact wpAny_bind <| wpAny_pure <| wpAny_bind on
        | exact wpAny_bind on
  · cases f with
    | ret u =>
      rcases sp with ⟨v, σ1, H1, J1, rv, q1⟩
      exact ⟨v, σ1, H1, J1.ofTry okX, rv, q1⟩
    | next =>
      rcases sp with ⟨σ1, H1, J1, q1⟩
      exact wpAny_execs_nil ⟨σ1, H1, J1.ofTry okX, q1⟩
    | brk =>
      rcases sp with ⟨σ1, H1, J1, q1⟩
      exact ⟨σ1, H1, J1.ofTry okX, q1⟩
    | cont =>
      rcases sp with ⟨σ1, H1, J1, q1⟩
      exact ⟨σ1, H1, J1.ofTry okX, q1⟩
end
end Lw

namespace Lw
open PySem.Spec PySem L2 PyProof.Rows
open Evl (Ex Ex.refl Ex.trans Ex.new Ex.off ex_rd ex_l ex_t)
/-! ### lists of drawn items: displays, kept or loose; an item of a loose list set -/
section
variable {K : Fg} {B : Bg} {G G0 H H0 : Hp} {σ : L2.St} {D : Ends} {ds : List PyData} {p : Addr} {te ti ta tb : TE} {tr : TA} {u : TS}
/-- in a suite that handles an error there is as much room -/
theorem roomH_as {k : Nat} {A A' : Around} (r : Room k A) (h1 : A'.depth = A.depth) (h2 : A'.units = A.units) : L2H.RoomH k A' := ⟨by rw [h1]; exact r.dp, by rw [h2]; exact r.un⟩
end
end Lw

namespace Lw
open PySem.Spec PySem L2 PyProof.Rows
open Evl (Ex Ex.refl Ex.trans Ex.new Ex.off ex_rd ex_l ex_t)
/-! ### enumerate over a text -/
section
variable {s : Shared} {prog : Program} {w : World} {A : Around} {E : Value → Shared → Prop}
end
section
variable {K : Fg} {P : Program} {w : World} {B : Bg} {G G' G0 H H0 : Hp} {σ : L2.St} {D : Ends} {ds : List PyData} {p : Addr} {te ti ta tb : TE} {tr : TA} {tt : TT} {tbd : TBd} {u : TS} {wi : TI} {as bs : Nat → Option PyData} {n : Nat} {vs : List Nat} {a b : Str} {ls : List (List Int)}
theorem EvP.mono (e : Ex G G') (c : Cel K B G) (h : EvP K B wi σ G n as bs) : EvP K B wi σ G' n as bs := fun H eH R k =>
  h H (eH.less e c) R fun J xs ys G1 H1 X wk dx dy => by
    obtain ⟨X2, e2⟩ := X.wide e eH
    refine k J xs ys _ H1 X2 (wk.mono (fun _ q => e2.trans q) fun _ _ _ _ _ _ y => y) (fun i x hi q => ?_) (fun i x hi q => ?_)
    · obtain ⟨d, z1, z2⟩ := dx i x hi q
      exact ⟨d, z1, dp_mono e2 z2⟩
    · obtain ⟨d, z1, z2⟩ := dy i x hi q
      exact ⟨d, z1, dp_mono e2 z2⟩
/-! ### clauses over pairs, one within another -/
/-! ### comprehensions over a text, dicts over a tuple -/
/-! ### join within a comprehension; f-strings, signs in texts -/
end
end Lw

namespace Lw
open PySem.Spec PySem L2 PyProof.Rows
open Evl (Ex Ex.refl Ex.trans Ex.new Ex.off ex_rd ex_l ex_t)
/-! ### rows of signs, each row a list that is changed -/
def rowV (C : Nat) (f : Nat → Nat) : List V := (List.range C).map fun c => V.str ⟨#[f c]⟩
def rowP (C : Nat) (f : Nat → Nat) : List PyData := (List.range C).map fun c => PyData.str ⟨#[f c]⟩
def gridP (R C : Nat) (f : Nat → Nat → Nat) : List PyData := (List.range R).map fun r => PyData.list (rowP C (f r))
structure LoX (K : Fg) (B : Bg) (G0 H0 G H : Hp) (p : Addr) (R C : Nat) (f : Nat → Nat → Nat) : Prop where
  x : Ext K B G0 H0 G H
  h0 : H0 p = none
  g : G p = none
  nb : ¬ isB B p
  h : ∃ qs : List Addr, H p = some (.lst (qs.map V.ref)) ∧ qs.length = R ∧ qs.Nodup ∧ p ∉ qs ∧ (∀ q ∈ qs, H0 q = none ∧ G q = none ∧ ¬ isB B q) ∧ ∀ (r : Nat) q, qs[r]? = some q → H q = some (.lst (rowV C (f r)))
section
variable {K : Fg} {B : Bg} {G G' G0 H H0 G2 H2 : Hp} {σ : L2.St} {D : Ends} {p : Addr} {te tr tc : TE} {ta : TA} {t u : TS} {R C i n : Nat} {f g : Nat → Nat → Nat} {ds : List PyData}
theorem LoX.step (l : LoX K B G0 H0 G H p R C f) (X : Ext K B G H G2 H2) : LoX K B G0 H0 G2 H2 p R C f := by
  obtain ⟨qs, h1, h2, h3, h4, h5, h6⟩ := l.h
  refine ⟨l.x.trans X, l.h0, X.fr p _ h1 l.g, l.nb, qs, X.hh p _ l.nb h1, h2, h3, h4, fun q hq => ?_, fun r q hr => X.hh q _ (h5 q (List.mem_of_getElem? hr)).2.2 (h6 r q hr)⟩
  obtain ⟨a1, a2, a3⟩ := h5 q hq
  obtain ⟨r, lt, er⟩ := List.getElem_of_mem hq
  exact ⟨a1, X.fr q _ (h6 r q (by rw [List.getElem?_eq_getElem lt, er])) a2, a3⟩
theorem row_congr {f g : Nat → Nat} (h : ∀ c, c < C → f c = g c) : rowV C f = rowV C g := List.map_congr_left fun c hc => by rw [h c (List.mem_range.mp hc)]
theorem LoX.congr (l : LoX K B G0 H0 G H p R C f) (h : ∀ r c, r < R → c < C → f r c = g r c) : LoX K B G0 H0 G H p R C g := by
  obtain ⟨qs, h1, h2, h3, h4, h5, h6⟩ := l.h
  refine ⟨l.x, l.h0, l.g, l.nb, qs, h1, h2, h3, h4, h5, fun r q hr => ?_⟩
  have lt : r < R := by
    rw [← h2]
    exact (List.getElem?_eq_some_iff.mp hr).1
  rw [← row_congr fun c hc => h r c lt hc]
  exact h6 r q hr
/-! a call or a comprehension that tells such rows -/
def RetX (K : Fg) (B : Bg) (G H : Hp) (Q : VK) (R C : Nat) (f : Nat → Nat → Nat) : Prop := ∀ p G2 H2, LoX K B G H G2 H2 p R C f → Q (.ref p) H2
def EvX (K : Fg) (B : Bg) (te : TE) (σ : L2.St) (G : Hp) (R C : Nat) (f : Nat → Nat → Nat) : Prop := ∀ H, Ok K B G H → ∀ Q : VK, RetX K B G H Q R C f → te σ H Q
theorem LoX.back {G1 H1 : Hp} (X : Ext K B G0 H0 G1 H1) (l : LoX K B G1 H1 G H p R C f) : LoX K B G0 H0 G H p R C f := by
  obtain ⟨qs, h1, h2, h3, h4, h5, h6⟩ := l.h
  exact ⟨X.trans l.x, X.old l.nb l.h0, l.g, l.nb, qs, h1, h2, h3, h4, fun q hq => ⟨X.old (h5 q hq).2.2 (h5 q hq).1, (h5 q hq).2⟩, h6⟩
theorem RetX.mono {Q : VK} (X : Ext K B G H G2 H2) (h : RetX K B G H Q R C f) : RetX K B G2 H2 Q R C f := fun p G3 H3 l => h p G3 H3 (l.back X)
theorem frz_rows : ∀ (qs : List Addr) (f : Nat → Nat → Nat) (G : Hp), Ext K B G0 H0 G H → qs.Nodup → (∀ q ∈ qs, H0 q = none ∧ G q = none ∧ ¬ isB B q) → (∀ (r : Nat) q, qs[r]? = some q → H q = some (.lst (rowV C (f r)))) →
    ∃ G2, Ext K B G0 H0 G2 H ∧ Ex G G2 ∧ (∀ a, a ∉ qs → G a = none → G2 a = none) ∧ DpAll K G2 (qs.map V.ref) ((List.range qs.length).map fun r => PyData.list (rowP C (f r)))
  | [], f, G, X, _, _, _ => ⟨G, X, Ex.refl G, fun _ _ h => h, .nil⟩
  | q :: qs, f, G, X, nd, hq, hr => by
    obtain ⟨nq, nd⟩ := List.nodup_cons.mp nd
    obtain ⟨a1, a2, a3⟩ := hq q List.mem_cons_self
    have h0 := hr 0 q rfl
    have X1 : Ext K B G0 H0 (upd G q (.lst (rowV C (f 0)))) H := X.freeze a1 a2 a3 h0
    obtain ⟨G2, X2, e2, k2, d2⟩ := frz_rows qs (fun r => f (r + 1)) _ X1 nd (fun z hz => by
      obtain ⟨b1, b2, b3⟩ := hq z (List.mem_cons_of_mem _ hz)
      exact ⟨b1, by rw [upd_ne (fun e : z = q => nq (e ▸ hz))]; exact b2, b3⟩) fun r z hz => hr (r + 1) z hz
    refine ⟨G2, X2, (Ex.new a2).trans e2, fun a na ga => k2 a (fun h => na (List.mem_cons_of_mem _ h)) (by rw [upd_ne (fun e : a = q => na (by rw [e]; exact List.mem_cons_self))]; exact ga), ?_⟩
    have d0 : DpAll K G2 (rowV C (f 0)) (rowP C (f 0)) := by
      unfold rowV rowP
      have z := strs_dp (K := K) (H := G2) ((List.range C).map fun c => (⟨#[f 0 c]⟩ : Str))
      rw [List.map_map, List.map_map] at z
      exact z
    have el : (List.range (q :: qs).length).map (fun r => PyData.list (rowP C (f r))) = PyData.list (rowP C (f 0)) :: (List.range qs.length).map fun r => PyData.list (rowP C (f (r + 1))) := by
      rw [List.length_cons]
      rw [List.range_succ_eq_map]
      rw [List.map_cons]
      rw [List.map_map]
      rfl
    rw [el]
    exact .cons (.lst (SqL.of (e2 _ _ upd_same)) d0) d2
theorem LoX.frz (l : LoX K B G0 H0 G H p R C f) : ∃ G2, Ext K B G0 H0 G2 H ∧ Ex G G2 ∧ Dp K G2 (.ref p) (.list (gridP R C f)) := by
  obtain ⟨qs, h1, h2, h3, h4, h5, h6⟩ := l.h
  obtain ⟨G2, X2, e2, k2, d2⟩ := frz_rows qs f G l.x h3 h5 h6
  have gp := k2 p h4 l.g
  refine ⟨_, X2.freeze l.h0 gp l.nb h1, e2.trans (Ex.new gp), .lst (SqL.of upd_same) ?_⟩
  rw [h2] at d2
  exact dpAll_mono (Ex.new gp) d2
theorem EvX.ed (h : EvX K B te σ G R C f) : EvD K B te σ G (.list (gridP R C f)) := fun H e Q q => h H e _ fun p G2 H2 l => by
  obtain ⟨G3, X3, _, d3⟩ := l.frz
  exact q _ G3 H2 X3 d3
/-! ### for a, b in a tuple of pairs -/
end
end Lw

namespace Lw
open PySem.Spec PySem L2 PyProof.Rows
open Evl (Ex Ex.refl Ex.trans Ex.new Ex.off ex_rd ex_l ex_t)
/-! ### a number that is not in a range -/
section
variable {X : Cx}
end
section
variable {K : Fg} {B : Bg} {G H : Hp} {σ : L2.St} {ta tl th : TE}
end
end Lw

namespace Lw
open PySem.Spec PySem L2 PyProof.Rows
open Evl (Ex Ex.refl Ex.trans Ex.new Ex.off ex_rd ex_l ex_t)
/-! ### [e for a, b, c in xs if t], xs triples of numbers -/
section
variable {K : Fg} {B : Bg} {G H : Hp} {σ : L2.St} {ta te : TE} {tt : TT}
end
end Lw

namespace Lw
open PySem.Spec PySem L2 PyProof.Rows
open Evl (Ex Ex.refl Ex.trans Ex.new Ex.off ex_rd ex_l ex_t)
/-! ### where a text stands in another one -/
section
variable {K : Fg} {B : Bg} {σ : L2.St} {G : Hp} {te ta : TE} {a b : Str}
end
end Lw

namespace Lw
open PySem.Spec PySem L2 PyProof.Rows
open Evl (Ex Ex.refl Ex.trans Ex.new Ex.off ex_rd ex_l ex_t)
/-! ### isinstance(e, (A, B)), e a caught error with a dict of its own at dd -/
section
variable {K : Fg} {B : Bg} {G G' H : Hp} {σ : L2.St} {te : TE} {t : TS} {D : Ends}
/-! ### a dict of three things by their names, frozen -/
def DpWo (K : Fg) (G : Hp) (n1 n2 n3 : Str) (v : V) (d1 d2 : PyData) (ds : List PyData) : Prop := ∃ (p r : Addr) (v1 v2 : V) (xs : List V), v = .ref p ∧ G p = some (.dK [(Sum.inr n1, v1), (Sum.inr n2, v2), (Sum.inr n3, .ref r)]) ∧ Dp K G v1 d1 ∧ Dp K G v2 d2 ∧ G r = some (.lst xs) ∧ DpAll K G xs ds
theorem dpWo_mono {n1 n2 n3 : Str} {v : V} {d1 d2 : PyData} {ds : List PyData} (e : Ex G G') (h : DpWo K G n1 n2 n3 v d1 d2 ds) : DpWo K G' n1 n2 n3 v d1 d2 ds := by
  obtain ⟨p, r, v1, v2, xs, a, b, c, d, f, g⟩ := h
  exact ⟨p, r, v1, v2, xs, a, e _ _ b, dp_mono e c, dp_mono e d, e _ _ f, dpAll_mono e g⟩
theorem val_1 {n1 n2 n3 : Str} {v1 v2 v3 : V} : valV [((Sum.inr n1 : L2.Key), v1), (Sum.inr n2, v2), (Sum.inr n3, v3)] (Sum.inr n1) = some v1 := by
  simp [valV]
theorem val_2 {n1 n2 n3 : Str} {v1 v2 v3 : V} (h : n1 ≠ n2) : valV [((Sum.inr n1 : L2.Key), v1), (Sum.inr n2, v2), (Sum.inr n3, v3)] (Sum.inr n2) = some v2 := by
  simp [valV, h]
theorem val_3 {n1 n2 n3 : Str} {v1 v2 v3 : V} (h : n1 ≠ n3) (h2 : n2 ≠ n3) : valV [((Sum.inr n1 : L2.Key), v1), (Sum.inr n2, v2), (Sum.inr n3, v3)] (Sum.inr n3) = some v3 := by
  simp [valV, h, h2]
def RetWo (K : Fg) (B : Bg) (G H : Hp) (Q : VK) (n1 n2 n3 : Str) (d1 d2 : PyData) (ds : List PyData) : Prop := ∀ v G2 H2, Ext K B G H G2 H2 → DpWo K G2 n1 n2 n3 v d1 d2 ds → Q v H2
variable {n1 n2 n3 : Str} {d1 d2 d : PyData} {ds es : List PyData} {t1 t2 t3 tb : TE} {tr : TA} {u : TS} {i : Nat} {v : V}
theorem RetWo.mono {G1 H1 : Hp} {Q : VK} (X : Ext K B G H G1 H1) (h : RetWo K B G H Q n1 n2 n3 d1 d2 ds) : RetWo K B G1 H1 Q n1 n2 n3 d1 d2 ds := fun v G2 H2 X2 w => h v G2 H2 (X.trans X2) w
theorem ed_wo1 (hσ : σ[i]? = some (some v)) (w : DpWo K G n1 n2 n3 v d1 d2 ds) : EvD K B (tDGet (tVar i) (tC (.str n1))) σ G d1 := fun H e Q q => by
  obtain ⟨p, r, v1, v2, xs, rfl, hp, a1, a2, hr, ax⟩ := w
  have z := DGet.k (k := Sum.inr n1) (e.e _ _ hp)
  rw [val_1] at z
  exact ⟨.ref p, hσ, p, v1, rfl, z, q.here e a1⟩
theorem ed_wo2 (n12 : n1 ≠ n2) (hσ : σ[i]? = some (some v)) (w : DpWo K G n1 n2 n3 v d1 d2 ds) : EvD K B (tDGet (tVar i) (tC (.str n2))) σ G d2 := fun H e Q q => by
  obtain ⟨p, r, v1, v2, xs, rfl, hp, a1, a2, hr, ax⟩ := w
  have z := DGet.k (k := Sum.inr n2) (e.e _ _ hp)
  rw [val_2 n12] at z
  exact ⟨.ref p, hσ, p, v2, rfl, z, q.here e a2⟩
theorem ef_catWo (n13 : n1 ≠ n3) (n23 : n2 ≠ n3) (hσ : σ[i]? = some (some v)) (w : DpWo K G n1 n2 n3 v d1 d2 ds) (hb : EvF K B tb σ G es) (hl : ds.length + es.length ≤ 100000) : EvF K B (tOp rCat (tDGet (tVar i) (tC (.str n3))) tb) σ G (ds ++ es) := fun H e Q q => by
  obtain ⟨p, r, v1, v2, xs, rfl, hp, a1, a2, hr, ax⟩ := w
  have z := DGet.k (k := Sum.inr n3) (e.e _ _ hp)
  rw [val_3 n13 n23] at z
  refine ⟨.ref p, hσ, p, .ref r, rfl, z, hb H e _ fun o ys G2 H2 X ho hg nb h2 a => ?_⟩
  refine ⟨r, o, xs, ys, rfl, rfl, X.ok.e _ _ (X.gg _ _ hr), h2, ?_, fun l hl' => ?_⟩
  · rw [dpAll_len ax, dpAll_len a]
    exact sz hl
  · have n2 := X.ok.b.ne hl'
    exact q l _ G2 _ (X.trans (Ext.loose X.ok hl')) (X.old n2 hl') (X.ok.e.off hl') n2 upd_same (dpAll_app (dpAll_mono X.gg ax) a)
end
end Lw

namespace Lw
open PySem.Spec PySem L2 PyProof.Rows
open Evl (Ex Ex.refl Ex.trans Ex.new Ex.off ex_rd ex_l ex_t)
/-! ### own errors over LookupError with a field, of which it is known that they have no context -/
/-! ### lists that are told as they stand -/
def EvL (K : Fg) (B : Bg) (te : TE) (σ : L2.St) (G : Hp) (ds : List PyData) : Prop := ∀ H, Ok K B G H → ∀ Q : VK, (∀ r xs G2 H2, Ext K B G H G2 H2 → G2 r = some (.lst xs) → DpAll K G2 xs ds → Q (.ref r) H2) → te σ H Q
section
variable {K : Fg} {B : Bg} {G G' H : Hp} {σ : L2.St} {te ta tb t1 t2 t3 : TE} {tr : TA} {D : Ends} {ds es : List PyData} {d1 d2 : PyData} {u : TS}
theorem EvF.toL (h : EvF K B te σ G ds) : EvL K B te σ G ds := fun H e Q q => h H e Q fun p xs G2 H2 X hp hg nb h2 a => q p xs _ H2 (X.freeze hp hg nb h2) upd_same (dpAll_mono (Ex.new hg) a)
theorem EvL.ed (h : EvL K B te σ G ds) : EvD K B te σ G (.list ds) := fun H e Q q => h H e Q fun r xs G2 H2 X hr a => q _ G2 H2 X (.lst (SqL.of hr) a)
theorem EvL.mono (e : Ex G G') (c : Cel K B G) (h : EvL K B te σ G ds) : EvL K B te σ G' ds := fun H eH Q q =>
  h H (eH.less e c) Q fun p xs G2 H2 X hp a => by
    obtain ⟨X2, e2⟩ := X.wide e eH
    exact q p xs _ H2 X2 (e2 _ _ hp) (dpAll_mono e2 a)
theorem el_var {i : Nat} {r : Addr} {xs : List V} (hσ : σ[i]? = some (some (.ref r))) (hr : G r = some (.lst xs)) (a : DpAll K G xs ds) : EvL K B (tVar i) σ G ds := fun H e Q q => ⟨.ref r, hσ, q r xs G H (Ext.refl e) hr a⟩
/-- three things in a tuple, the last one a list that is told as it stands -/
def Dp3 (K : Fg) (G : Hp) (v : V) (d1 d2 : PyData) (ds : List PyData) : Prop := ∃ (p r : Addr) (v1 v2 : V) (xs : List V), v = .ref p ∧ G p = some (.tup [v1, v2, .ref r]) ∧ Dp K G v1 d1 ∧ Dp K G v2 d2 ∧ G r = some (.lst xs) ∧ DpAll K G xs ds
theorem dp3_d {v : V} (h : Dp3 K G v d1 d2 ds) : Dp K G v (.tuple [d1, d2, .list ds]) := by
  obtain ⟨p, r, v1, v2, xs, rfl, hp, a1, a2, hr, ax⟩ := h
  exact .tup (SqT.of hp) (.cons a1 (.cons a2 (.cons (.lst (SqL.of hr) ax) .nil)))
def Ret3 (K : Fg) (B : Bg) (G H : Hp) (Q : VK) (d1 d2 : PyData) (ds : List PyData) : Prop := ∀ v G2 H2, Ext K B G H G2 H2 → Dp3 K G2 v d1 d2 ds → Q v H2
theorem Ret3.mono {G1 H1 : Hp} {Q : VK} (X : Ext K B G H G1 H1) (h : Ret3 K B G H Q d1 d2 ds) : Ret3 K B G1 H1 Q d1 d2 ds := fun v G2 H2 X2 w => h v G2 H2 (X.trans X2) w
theorem Ret3.of {Q : VK} (h : Ret K B G H Q (.tuple [d1, d2, .list ds])) : Ret3 K B G H Q d1 d2 ds := fun v G2 H2 X w => h v G2 H2 X (dp3_d w)
theorem st_ret3 (h1 : EvD K B t1 σ G d1) (h2 : EvD K B t2 σ G d2) (h3 : EvL K B t3 σ G ds) (e : Ok K B G H) (k : Ret3 K B G H D.rt d1 d2 ds) : tRet (tTup (tCons t1 (tCons t2 (tCons t3 tNil)))) D σ H :=
  h1 H e _ fun v1 G1 H1 X1 a1 => h2.mono X1.gg e.c H1 X1.ok _ fun v2 G2 H2 X2 a2 => h3.mono (X1.gg.trans X2.gg) e.c H2 X2.ok _ fun r xs G3 H3 X3 hr ax => ⟨Nat.le_of_ble_eq_true rfl, fun p hp => by
    have Y := (X1.trans X2).trans X3
    have e3 : Ex G3 (upd G3 p (.tup [v1, v2, .ref r])) := Ex.new (Y.ok.e.off hp)
    exact k (.ref p) _ _ (Y.trans (Ext.new Y.ok hp)) ⟨p, r, v1, v2, xs, rfl, upd_same, dp_mono ((X2.gg.trans X3.gg).trans e3) a1, dp_mono (X3.gg.trans e3) a2, e3 _ _ hr, dpAll_mono e3 ax⟩⟩
end
end Lw

namespace Lw
open PySem.Spec PySem L2 PyProof.Rows
open Evl (Ex Ex.refl Ex.trans Ex.new Ex.off ex_rd ex_l ex_t)
/-! ### tests of which one knows but so much -/
def EvTB (K : Fg) (B : Bg) (tt : TT) (σ : L2.St) (G : Hp) (P : Bool → Prop) : Prop := ∀ H, Ok K B G H → ∀ Q : Bool → Hp → Prop, (∀ b G2 H2, P b → Ext K B G H G2 H2 → Q b H2) → tt σ H Q
section
variable {K : Fg} {B : Bg} {G G' H : Hp} {σ : L2.St} {te : TE} {tt tu : TT} {t : TS} {D : Ends} {P R : Bool → Prop} {b : Bool}
theorem EvTB.mono (e : Ex G G') (c : Cel K B G) (h : EvTB K B tt σ G P) : EvTB K B tt σ G' P := fun H eH Q q =>
  h H (eH.less e c) Q fun b G2 H2 p X => q b _ H2 p (X.wide e eH).1
end
end Lw

namespace Lw
open PySem.Spec PySem L2 PyProof.Rows
open Evl (Ex Ex.refl Ex.trans Ex.new Ex.off ex_rd ex_l ex_t)
/-! ### tuples of which one knows that they have no dict -/
def Bare (o : Obj) : Prop := o.cls = .type "tuple" ∧ o.dict = none
/-- a tuple whose object is known to have no dict -/
def Kn (G : Hp) (v : V) : Prop := ∃ p o u, v = .ref p ∧ G p = some (.frz o u) ∧ Bare o
/-- the last of these is such a tuple -/
def Lkn (G : Hp) (xs : List V) : Prop := ∃ g, xs.getLast? = some g ∧ Kn G g
/-- a tuple whose last item is such a tuple -/
def Gk (K : Fg) (G : Hp) (v : V) (d : PyData) : Prop := ∃ p xs ds, v = .ref p ∧ d = .tuple ds ∧ SqT K G p xs ∧ DpAll K G xs ds ∧ Lkn G xs
def Kt (G : Hp) (v : V) (_ : PyData) : Prop := Kn G v
theorem Kn.mono {G G' : Hp} {v : V} (e : Ex G G') (h : Kn G v) : Kn G' v := by
  obtain ⟨p, o, u, rfl, g, b⟩ := h
  exact ⟨p, o, u, rfl, e _ _ g, b⟩
theorem Lkn.mono {G G' : Hp} {xs : List V} (e : Ex G G') (h : Lkn G xs) : Lkn G' xs := by
  obtain ⟨g, h1, h2⟩ := h
  exact ⟨g, h1, h2.mono e⟩
theorem Gk.mono {K : Fg} {G G' : Hp} {v : V} {d : PyData} (e : Ex G G') (h : Gk K G v d) : Gk K G' v d := by
  obtain ⟨p, xs, ds, rfl, rfl, s, x, l⟩ := h
  exact ⟨p, xs, ds, rfl, rfl, ex_t e s, dpAll_mono e x, l.mono e⟩
/-- what evaluates to one of these data, and its value keeps P -/
def EvSW (K : Fg) (B : Bg) (te : TE) (σ : L2.St) (G : Hp) (S : PyData → Prop) (P : Hp → V → PyData → Prop) : Prop := ∀ H, Ok K B G H → ∀ Q : VK, (∀ d v G2 H2, S d → Ext K B G H G2 H2 → Dp K G2 v d → P G2 v d → Q v H2) → te σ H Q
abbrev EvW (K : Fg) (B : Bg) (te : TE) (σ : L2.St) (G : Hp) (d : PyData) (P : Hp → V → PyData → Prop) : Prop := EvSW K B te σ G (fun x => x = d) P
def RetSW (K : Fg) (B : Bg) (G H : Hp) (Q : VK) (S : PyData → Prop) (P : Hp → V → PyData → Prop) : Prop := ∀ d v G2 H2, S d → Ext K B G H G2 H2 → Dp K G2 v d → P G2 v d → Q v H2
abbrev RetW (K : Fg) (B : Bg) (G H : Hp) (Q : VK) (d : PyData) (P : Hp → V → PyData → Prop) : Prop := RetSW K B G H Q (fun x => x = d) P
def MonoP (P : Hp → V → PyData → Prop) : Prop := ∀ (G G' : Hp) (v : V) (d : PyData), Ex G G' → P G v d → P G' v d
theorem mono_Gk {K : Fg} : MonoP (Gk K) := fun _ _ _ _ e h => h.mono e
/-- arguments, the last a known tuple -/
def EvAK (K : Fg) (B : Bg) (ta : TA) (σ : L2.St) (G : Hp) (S : List PyData → Prop) : Prop := ∀ H, Ok K B G H → ∀ Q : List V → Hp → Prop, (∀ ds vs G2 H2, S ds → Ext K B G H G2 H2 → DpAll K G2 vs ds → Lkn G2 vs → Q vs H2) → ta σ H Q
section
variable {K : Fg} {B : Bg} {G G' H : Hp} {σ : L2.St} {te ta tb : TE} {tr : TA} {u : TS} {D : Ends} {d : PyData} {ds fs : List PyData} {S : PyData → Prop} {P : Hp → V → PyData → Prop}
theorem EvSW.mono (mp : MonoP P) (e : Ex G G') (c : Cel K B G) (h : EvSW K B te σ G S P) : EvSW K B te σ G' S P := fun H eH Q q =>
  h H (eH.less e c) Q fun d v G2 H2 s X dv p => q d v _ H2 s (X.wide e eH).1 (dp_mono (X.wide e eH).2 dv) (mp _ _ _ _ (X.wide e eH).2 p)
theorem EvSW.es (h : EvSW K B te σ G S P) : EvS K B te σ G S := fun H e Q q => h H e Q fun d v G2 H2 s X dv _ => q d v G2 H2 s X dv
theorem EvSW.ed (h : EvW K B te σ G d P) : EvD K B te σ G d := fun H e Q q => h H e Q fun d' v G2 H2 s X dv _ => by
  subst s
  exact q v G2 H2 X dv
theorem RetSW.mono {G0 H0 : Hp} {Q : VK} (X : Ext K B G H G0 H0) (h : RetSW K B G H Q S P) : RetSW K B G0 H0 Q S P := fun d v G2 H2 s Y dv p => h d v G2 H2 s (X.trans Y) dv p
theorem sq_setW {i : Nat} (h : EvSW K B te σ G S P) (e : Ok K B G H) (k : ∀ d v G2 H2, S d → Ext K B G H G2 H2 → Dp K G2 v d → P G2 v d → u D (σ.set i (some v)) H2) : tSeq (tAsg te (gName i)) u D σ H := h H e _ k
theorem st_retW (h : EvSW K B te σ G S P) (e : Ok K B G H) (q : RetSW K B G H D.rt S P) : tRet te D σ H := h H e _ q
theorem ek_var {i : Nat} {v : V} (hσ : σ[i]? = some (some v)) (dv : Dp K G v d) (p : P G v d) : EvW K B (tVar i) σ G d P := fun H e Q q => ⟨v, hσ, q d v G H rfl (Ext.refl e) dv p⟩
theorem Bare.kt {p : Addr} {o : Obj} {u : HO} (b : Bare o) : Kn (upd G p (.frz o u)) (.ref p) := ⟨p, o, u, rfl, upd_same, b⟩
/-- tuple(a list), the object known -/
def rTupK (K : Fg) : List V → Hp → VK → Prop := fun xs H Q => ∃ p ys, xs = [.ref p] ∧ SqL K H p ys ∧ ∀ l o, H l = none → Bare o → Q (.ref l) (upd H l (.frz o (.tup ys)))
theorem cr_tupK {X : Cx} : CallR X (.type "tuple") (rTupK X.K) := fun pins s σ H xs us Q I r hh => by
  obtain ⟨p, ys, rfl, hs, q⟩ := hh
  obtain ⟨w, rfl, rw'⟩ := r.one
  obtain rfl : w = .ref p := rw'
  obtain ⟨its, rv, hl, hz⟩ := (I.list hs)
  have few : its.toArray.size ≤ sizeLine := by
    rw [List.size_toArray, ← rv.length]
    exact hz
  refine call_tuple_list hl.isList (fun h' kk => ?_) few
  have J := Inv.kept (t' := s.toks) I kk
  exact ⟨.ref h'.objs.size, _, J.laid (a := h'.objs.size) (o := .frz { cls := .type "tuple", data := .seq its.toArray } (.tup ys)) (t' := s.toks) (fun b o e => Heap.get?_push_of_some _ e) (Nat.le_refl _) ⟨Heap.get?_push_size _ rfl, hz, its, rv, IsTup.new _ _⟩, rfl, q _ _ (J.hok.fresh (Nat.le_refl _)) ⟨rfl, rfl⟩⟩
theorem ek_tupOf (h : EvD K B te σ G (.list ds)) : EvW K B (tCB (rTupK K) (tCons te tNil)) σ G (.tuple ds) Kt := fun H e Q q =>
  h H e _ fun v G2 H2 X dv => by
    obtain ⟨a, xs, rfl, hs, hx⟩ := dp_lst dv
    exact ⟨a, xs, rfl, ex_l X.ok.e hs, fun p o hp b => q _ _ _ _ rfl (X.trans (Ext.new X.ok hp)) (.tup (.inl (.inr ⟨o, upd_same⟩)) (dpAll_mono (Ex.new (X.ok.e.off hp)) hx)) b.kt⟩
/-- (x,) * n, the object known -/
def rRepK (K : Fg) : R2 := fun x y H Q => ∃ l k xs, x = .ref l ∧ y = .int k ∧ SqT K H l xs ∧ xs ≠ [] ∧ 2 ≤ k ∧ k ≤ 1000 ∧ xs.length ≤ 1000 ∧ ∀ p o, H p = none → Bare o → Q (.ref p) (upd H p (.frz o (.tup (List.replicate k.toNat xs).flatten)))
theorem op_repK {X : Cx} : OpR X (binaryOp .Mult) (rRepK X.K) := by
  intro pins s σ H x y v w Q I rx ry hh
  obtain ⟨l, k, xs, rfl, rfl, hT, ne, k2, km, few, q⟩ := hh
  cases rx
  obtain ⟨tk, rfl⟩ := ry
  obtain ⟨its, rv, ⟨⟨oc, od, dt, sl⟩, hob, hcl, m, hdt⟩, _⟩ := I.tuple hT
  simp only at hcl hdt
  subst hdt hcl
  have ln : its.length = xs.length := (rv.length).symm
  have sz : its.toArray.size = xs.length := List.size_toArray.trans ln
  have some_ : its ≠ [] := by
    rintro rfl
    exact ne (List.length_eq_zero_iff.mp ln.symm)
  have em : its.toArray.isEmpty = false := by
    cases its with
    | nil => exact absurd rfl some_
    | cons _ _ => rfl
  have prod : ((its.toArray.size : Nat) : Int) * k ≤ 1000 * 1000 := by
    rw [sz]
    exact Int.mul_le_mul (by omega) km (by omega) (by decide)
  have tot : (List.replicate k.toNat its).flatten.length ≤ 1000000 := by
    rw [PyProof.Rows.lm_len_rep_flat, ln]
    exact Nat.mul_le_mul (show k.toNat ≤ 1000 by omega) few
  have small : (decide (k < -(2 ^ 63)) || decide (k ≥ 2 ^ 63)) = false := Bool.or_eq_false_iff.mpr ⟨decide_eq_false (by omega), decide_eq_false (by omega)⟩
  have not1 : (its.toArray.isEmpty || k == 1) = false := Bool.or_eq_false_iff.mpr ⟨em, beq_eq_false_iff_ne.mpr (by omega)⟩
  have not0 : (decide (k ≤ 0) || its.toArray.isEmpty) = false := Bool.or_eq_false_iff.mpr ⟨decide_eq_false (by omega), em⟩
  have fits : Builtin.Tuple.tupleTooMany (((its.toArray.size : Nat) : Int) * k) = false := decide_eq_false (by rw [sizeLine_eq]; omega)
  have back := tuple_mulW l its.toArray m od sl k tk small not1 not0 (by omega) fits (by rw [size_rep, List.size_toArray, sizeLine_eq]; omega)
  refine wpAny_binaryOp_repeat_ref (T := "tuple") (U := "int") (by decide) ⟨_, hob, rfl⟩ (fun s' => typeIs_int s' k tk) noFill_tuple_mul F.fills_int_mul F.slot_int_rmul repeat_tuple F.slot_int_index.lookup ?_
  refine call_meets F.slot_int_rmul (typeIs_int s k tk) F.entry_int_rmul (F.args_int_rmul_2 _ _) (int_rmul_tuple k tk l its.toArray m od sl) ⟨hob, rfl, ⟨_, hob, rfl⟩, ?_⟩
  refine call_meets F.slot_tuple_mul ⟨_, hob, rfl⟩ F.entry_tuple_mul (F.args_tuple_mul_2 _ _) back ⟨hob, ?_⟩
  rw [size_rep]
  refine ⟨.ref s.heap.objs.size, _, I.laid (a := s.heap.objs.size) (t' := s.toks) (o := .frz { cls := .type "tuple", data := .seq (List.replicate k.toNat its).flatten.toArray } (.tup (List.replicate k.toNat xs).flatten)) (fun b ob z => Heap.get?_push_of_some _ z) (Nat.le_refl _) ⟨Heap.get?_push_size _ rfl, ?_, _, rv.rep k.toNat, IsTup.new _ _⟩, rfl, q _ _ (I.hok.fresh (Nat.le_refl _)) ⟨rfl, rfl⟩⟩
  rw [(rv.rep k.toNat).length, sizeLine_eq]
  omega
theorem ek_rep {n : Int} (h : 2 ≤ n ∧ n ≤ 1000) (ha : EvD K B ta σ G (.tuple [d])) (hb : EvD K B tb σ G (.int n)) : EvW K B (tOp (rRepK K) ta tb) σ G (.tuple (List.replicate n.toNat d)) Kt := fun H e Q q =>
  ha H e _ fun v G2 H2 X dv => hb.mono X.gg e.c H2 X.ok _ fun w G3 H3 X3 dw => by
    have Y := X.trans X3
    obtain ⟨a, xs, rfl, hs, hx⟩ := dp_tup (dp_mono X3.gg dv)
    obtain rfl := dp_int dw
    have l1 : xs.length = 1 := dpAll_len hx
    refine ⟨a, n, xs, rfl, rfl, ex_t Y.ok.e hs, fun z => (by rw [z] at l1; cases l1), h.1, h.2, by omega, fun p o hp b => q _ _ _ _ rfl (Y.trans (Ext.new Y.ok hp)) (.tup (.inl (.inr ⟨o, upd_same⟩)) (dpAll_mono (Ex.new (Y.ok.e.off hp)) ?_)) b.kt⟩
    rw [← rep_flat]
    generalize n.toNat = m
    induction m with
    | zero => exact .nil
    | succ m ih => exact dpAll_app hx ih
theorem eak_last (h : EvSW K B te σ G S Kt) : EvAK K B (tCons te tNil) σ G (fun ds => ∃ d, ds = [d] ∧ S d) := fun H e Q q =>
  h H e _ fun d v G2 H2 s X dv k => q [d] [v] G2 H2 ⟨d, rfl, s⟩ X (.cons dv .nil) ⟨v, rfl, k⟩
theorem EvAK.mono {R : List PyData → Prop} (e : Ex G G') (c : Cel K B G) (h : EvAK K B tr σ G R) : EvAK K B tr σ G' R := fun H eH Q q =>
  h H (eH.less e c) Q fun ds vs G2 H2 s X dv k => q ds vs _ H2 s (X.wide e eH).1 (dpAll_mono (X.wide e eH).2 dv) (k.mono (X.wide e eH).2)
theorem last_cons {G : Hp} {v : V} {vs : List V} (h : Lkn G vs) : Lkn G (v :: vs) := by
  obtain ⟨g, e, k⟩ := h
  cases vs with
  | nil => cases e
  | cons w ws => exact ⟨g, by rw [List.getLast?_cons_cons]; exact e, k⟩
theorem last_app {G : Hp} {us vs : List V} (h : Lkn G vs) : Lkn G (us ++ vs) := by
  induction us with
  | nil => exact h
  | cons u us ih => exact last_cons ih
theorem eak_cons {R : List PyData → Prop} (h : EvD K B te σ G d) (r : EvAK K B tr σ G R) : EvAK K B (tCons te tr) σ G (fun ds => ∃ es, ds = d :: es ∧ R es) := fun H e Q q =>
  h H e _ fun v G2 H2 X dv => r.mono X.gg e.c H2 X.ok _ fun es vs G3 H3 s X3 dvs k => q (d :: es) (v :: vs) G3 H3 ⟨es, rfl, s⟩ (X.trans X3) (.cons (dp_mono X3.gg dv) dvs) (last_cons k)
/-- (.., a known tuple) -/
theorem ek_tup {R : List PyData → Prop} (h : EvAK K B tr σ G R) (hl : ∀ ds, R ds → ds.length ≤ 100000) : EvSW K B (tTup tr) σ G (fun d => ∃ ds, d = .tuple ds ∧ R ds) (Gk K) := fun H e Q q =>
  h H e _ fun ds vs G2 H2 s X dv k => ⟨by rw [dpAll_len dv]; exact sz (hl ds s), fun p hp =>
    q _ _ _ _ ⟨ds, rfl, s⟩ (X.trans (Ext.new X.ok hp)) (.tup (SqT.of upd_same) (dpAll_mono (Ex.new (X.ok.e.off hp)) dv)) ⟨p, vs, ds, rfl, rfl, SqT.of upd_same, dpAll_mono (Ex.new (X.ok.e.off hp)) dv, k.mono (Ex.new (X.ok.e.off hp))⟩⟩
/-- a tuple and one whose last is known -/
theorem ek_cat {R : List PyData → Prop} (ha : EvD K B ta σ G (.tuple ds)) (hb : EvSW K B tb σ G (fun d => ∃ es, d = .tuple es ∧ R es) (Gk K)) (h0 : ds ≠ []) (hl : ∀ es, R es → ds.length + es.length ≤ 100000) : EvSW K B (tOp (rCatT K) ta tb) σ G (fun d => ∃ es, d = .tuple (ds ++ es) ∧ R es) (Gk K) := fun H e Q q =>
  ha H e _ fun v G2 H2 X dv => hb.mono mono_Gk X.gg e.c H2 X.ok _ fun d w G3 H3 s X3 dw k => by
    obtain ⟨es, rfl, r⟩ := s
    have Y := X.trans X3
    obtain ⟨a, xs, rfl, hs, hx⟩ := dp_tup (dp_mono X3.gg dv)
    obtain ⟨b, ys, ds2, rfl, e2, hy, hyd, lk⟩ := k
    cases e2
    have ne : ys ≠ [] := fun z => by
      obtain ⟨g, e, _⟩ := lk
      rw [z] at e
      cases e
    refine ⟨a, b, xs, ys, rfl, rfl, ex_t Y.ok.e hs, ex_t Y.ok.e hy, fun z => ?_, ?_, fun z => absurd z ne, fun _ p hp => q _ _ _ _ ⟨es, rfl, r⟩ (Y.trans (Ext.new Y.ok hp)) (.tup (SqT.of upd_same) (dpAll_mono (Ex.new (Y.ok.e.off hp)) (dpAll_app hx hyd))) ⟨p, _, _, rfl, rfl, SqT.of upd_same, dpAll_mono (Ex.new (Y.ok.e.off hp)) (dpAll_app hx hyd), (last_app lk).mono (Ex.new (Y.ok.e.off hp))⟩⟩
    · subst z
      cases hx
      exact absurd rfl h0
    · rw [dpAll_len hx, dpAll_len hyd]
      exact sz (hl es r)
/-- the later part of a tuple whose last is known -/
theorem last_drop {G : Hp} {n : Nat} {vs : List V} (h : Lkn G vs) (hn : n < vs.length) : Lkn G (vs.drop n) := by
  obtain ⟨g, e, k⟩ := h
  exact ⟨g, by rw [List.getLast?_drop, if_neg (by omega)]; exact e, k⟩
theorem ek_sl {i n : Nat} {v : V} {ds' : List PyData} (hσ : σ[i]? = some (some v)) (g : Gk K G v (.tuple ds)) (h0 : 0 < n) (hn : n < ds.length) (e' : ds.drop n = ds') : EvW K B (tSl (rSlT K) (tVar i) (tPart (tC (.int (n : Int)))) tNoPart) σ G (.tuple ds') (Gk K) := fun H e Q q => by
  obtain ⟨p, xs, ds2, rfl, e2, s, x, l⟩ := g
  cases e2
  subst e'
  have lx : xs.length = ds.length := dpAll_len x
  have c : cutV xs (some (n : Int)) none = xs.drop n := by
    unfold cutV
    have z : HT.sIx xs.length 0 (some (n : Int)) = n := (HT.sIx_nat _ _ _).trans (Nat.min_eq_left (by omega))
    have z2 : HT.sIx xs.length xs.length none = xs.length := rfl
    rw [z, z2, List.take_of_length_le (by rw [List.length_drop]; omega)]
  refine ⟨.ref p, hσ, (n : Int), rfl, p, xs, rfl, ex_t e.e s, fun z => ?_, fun r hr => ?_⟩
  · have z : HT.sIx xs.length 0 (some (n : Int)) = 0 := z.1
    rw [HT.sIx_nat, Nat.min_eq_left (by omega)] at z
    omega
  · have y := q (.tuple (ds.drop n)) (.ref r) (upd G r (.tup (xs.drop n))) (upd H r (.tup (xs.drop n))) rfl (Ext.new e hr) (.tup (SqT.of upd_same) (dpAll_mono (Ex.new (e.e.off hr)) (dpAll_drop n x))) ⟨r, _, _, rfl, rfl, SqT.of upd_same, dpAll_mono (Ex.new (e.e.off hr)) (dpAll_drop n x), (last_drop l (by omega)).mono (Ex.new (e.e.off hr))⟩
    rw [← c] at y
    exact y
/-- the last item -/
theorem ek_ix {i n : Nat} {v : V} (hσ : σ[i]? = some (some v)) (g : Gk K G v (.tuple ds)) (hd : ds[n]? = some d) (hn : ds.length = n + 1) : EvW K B (tOp (rIxT K) (tVar i) (tC (.int (n : Int)))) σ G d Kt := fun H e Q q => by
  obtain ⟨p, xs, ds2, rfl, e2, s, x, l⟩ := g
  cases e2
  obtain ⟨w, hw, dw⟩ := atI_dp x (atI_nat hd)
  have lx : xs.length = n + 1 := (dpAll_len x).trans hn
  refine ⟨.ref p, hσ, p, xs, (n : Int), w, rfl, rfl, ex_t e.e s, hw, q d w G H rfl (Ext.refl e) dw ?_⟩
  obtain ⟨g', eg, kg⟩ := l
  have ew : xs[n]? = some w := by
    have z := atI_nat (xs := xs) (List.getElem?_eq_getElem (by omega : n < xs.length))
    rw [hw] at z
    rw [List.getElem?_eq_getElem (by omega)]
    exact z.symm
  rw [List.getLast?_eq_getElem?, lx, Nat.add_sub_cancel, ew] at eg
  cases eg
  exact kg
/-! ### t.count(x) of a known tuple -/
def tTCount (r : V → List V → Hp → VK → Prop) (to : TE) (t : TA) : TE := fun σ H Q => to σ H fun x H1 => Kn H1 x ∧ t σ H1 fun xs H2 => r x xs H2 Q
def rCountT (K : Fg) : V → List V → Hp → VK → Prop := fun x xs H Q => ∃ (y : V) (d : PyData) (ds : List PyData), xs = [y] ∧ Dp K H x (.tuple ds) ∧ Dp K H y d ∧ SeqAt.shaped (.tuple ds) = true ∧ SeqAt.shaped d = true ∧ Q (.int ((ds.countP fun z => PyData.eqv z d : Nat) : Int)) H
theorem mt_countT {X : Cx} (hu : X.A.units + 65 < cLine) : MtR X "tuple.count" (rCountT X.K) := by
  intro pins s σ H x xs v us Q I rx qs hh
  obtain ⟨y, d, ds, rfl, hl, hy, sl, sd, q⟩ := hh
  obtain ⟨a, its0, rfl, hs, ha⟩ := dp_tup hl
  cases rx
  obtain ⟨w, rfl, ry⟩ := qs.one
  obtain ⟨bs, rb⟩ := Dp.reads I d y w hy ry
  have layd : PyData.canLayAll0 ds = true := SeqAt.canLay_of_shaped sl
  obtain ⟨its, rv, ⟨⟨oc, od, dt, so⟩, hob, hcl, m, hdt⟩, _⟩ := I.tuple hs
  simp only at hcl hdt
  subst hdt hcl
  obtain ⟨as, ra⟩ := Dp.readsAll I ds _ its ha rv
  have back : its.map (SeqAt.readOf s.heap) = ds := SeqAt.readsAll_map ds its as layd ra
  have done := SeqAt.tuple_countAt a its.toArray m od so w fun u => PyData.eqv (SeqAt.readOf s.heap u) d
  refine call_meets PySem.F.slot_tuple_count ⟨_, hob, rfl⟩ PySem.F.entry_tuple_count (PySem.F.args_tuple_count_2 _ _) done ⟨hob, SeqAt.items_eqAt (vs := its.toArray) (show ReadsAll s.heap its.toArray.toList ds as from ra) rb layd (SeqAt.canLay_of_shaped sd) (room_in_shaped sd hu), ⟨.int ((ds.countP fun z => PyData.eqv z d : Nat) : Int), H, I.tok _, ⟨s.toks, ?_⟩, q⟩⟩
  have same : its.toArray.toList.countP (fun u => PyData.eqv (SeqAt.readOf s.heap u) d) = ds.countP fun z => PyData.eqv z d := by
    rw [← back, List.countP_map]
    rfl
  rw [same]
theorem pe_tcount {X : Cx} {o e0 : Expr} {es0 : List Expr} {to : TE} {t : TA} {name : Str} {apos cpos : Pos} {id : String} {r : V → List V → Hp → VK → Prop} (pa : PlainAttrs "tuple") (slot : Slot "tuple" name id) (hty : typeOf (.builtin id) = pure (.type "method_descriptor")) (hm : MtR X id r) (ho : PE X o to) (ha : PA X (e0 :: es0) t) (hbase : attributeBase o name X.env (eval o X.env) = eval o X.env := by rfl)
    (hfew : ((backTo cpos (starEach (e0 :: es0) X.env)).all (fun x => !x.1) && (backToKw cpos (keywordEach [] X.env)).all (fun x => x.1.isSome)
      && decide ((e0 :: es0).length + ([] : List Keyword).length + (if ([] : List Keyword).isEmpty then 0 else 1) < 30)) = true := by rfl)
    (hline : (apos.endLine == cpos.line) = true := by rfl) (hs : starEach (e0 :: es0) X.env = (false, eval e0 X.env) :: starEach es0 X.env := by rfl) (hplain : (backTo cpos (starEach es0 X.env)).any (·.1) = false := by rfl) :
    PE X (.Call (.Attribute o name apos) (e0 :: es0) [] cpos) (tTCount r to t) := by
  refine ⟨fun pins s σ H Q I h => wpAny_Call_method_late hbase hfew hline rfl (thn (ho.run pins s σ H _ I h) fun v s1 ⟨x, H1, I1, r1, kn, q1⟩ => ?_)⟩
  obtain ⟨p, ob, u, rfl, hp, cl, nd⟩ := kn
  cases r1
  have there := (I1.hok p _ hp).1
  refine ⟨"tuple", id, pa, slot, hty, ⟨ob, there, cl⟩, fun a z => (by cases z; exact ⟨ob, there, nd⟩), ?_⟩
  have args := ha.run cpos pins s1 σ H1 _ I1 q1
  rw [hs] at args ⊢
  refine Calls.callWith_builtin (by show (false || (backTo cpos (starEach es0 X.env)).any (·.1)) = false; rw [hplain] <;> rfl) (Calls.evalArgs_plain (thn args fun us s2 ⟨vs, H2, I2, r2, q2⟩ => ?_))
  exact hm pins s2 σ H2 (.ref p) vs _ us Q I2 rfl r2 q2
theorem ed_tcount (h : EvW K B te σ G (.tuple ds) Kt) (ha : EvD K B ta σ G d) (sl : SeqAt.shaped (.tuple ds) = true) (sd : SeqAt.shaped d = true) : EvD K B (tTCount (rCountT K) te (tCons ta tNil)) σ G (.int ((ds.countP fun z => PyData.eqv z d : Nat) : Int)) := fun H e Q q =>
  h H e _ fun d' v G2 H2 s X dv k => by
    subst s
    exact ⟨k.mono X.ok.e, ha.mono X.gg e.c H2 X.ok _ fun y G3 H3 X3 dy => ⟨y, d, ds, rfl, dp_mono (X3.gg.trans X3.ok.e) dv, dp_mono X3.ok.e dy, sl, sd, q _ G3 H3 (X.trans X3) (.int _)⟩⟩
theorem EvSW.to {S' : PyData → Prop} (h : EvSW K B te σ G S P) (f : ∀ d, S d → S' d) : EvSW K B te σ G S' P := fun H e Q q => h H e Q fun d v G2 H2 s X dv p => q d v G2 H2 (f d s) X dv p
/-! ### a dict of three things by their names, the first a plan whose glass is known -/
def DpWk (K : Fg) (G : Hp) (n1 n2 n3 : Str) (v : V) (d1 d2 : PyData) (rows : List PyData) : Prop := ∃ (p r : Addr) (v1 v2 : V) (xs : List V), v = .ref p ∧ G p = some (.dK [(Sum.inr n1, v1), (Sum.inr n2, v2), (Sum.inr n3, .ref r)]) ∧ Dp K G v1 d1 ∧ Dp K G v2 d2 ∧ G r = some (.lst xs) ∧ DpAll K G xs rows ∧ Gk K G v1 d1
theorem DpWk.wo {n1 n2 n3 : Str} {v : V} {d1 d2 : PyData} {rows : List PyData} (h : DpWk K G n1 n2 n3 v d1 d2 rows) : DpWo K G n1 n2 n3 v d1 d2 rows := by
  obtain ⟨p, r, v1, v2, xs, a, b, c, d, f, g, _⟩ := h
  exact ⟨p, r, v1, v2, xs, a, b, c, d, f, g⟩
def EvWk (K : Fg) (B : Bg) (te : TE) (σ : L2.St) (G : Hp) (n1 n2 n3 : Str) (d1 d2 : PyData) (rows : List PyData) : Prop := ∀ H, Ok K B G H → ∀ Q : VK, (∀ v G2 H2, Ext K B G H G2 H2 → DpWk K G2 n1 n2 n3 v d1 d2 rows → Q v H2) → te σ H Q
def RetWk (K : Fg) (B : Bg) (G H : Hp) (Q : VK) (n1 n2 n3 : Str) (d1 d2 : PyData) (rows : List PyData) : Prop := ∀ v G2 H2, Ext K B G H G2 H2 → DpWk K G2 n1 n2 n3 v d1 d2 rows → Q v H2
theorem RetWk.mono {n1 n2 n3 : Str} {d1 d2 : PyData} {rows : List PyData} {G1 H1 : Hp} {Q : VK} (X : Ext K B G H G1 H1) (h : RetWk K B G H Q n1 n2 n3 d1 d2 rows) : RetWk K B G1 H1 Q n1 n2 n3 d1 d2 rows := fun v G2 H2 X2 w => h v G2 H2 (X.trans X2) w
theorem st_retWk {n1 n2 n3 : Str} {d1 d2 : PyData} {rows : List PyData} (h : EvWk K B te σ G n1 n2 n3 d1 d2 rows) (e : Ok K B G H) (k : RetWk K B G H D.rt n1 n2 n3 d1 d2 rows) : tRet te D σ H := h H e _ k
theorem ew_dispK {n1 n2 n3 : Str} {d1 d2 : PyData} {rows : List PyData} {t1 t2 t3 : TE} (h1 : EvW K B t1 σ G d1 (Gk K)) (h2 : EvD K B t2 σ G d2) (h3 : EvF K B t3 σ G rows) (n12 : n1 ≠ n2) (n13 : n1 ≠ n3) (n23 : n2 ≠ n3) : EvWk K B (tDisp [(tC (.str n1), t1), (tC (.str n2), t2), (tC (.str n3), t3)]) σ G n1 n2 n3 d1 d2 rows := fun H e Q q p free => by
  have lo : Ext K B G H G (upd H p (.dK [])) := Ext.loose e free
  have off := e.b.ne free
  refine h1 _ lo.ok _ fun d0 va Ga Ha sa Xa da ka => h2.mono Xa.gg e.c Ha Xa.ok _ fun vb Gb Hb Xb db => h3.mono (Xa.gg.trans Xb.gg) e.c Hb Xb.ok _ fun r xs Gc Hc Xc rn rg rb rl rx => ?_
  subst sa
  have Xf := Xc.freeze rn rg rb rl
  have ef : Ex Gc (upd Gc r (.lst xs)) := Ex.new rg
  have lr : (upd Gc r (.lst xs)) r = some (.lst xs) := upd_same
  have xr := dpAll_mono ef rx
  have eb := Xc.gg.trans ef
  generalize upd Gc r (.lst xs) = Gd at Xf lr xr eb
  have Z := Xa.trans (Xb.trans Xf)
  have grown : LoD K B G H Gd Hc p [] := ⟨lo.trans Z, free, Z.fr p _ upd_same (e.e.off free), off, Z.hh p _ off upd_same⟩
  have all3 : mergeK [] [((Sum.inr n1 : L2.Key), va), (Sum.inr n2, vb), (Sum.inr n3, V.ref r)] = [((Sum.inr n1 : L2.Key), va), (Sum.inr n2, vb), (Sum.inr n3, V.ref r)] := merge_new (acc := []) (by simp [n12, n13, n23])
  refine ⟨grown.h, [(Sum.inr n1, va), (Sum.inr n2, vb), (Sum.inr n3, .ref r)], rfl, Nat.le_of_ble_eq_true rfl, ?_⟩
  rw [all3]
  have fz := (grown.put [((Sum.inr n1 : L2.Key), va), (Sum.inr n2, vb), (Sum.inr n3, V.ref r)]).frz
  have eg : Ex Gd (upd Gd p (.dK [((Sum.inr n1 : L2.Key), va), (Sum.inr n2, vb), (Sum.inr n3, V.ref r)])) := Ex.new grown.g
  exact q (.ref p) _ _ fz ⟨p, r, va, vb, xs, rfl, upd_same, dp_mono ((Xb.gg.trans eb).trans eg) da, dp_mono (eb.trans eg) db, eg _ _ lr, dpAll_mono eg xr, ka.mono ((Xb.gg.trans eb).trans eg)⟩
/-- w["plan"] of a call -/
theorem ek_wo1 {n1 n2 n3 : Str} {d1 d2 : PyData} {rows : List PyData} (h : EvWk K B te σ G n1 n2 n3 d1 d2 rows) : EvW K B (tDGet te (tC (.str n1))) σ G d1 (Gk K) := fun H e Q q =>
  h H e _ fun v G2 H2 X w => by
    obtain ⟨p, r, v1, v2, xs, rfl, hp, a1, a2, hr, ax, gk⟩ := w
    have z := DGet.k (k := Sum.inr n1) (X.ok.e _ _ hp)
    rw [val_1] at z
    exact ⟨p, v1, rfl, z, q d1 v1 G2 H2 rfl X a1 gk⟩
theorem Rai.mono {G0 H0 : Hp} {E : XK} {C : Addr} (X : Ext K B G H G0 H0) (h : Rai K B G H E C) : Rai K B G0 H0 E C := fun G2 H2 Y => h G2 H2 (X.trans Y)
theorem ekw_call {sp : Sp} {dvs : List V} {E : XK} (ha : EvA K B tr σ G ds) (hs : ∀ vs G2 H2, Ex G G2 → Ok K B G2 H2 → DpAll K G2 vs ds → ∀ Q, RetSW K B G2 H2 Q S P → sp (vs ++ dvs) H2 Q E) : EvSW K B (tCall sp dvs E tr) σ G S P := fun H e Q q =>
  ha H e _ fun vs G2 H2 X dv => hs vs G2 H2 X.gg X.ok dv Q (RetSW.mono X q)
end
end Lw

namespace Lw
open PySem.Spec PySem L2 PyProof.Rows
open Evl (Ex Ex.refl Ex.trans Ex.new Ex.off ex_rd ex_l ex_t)
/-! ### own errors without a field, over LookupError or IndexError -/
def plB (K : Fg) (C : Addr) (bm : List Value) (n : String) : Bool := PySem.W.excIn K C bm n && (PySem.W.keepIn K (.ref C) && (decide (PySem.W.subIn K (.ref C) (.type "BaseException") = some true) && decide (PySem.W.typeIn K (.ref C) = some (.type "type"))))
theorem plB_ok {K : Fg} {C : Addr} {bm : List Value} {n : String} (h : plB K C bm n = true) : PySem.W.excIn K C bm n = true ∧ PySem.W.keepIn K (.ref C) = true ∧ PySem.W.subIn K (.ref C) (.type "BaseException") = some true ∧ PySem.W.typeIn K (.ref C) = some (.type "type") := by
  unfold plB at h
  rw [Bool.and_eq_true, Bool.and_eq_true, Bool.and_eq_true] at h
  exact ⟨h.1, h.2.1, of_decide_eq_true h.2.2.1, of_decide_eq_true h.2.2.2⟩
end Lw


namespace K30
open PySem.Spec PySem L2 PyProof.Rows Lw
open Evl (Ex Ex.refl Ex.trans Ex.new Ex.off ex_rd ex_l ex_t)
set_option maxHeartbeats 0
def top (i : Nat) : Stmt := PySem.Challenge.pw_leadlight_k30_glass_set_and_broken.main.body.getD i (.Pass ⟨0, 0, 0, 0⟩)
abbrev s_check_turn : Stmt := top 22
def d_check_turn : He.DefD := ⟨("check_turn", none), "check_turn", "check_turn", defArgs s_check_turn, defBody s_check_turn, defScope s_check_turn, [], []⟩
abbrev s_is_size : Stmt := top 23
def d_is_size : He.DefD := ⟨("is_size", none), "is_size", "is_size", defArgs s_is_size, defBody s_is_size, defScope s_is_size, [], []⟩
abbrev s_check_size : Stmt := top 24
def d_check_size : He.DefD := ⟨("check_size", none), "check_size", "check_size", defArgs s_check_size, defBody s_check_size, defScope s_check_size, [], []⟩
abbrev s_is_point : Stmt := top 25
def d_is_point : He.DefD := ⟨("is_point", none), "is_point", "is_point", defArgs s_is_point, defBody s_is_point, defScope s_is_point, [], []⟩
abbrev s_step : Stmt := top 26
def d_step : He.DefD := ⟨("step", none), "step", "step", defArgs s_step, defBody s_step, defScope s_step, [.int 1], []⟩
abbrev s_is_frame : Stmt := top 27
def d_is_frame : He.DefD := ⟨("is_frame", none), "is_frame", "is_frame", defArgs s_is_frame, defBody s_is_frame, defScope s_is_frame, [], []⟩
abbrev s_stays : Stmt := top 28
def d_stays : He.DefD := ⟨("stays", none), "stays", "stays", defArgs s_stays, defBody s_stays, defScope s_stays, [], []⟩
abbrev s_all_leads : Stmt := top 29
def d_all_leads : He.DefD := ⟨("all_leads", none), "all_leads", "all_leads", defArgs s_all_leads, defBody s_all_leads, defScope s_all_leads, [], []⟩
abbrev s_frame : Stmt := top 30
def d_frame : He.DefD := ⟨("frame", none), "frame", "frame", defArgs s_frame, defBody s_frame, defScope s_frame, [], []⟩
abbrev s_count_quarters : Stmt := top 32
def d_count_quarters : He.DefD := ⟨("count_quarters", none), "count_quarters", "count_quarters", defArgs s_count_quarters, defBody s_count_quarters, defScope s_count_quarters, [], []⟩
abbrev s_place_of : Stmt := top 33
def d_place_of : He.DefD := ⟨("place_of", none), "place_of", "place_of", defArgs s_place_of, defBody s_place_of, defScope s_place_of, [], []⟩
abbrev s_quarter_at : Stmt := top 34
def d_quarter_at : He.DefD := ⟨("quarter_at", none), "quarter_at", "quarter_at", defArgs s_quarter_at, defBody s_quarter_at, defScope s_quarter_at, [], []⟩
abbrev s_leads_of : Stmt := top 35
def d_leads_of : He.DefD := ⟨("leads_of", none), "leads_of", "leads_of", defArgs s_leads_of, defBody s_leads_of, defScope s_leads_of, [], []⟩
abbrev s_lying : Stmt := top 36
def d_lying : He.DefD := ⟨("lying", none), "lying", "lying", defArgs s_lying, defBody s_lying, defScope s_lying, [], []⟩
abbrev s_side_lead : Stmt := top 41
def d_side_lead : He.DefD := ⟨("side_lead", none), "side_lead", "side_lead", defArgs s_side_lead, defBody s_side_lead, defScope s_side_lead, [], []⟩
abbrev s_slant_behind : Stmt := top 42
def d_slant_behind : He.DefD := ⟨("slant_behind", none), "slant_behind", "slant_behind", defArgs s_slant_behind, defBody s_slant_behind, defScope s_slant_behind, [], []⟩
abbrev s_tied_to : Stmt := top 43
def d_tied_to : He.DefD := ⟨("tied_to", none), "tied_to", "tied_to", defArgs s_tied_to, defBody s_tied_to, defScope s_tied_to, [], []⟩
abbrev s_fill : Stmt := top 44
def d_fill : He.DefD := ⟨("fill", none), "fill", "fill", defArgs s_fill, defBody s_fill, defScope s_fill, [], []⟩
abbrev s_names : Stmt := top 45
def d_names : He.DefD := ⟨("names", none), "names", "names", defArgs s_names, defBody s_names, defScope s_names, [], []⟩
abbrev s_check_colour : Stmt := top 47
def d_check_colour : He.DefD := ⟨("check_colour", none), "check_colour", "check_colour", defArgs s_check_colour, defBody s_check_colour, defScope s_check_colour, [], []⟩
abbrev s_coloured : Stmt := top 48
def d_coloured : He.DefD := ⟨("coloured", none), "coloured", "coloured", defArgs s_coloured, defBody s_coloured, defScope s_coloured, [], []⟩
abbrev s_glazed : Stmt := top 49
def d_glazed : He.DefD := ⟨("glazed", none), "glazed", "glazed", defArgs s_glazed, defBody s_glazed, defScope s_glazed, [.int 1], []⟩
abbrev s_shattered : Stmt := top 50
def d_shattered : He.DefD := ⟨("shattered", none), "shattered", "shattered", defArgs s_shattered, defBody s_shattered, defScope s_shattered, [], []⟩
abbrev s_used : Stmt := top 51
def d_used : He.DefD := ⟨("used", none), "used", "used", defArgs s_used, defBody s_used, defScope s_used, [], []⟩
abbrev s__law_bag : Stmt := top 53
def d__law_bag : He.DefD := ⟨("_law_bag", none), "_law_bag", "_law_bag", defArgs s__law_bag, defBody s__law_bag, defScope s__law_bag, [], []⟩
abbrev s__law_pull : Stmt := top 54
def d__law_pull : He.DefD := ⟨("_law_pull", none), "_law_pull", "_law_pull", defArgs s__law_pull, defBody s__law_pull, defScope s__law_pull, [], []⟩
abbrev s__law_whole : Stmt := top 55
def d__law_whole : He.DefD := ⟨("_law_whole", none), "_law_whole", "_law_whole", defArgs s__law_whole, defBody s__law_whole, defScope s__law_whole, [], []⟩
abbrev s__law_same : Stmt := top 56
def d__law_same : He.DefD := ⟨("_law_same", none), "_law_same", "_law_same", defArgs s__law_same, defBody s__law_same, defScope s__law_same, [], []⟩
abbrev s__law_go : Stmt := top 57
def d__law_go : He.DefD := ⟨("_law_go", none), "_law_go", "_law_go", defArgs s__law_go, defBody s__law_go, defScope s__law_go, [], []⟩
abbrev s__law_name : Stmt := top 58
def d__law_name : He.DefD := ⟨("_law_name", none), "_law_name", "_law_name", defArgs s__law_name, defBody s__law_name, defScope s__law_name, [], []⟩
abbrev s__law_tips : Stmt := top 59
def d__law_tips : He.DefD := ⟨("_law_tips", none), "_law_tips", "_law_tips", defArgs s__law_tips, defBody s__law_tips, defScope s__law_tips, [], []⟩
abbrev s__law_on : Stmt := top 60
def d__law_on : He.DefD := ⟨("_law_on", none), "_law_on", "_law_on", defArgs s__law_on, defBody s__law_on, defScope s__law_on, [], []⟩
abbrev s__law_rim : Stmt := top 61
def d__law_rim : He.DefD := ⟨("_law_rim", none), "_law_rim", "_law_rim", defArgs s__law_rim, defBody s__law_rim, defScope s__law_rim, [], []⟩
abbrev s__law_all : Stmt := top 62
def d__law_all : He.DefD := ⟨("_law_all", none), "_law_all", "_law_all", defArgs s__law_all, defBody s__law_all, defScope s__law_all, [], []⟩
abbrev s__law_within : Stmt := top 63
def d__law_within : He.DefD := ⟨("_law_within", none), "_law_within", "_law_within", defArgs s__law_within, defBody s__law_within, defScope s__law_within, [], []⟩
abbrev s__law_over : Stmt := top 64
def d__law_over : He.DefD := ⟨("_law_over", none), "_law_over", "_law_over", defArgs s__law_over, defBody s__law_over, defScope s__law_over, [], []⟩
abbrev s__law_joined : Stmt := top 65
def d__law_joined : He.DefD := ⟨("_law_joined", none), "_law_joined", "_law_joined", defArgs s__law_joined, defBody s__law_joined, defScope s__law_joined, [], []⟩
abbrev s__law_slant : Stmt := top 66
def d__law_slant : He.DefD := ⟨("_law_slant", none), "_law_slant", "_law_slant", defArgs s__law_slant, defBody s__law_slant, defScope s__law_slant, [], []⟩
abbrev s__law_cell_pairs : Stmt := top 67
def d__law_cell_pairs : He.DefD := ⟨("_law_cell_pairs", none), "_law_cell_pairs", "_law_cell_pairs", defArgs s__law_cell_pairs, defBody s__law_cell_pairs, defScope s__law_cell_pairs, [], []⟩
abbrev s__law_panes : Stmt := top 68
def d__law_panes : He.DefD := ⟨("_law_panes", none), "_law_panes", "_law_panes", defArgs s__law_panes, defBody s__law_panes, defScope s__law_panes, [], []⟩
abbrev s__law_size : Stmt := top 69
def d__law_size : He.DefD := ⟨("_law_size", none), "_law_size", "_law_size", defArgs s__law_size, defBody s__law_size, defScope s__law_size, [], []⟩
abbrev s__law_some : Stmt := top 70
def d__law_some : He.DefD := ⟨("_law_some", none), "_law_some", "_law_some", defArgs s__law_some, defBody s__law_some, defScope s__law_some, [], []⟩
abbrev s__law_glass : Stmt := top 71
def d__law_glass : He.DefD := ⟨("_law_glass", none), "_law_glass", "_law_glass", defArgs s__law_glass, defBody s__law_glass, defScope s__law_glass, [], []⟩
abbrev s__law_leaded : Stmt := top 72
def d__law_leaded : He.DefD := ⟨("_law_leaded", none), "_law_leaded", "_law_leaded", defArgs s__law_leaded, defBody s__law_leaded, defScope s__law_leaded, [], []⟩
abbrev s__law_plan : Stmt := top 73
def d__law_plan : He.DefD := ⟨("_law_plan", none), "_law_plan", "_law_plan", defArgs s__law_plan, defBody s__law_plan, defScope s__law_plan, [], []⟩
abbrev s__law_settled : Stmt := top 74
def d__law_settled : He.DefD := ⟨("_law_settled", none), "_law_settled", "_law_settled", defArgs s__law_settled, defBody s__law_settled, defScope s__law_settled, [], []⟩
abbrev s__law_row : Stmt := top 75
def d__law_row : He.DefD := ⟨("_law_row", none), "_law_row", "_law_row", defArgs s__law_row, defBody s__law_row, defScope s__law_row, [], []⟩
abbrev s__law_glass_word : Stmt := top 76
def d__law_glass_word : He.DefD := ⟨("_law_glass_word", none), "_law_glass_word", "_law_glass_word", defArgs s__law_glass_word, defBody s__law_glass_word, defScope s__law_glass_word, [], []⟩
abbrev s__law_dyed : Stmt := top 77
def d__law_dyed : He.DefD := ⟨("_law_dyed", none), "_law_dyed", "_law_dyed", defArgs s__law_dyed, defBody s__law_dyed, defScope s__law_dyed, [], []⟩
abbrev s__law_world : Stmt := top 78
def d__law_world : He.DefD := ⟨("_law_world", none), "_law_world", "_law_world", defArgs s__law_world, defBody s__law_world, defScope s__law_world, [], []⟩
abbrev s__law_after : Stmt := top 79
def d__law_after : He.DefD := ⟨("_law_after", none), "_law_after", "_law_after", defArgs s__law_after, defBody s__law_after, defScope s__law_after, [], []⟩
abbrev s__law_class : Stmt := top 80
def d__law_class : He.DefD := ⟨("_law_class", none), "_law_class", "_law_class", defArgs s__law_class, defBody s__law_class, defScope s__law_class, [], []⟩
abbrev s__law_asked : Stmt := top 81
def d__law_asked : He.DefD := ⟨("_law_asked", none), "_law_asked", "_law_asked", defArgs s__law_asked, defBody s__law_asked, defScope s__law_asked, [], []⟩
abbrev s__law_said : Stmt := top 82
def d__law_said : He.DefD := ⟨("_law_said", none), "_law_said", "_law_said", defArgs s__law_said, defBody s__law_said, defScope s__law_said, [], []⟩
abbrev s_law : Stmt := top 83
def d_law : He.DefD := ⟨("law", none), "law", "law", defArgs s_law, defBody s_law, defScope s_law, [], []⟩
abbrev s_AtStep_init : Stmt := mth (top 10) 0
def d_AtStep_init : He.DefD := ⟨("AtStep", some "__init__"), "__init__", "AtStep.__init__", defArgs s_AtStep_init, defBody s_AtStep_init, defScope s_AtStep_init, [], []⟩
abbrev s_NoLead_init : Stmt := mth (top 16) 0
def d_NoLead_init : He.DefD := ⟨("NoLead", some "__init__"), "__init__", "NoLead.__init__", defArgs s_NoLead_init, defBody s_NoLead_init, defScope s_NoLead_init, [], []⟩
def fn : List He.DefD := [d_check_turn, d_is_size, d_check_size, d_is_point, d_step, d_is_frame, d_stays, d_all_leads, d_frame, d_count_quarters, d_place_of, d_quarter_at, d_leads_of, d_lying, d_side_lead, d_slant_behind, d_tied_to, d_fill, d_names, d_check_colour, d_coloured, d_glazed, d_shattered, d_used, d__law_bag, d__law_pull, d__law_whole, d__law_same, d__law_go, d__law_name, d__law_tips, d__law_on, d__law_rim, d__law_all, d__law_within, d__law_over, d__law_joined, d__law_slant, d__law_cell_pairs, d__law_panes, d__law_size, d__law_some, d__law_glass, d__law_leaded, d__law_plan, d__law_settled, d__law_row, d__law_glass_word, d__law_dyed, d__law_world, d__law_after, d__law_class, d__law_asked, d__law_said, d_law, d_AtStep_init, d_NoLead_init]
def fa0 : List He.Fa := [.glo "LeadError", .glo "BadSize", .glo "BadPoint", .glo "BadTurn", .glo "BadMany", .glo "BadQuarter", .glo "BadColour", .glo "Glazed", .glo "Full", .glo "AtStep", .glo "Off", .glo "Taken", .glo "Crossing", .glo "Framed", .glo "Missing", .glo "NoLead", .glo "NoGlass", .glo "RIGHT", .glo "DOWN", .glo "check_turn", .glo "is_size", .glo "check_size", .glo "is_point", .glo "step", .glo "is_frame", .glo "stays", .glo "all_leads", .glo "frame", .glo "count_quarters", .glo "place_of"]
def fa1 : List He.Fa := [.glo "quarter_at", .glo "leads_of", .glo "lying", .glo "SIDE_LEADS", .glo "SIDE_TURNS", .glo "side_lead", .glo "slant_behind", .glo "tied_to", .glo "fill", .glo "names", .glo "check_colour", .glo "coloured", .glo "glazed", .glo "shattered", .glo "used", .glo "_law_bag", .glo "_law_pull", .glo "_law_whole", .glo "_law_same", .glo "_law_go", .glo "_law_name", .glo "_law_tips", .glo "_law_on", .glo "_law_rim", .glo "_law_all", .glo "_law_within", .glo "_law_over", .glo "_law_joined", .glo "_law_slant", .glo "_law_cell_pairs"]
def fa2 : List He.Fa := [.glo "_law_panes", .glo "_law_size", .glo "_law_some", .glo "_law_glass", .glo "_law_leaded", .glo "_law_plan", .glo "_law_settled", .glo "_law_row", .glo "_law_glass_word", .glo "_law_dyed", .glo "_law_world", .glo "_law_after", .glo "_law_class", .glo "_law_asked", .glo "_law_said", .glo "law", .free "LookupError", .free "ValueError", .free "all", .free "bool", .free "int", .free "isinstance", .free "len", .free "list", .free "max", .free "min", .free "range", .free "set", .free "sorted", .free "str"]
def fa3 : List He.Fa := [.free "tuple", .free "zip", .int "LARGEST" 9, .int "UNKNOWN" (-1), .exc "LeadError", .exc "BadSize", .exc "BadPoint", .exc "BadTurn", .exc "BadMany", .exc "BadQuarter", .exc "BadColour", .exc "Glazed", .exc "Full"]
def fa : List He.Fa := fa0 ++ fa1 ++ fa2 ++ fa3
def ts : List He.Tab := []
def exL (K : PySem.W.Frag) : List Bool := [He.tupB K "RIGHT" [.int 1, .int 1, .int 0, .int (-1), .int (-1), .int (-1), .int 0, .int 1],
  He.tupB K "DOWN" [.int 0, .int 1, .int 1, .int 1, .int 0, .int (-1), .int (-1), .int (-1)],
  He.tupB K "SIDE_TURNS" [.int 6, .int 0, .int 2, .int 4],
  tup2B K "SIDE_LEADS" [[0, 0, 0], [1, 0, 2], [0, 1, 0], [0, 0, 2]],
  decide (PySem.W.exmOne K (.ref (He.ga K "BadSize")) (.ref (He.ga K "LeadError")) = some true),
  decide (PySem.W.kitOne K (.ref (He.ga K "BadSize")) (.ref (He.ga K "LeadError")) = some true),
  decide (PySem.W.exmOne K (.ref (He.ga K "BadSize")) (.ref (He.ga K "BadPoint")) = some false),
  decide (PySem.W.kitOne K (.ref (He.ga K "BadSize")) (.ref (He.ga K "BadPoint")) = some false),
  decide (PySem.W.exmOne K (.ref (He.ga K "BadSize")) (.ref (He.ga K "BadTurn")) = some false),
  decide (PySem.W.kitOne K (.ref (He.ga K "BadSize")) (.ref (He.ga K "BadTurn")) = some false),
  decide (PySem.W.exmOne K (.ref (He.ga K "BadSize")) (.ref (He.ga K "BadMany")) = some false),
  decide (PySem.W.kitOne K (.ref (He.ga K "BadSize")) (.ref (He.ga K "BadMany")) = some false),
  decide (PySem.W.exmOne K (.ref (He.ga K "BadSize")) (.ref (He.ga K "BadQuarter")) = some false),
  decide (PySem.W.kitOne K (.ref (He.ga K "BadSize")) (.ref (He.ga K "BadQuarter")) = some false),
  decide (PySem.W.exmOne K (.ref (He.ga K "BadSize")) (.ref (He.ga K "BadColour")) = some false),
  decide (PySem.W.kitOne K (.ref (He.ga K "BadSize")) (.ref (He.ga K "BadColour")) = some false),
  decide (PySem.W.exmOne K (.ref (He.ga K "BadSize")) (.ref (He.ga K "Glazed")) = some false),
  decide (PySem.W.kitOne K (.ref (He.ga K "BadSize")) (.ref (He.ga K "Glazed")) = some false),
  decide (PySem.W.exmOne K (.ref (He.ga K "BadSize")) (.ref (He.ga K "Full")) = some false),
  decide (PySem.W.kitOne K (.ref (He.ga K "BadSize")) (.ref (He.ga K "Full")) = some false),
  decide (PySem.W.exmOne K (.ref (He.ga K "BadSize")) (.ref (He.ga K "Off")) = some false),
  decide (PySem.W.kitOne K (.ref (He.ga K "BadSize")) (.ref (He.ga K "Off")) = some false),
  decide (PySem.W.exmOne K (.ref (He.ga K "BadSize")) (.ref (He.ga K "Taken")) = some false),
  decide (PySem.W.kitOne K (.ref (He.ga K "BadSize")) (.ref (He.ga K "Taken")) = some false),
  decide (PySem.W.exmOne K (.ref (He.ga K "BadSize")) (.ref (He.ga K "Crossing")) = some false),
  decide (PySem.W.kitOne K (.ref (He.ga K "BadSize")) (.ref (He.ga K "Crossing")) = some false),
  decide (PySem.W.exmOne K (.ref (He.ga K "BadSize")) (.ref (He.ga K "Framed")) = some false),
  decide (PySem.W.kitOne K (.ref (He.ga K "BadSize")) (.ref (He.ga K "Framed")) = some false),
  decide (PySem.W.exmOne K (.ref (He.ga K "BadSize")) (.ref (He.ga K "Missing")) = some false),
  decide (PySem.W.kitOne K (.ref (He.ga K "BadSize")) (.ref (He.ga K "Missing")) = some false),
  decide (PySem.W.exmOne K (.ref (He.ga K "BadSize")) (.ref (He.ga K "NoLead")) = some false),
  decide (PySem.W.kitOne K (.ref (He.ga K "BadSize")) (.ref (He.ga K "NoLead")) = some false),
  decide (PySem.W.exmOne K (.ref (He.ga K "BadSize")) (.ref (He.ga K "NoGlass")) = some false),
  decide (PySem.W.kitOne K (.ref (He.ga K "BadSize")) (.ref (He.ga K "NoGlass")) = some false),
  decide (PySem.W.kitOne K (.ref (He.ga K "BadSize")) (.type "ValueError") = some true),
  decide (PySem.W.kitOne K (.ref (He.ga K "BadSize")) (.type "LookupError") = some false),
  excCB K (He.ga K "BadSize"),
  decide (PySem.W.exmOne K (.ref (He.ga K "BadTurn")) (.ref (He.ga K "LeadError")) = some true),
  decide (PySem.W.kitOne K (.ref (He.ga K "BadTurn")) (.ref (He.ga K "LeadError")) = some true),
  decide (PySem.W.exmOne K (.ref (He.ga K "BadTurn")) (.ref (He.ga K "BadPoint")) = some false),
  decide (PySem.W.kitOne K (.ref (He.ga K "BadTurn")) (.ref (He.ga K "BadPoint")) = some false),
  decide (PySem.W.exmOne K (.ref (He.ga K "BadTurn")) (.ref (He.ga K "BadTurn")) = some true),
  decide (PySem.W.kitOne K (.ref (He.ga K "BadTurn")) (.ref (He.ga K "BadTurn")) = some true),
  decide (PySem.W.exmOne K (.ref (He.ga K "BadTurn")) (.ref (He.ga K "BadMany")) = some false),
  decide (PySem.W.kitOne K (.ref (He.ga K "BadTurn")) (.ref (He.ga K "BadMany")) = some false),
  decide (PySem.W.exmOne K (.ref (He.ga K "BadTurn")) (.ref (He.ga K "BadQuarter")) = some false),
  decide (PySem.W.kitOne K (.ref (He.ga K "BadTurn")) (.ref (He.ga K "BadQuarter")) = some false),
  decide (PySem.W.exmOne K (.ref (He.ga K "BadTurn")) (.ref (He.ga K "BadColour")) = some false),
  decide (PySem.W.kitOne K (.ref (He.ga K "BadTurn")) (.ref (He.ga K "BadColour")) = some false),
  decide (PySem.W.exmOne K (.ref (He.ga K "BadTurn")) (.ref (He.ga K "Glazed")) = some false),
  decide (PySem.W.kitOne K (.ref (He.ga K "BadTurn")) (.ref (He.ga K "Glazed")) = some false),
  decide (PySem.W.exmOne K (.ref (He.ga K "BadTurn")) (.ref (He.ga K "Full")) = some false),
  decide (PySem.W.kitOne K (.ref (He.ga K "BadTurn")) (.ref (He.ga K "Full")) = some false),
  decide (PySem.W.exmOne K (.ref (He.ga K "BadTurn")) (.ref (He.ga K "Off")) = some false),
  decide (PySem.W.kitOne K (.ref (He.ga K "BadTurn")) (.ref (He.ga K "Off")) = some false),
  decide (PySem.W.exmOne K (.ref (He.ga K "BadTurn")) (.ref (He.ga K "Taken")) = some false),
  decide (PySem.W.kitOne K (.ref (He.ga K "BadTurn")) (.ref (He.ga K "Taken")) = some false),
  decide (PySem.W.exmOne K (.ref (He.ga K "BadTurn")) (.ref (He.ga K "Crossing")) = some false),
  decide (PySem.W.kitOne K (.ref (He.ga K "BadTurn")) (.ref (He.ga K "Crossing")) = some false),
  decide (PySem.W.exmOne K (.ref (He.ga K "BadTurn")) (.ref (He.ga K "Framed")) = some false),
  decide (PySem.W.kitOne K (.ref (He.ga K "BadTurn")) (.ref (He.ga K "Framed")) = some false),
  decide (PySem.W.exmOne K (.ref (He.ga K "BadTurn")) (.ref (He.ga K "Missing")) = some false),
  decide (PySem.W.kitOne K (.ref (He.ga K "BadTurn")) (.ref (He.ga K "Missing")) = some false),
  decide (PySem.W.exmOne K (.ref (He.ga K "BadTurn")) (.ref (He.ga K "NoLead")) = some false),
  decide (PySem.W.kitOne K (.ref (He.ga K "BadTurn")) (.ref (He.ga K "NoLead")) = some false),
  decide (PySem.W.exmOne K (.ref (He.ga K "BadTurn")) (.ref (He.ga K "NoGlass")) = some false),
  decide (PySem.W.kitOne K (.ref (He.ga K "BadTurn")) (.ref (He.ga K "NoGlass")) = some false),
  decide (PySem.W.kitOne K (.ref (He.ga K "BadTurn")) (.type "ValueError") = some true),
  decide (PySem.W.kitOne K (.ref (He.ga K "BadTurn")) (.type "LookupError") = some false),
  excCB K (He.ga K "BadTurn"),
  decide (PySem.W.exmOne K (.ref (He.ga K "BadQuarter")) (.ref (He.ga K "LeadError")) = some true),
  decide (PySem.W.kitOne K (.ref (He.ga K "BadQuarter")) (.ref (He.ga K "LeadError")) = some true),
  decide (PySem.W.exmOne K (.ref (He.ga K "BadQuarter")) (.ref (He.ga K "BadPoint")) = some false),
  decide (PySem.W.kitOne K (.ref (He.ga K "BadQuarter")) (.ref (He.ga K "BadPoint")) = some false),
  decide (PySem.W.exmOne K (.ref (He.ga K "BadQuarter")) (.ref (He.ga K "BadTurn")) = some false),
  decide (PySem.W.kitOne K (.ref (He.ga K "BadQuarter")) (.ref (He.ga K "BadTurn")) = some false),
  decide (PySem.W.exmOne K (.ref (He.ga K "BadQuarter")) (.ref (He.ga K "BadMany")) = some false),
  decide (PySem.W.kitOne K (.ref (He.ga K "BadQuarter")) (.ref (He.ga K "BadMany")) = some false),
  decide (PySem.W.exmOne K (.ref (He.ga K "BadQuarter")) (.ref (He.ga K "BadQuarter")) = some true),
  decide (PySem.W.kitOne K (.ref (He.ga K "BadQuarter")) (.ref (He.ga K "BadQuarter")) = some true),
  decide (PySem.W.exmOne K (.ref (He.ga K "BadQuarter")) (.ref (He.ga K "BadColour")) = some false),
  decide (PySem.W.kitOne K (.ref (He.ga K "BadQuarter")) (.ref (He.ga K "BadColour")) = some false),
  decide (PySem.W.exmOne K (.ref (He.ga K "BadQuarter")) (.ref (He.ga K "Glazed")) = some false),
  decide (PySem.W.kitOne K (.ref (He.ga K "BadQuarter")) (.ref (He.ga K "Glazed")) = some false),
  decide (PySem.W.exmOne K (.ref (He.ga K "BadQuarter")) (.ref (He.ga K "Full")) = some false),
  decide (PySem.W.kitOne K (.ref (He.ga K "BadQuarter")) (.ref (He.ga K "Full")) = some false),
  decide (PySem.W.exmOne K (.ref (He.ga K "BadQuarter")) (.ref (He.ga K "Off")) = some false),
  decide (PySem.W.kitOne K (.ref (He.ga K "BadQuarter")) (.ref (He.ga K "Off")) = some false),
  decide (PySem.W.exmOne K (.ref (He.ga K "BadQuarter")) (.ref (He.ga K "Taken")) = some false),
  decide (PySem.W.kitOne K (.ref (He.ga K "BadQuarter")) (.ref (He.ga K "Taken")) = some false),
  decide (PySem.W.exmOne K (.ref (He.ga K "BadQuarter")) (.ref (He.ga K "Crossing")) = some false),
  decide (PySem.W.kitOne K (.ref (He.ga K "BadQuarter")) (.ref (He.ga K "Crossing")) = some false),
  decide (PySem.W.exmOne K (.ref (He.ga K "BadQuarter")) (.ref (He.ga K "Framed")) = some false),
  decide (PySem.W.kitOne K (.ref (He.ga K "BadQuarter")) (.ref (He.ga K "Framed")) = some false),
  decide (PySem.W.exmOne K (.ref (He.ga K "BadQuarter")) (.ref (He.ga K "Missing")) = some false),
  decide (PySem.W.kitOne K (.ref (He.ga K "BadQuarter")) (.ref (He.ga K "Missing")) = some false),
  decide (PySem.W.exmOne K (.ref (He.ga K "BadQuarter")) (.ref (He.ga K "NoLead")) = some false),
  decide (PySem.W.kitOne K (.ref (He.ga K "BadQuarter")) (.ref (He.ga K "NoLead")) = some false),
  decide (PySem.W.exmOne K (.ref (He.ga K "BadQuarter")) (.ref (He.ga K "NoGlass")) = some false),
  decide (PySem.W.kitOne K (.ref (He.ga K "BadQuarter")) (.ref (He.ga K "NoGlass")) = some false),
  decide (PySem.W.kitOne K (.ref (He.ga K "BadQuarter")) (.type "ValueError") = some true),
  decide (PySem.W.kitOne K (.ref (He.ga K "BadQuarter")) (.type "LookupError") = some false),
  excCB K (He.ga K "BadQuarter"),
  decide (PySem.W.exmOne K (.ref (He.ga K "BadColour")) (.ref (He.ga K "LeadError")) = some true),
  decide (PySem.W.kitOne K (.ref (He.ga K "BadColour")) (.ref (He.ga K "LeadError")) = some true),
  decide (PySem.W.exmOne K (.ref (He.ga K "BadColour")) (.ref (He.ga K "BadPoint")) = some false),
  decide (PySem.W.kitOne K (.ref (He.ga K "BadColour")) (.ref (He.ga K "BadPoint")) = some false),
  decide (PySem.W.exmOne K (.ref (He.ga K "BadColour")) (.ref (He.ga K "BadTurn")) = some false),
  decide (PySem.W.kitOne K (.ref (He.ga K "BadColour")) (.ref (He.ga K "BadTurn")) = some false),
  decide (PySem.W.exmOne K (.ref (He.ga K "BadColour")) (.ref (He.ga K "BadMany")) = some false),
  decide (PySem.W.kitOne K (.ref (He.ga K "BadColour")) (.ref (He.ga K "BadMany")) = some false),
  decide (PySem.W.exmOne K (.ref (He.ga K "BadColour")) (.ref (He.ga K "BadQuarter")) = some false),
  decide (PySem.W.kitOne K (.ref (He.ga K "BadColour")) (.ref (He.ga K "BadQuarter")) = some false),
  decide (PySem.W.exmOne K (.ref (He.ga K "BadColour")) (.ref (He.ga K "BadColour")) = some true),
  decide (PySem.W.kitOne K (.ref (He.ga K "BadColour")) (.ref (He.ga K "BadColour")) = some true),
  decide (PySem.W.exmOne K (.ref (He.ga K "BadColour")) (.ref (He.ga K "Glazed")) = some false),
  decide (PySem.W.kitOne K (.ref (He.ga K "BadColour")) (.ref (He.ga K "Glazed")) = some false),
  decide (PySem.W.exmOne K (.ref (He.ga K "BadColour")) (.ref (He.ga K "Full")) = some false),
  decide (PySem.W.kitOne K (.ref (He.ga K "BadColour")) (.ref (He.ga K "Full")) = some false),
  decide (PySem.W.exmOne K (.ref (He.ga K "BadColour")) (.ref (He.ga K "Off")) = some false),
  decide (PySem.W.kitOne K (.ref (He.ga K "BadColour")) (.ref (He.ga K "Off")) = some false),
  decide (PySem.W.exmOne K (.ref (He.ga K "BadColour")) (.ref (He.ga K "Taken")) = some false),
  decide (PySem.W.kitOne K (.ref (He.ga K "BadColour")) (.ref (He.ga K "Taken")) = some false),
  decide (PySem.W.exmOne K (.ref (He.ga K "BadColour")) (.ref (He.ga K "Crossing")) = some false),
  decide (PySem.W.kitOne K (.ref (He.ga K "BadColour")) (.ref (He.ga K "Crossing")) = some false),
  decide (PySem.W.exmOne K (.ref (He.ga K "BadColour")) (.ref (He.ga K "Framed")) = some false),
  decide (PySem.W.kitOne K (.ref (He.ga K "BadColour")) (.ref (He.ga K "Framed")) = some false),
  decide (PySem.W.exmOne K (.ref (He.ga K "BadColour")) (.ref (He.ga K "Missing")) = some false),
  decide (PySem.W.kitOne K (.ref (He.ga K "BadColour")) (.ref (He.ga K "Missing")) = some false),
  decide (PySem.W.exmOne K (.ref (He.ga K "BadColour")) (.ref (He.ga K "NoLead")) = some false),
  decide (PySem.W.kitOne K (.ref (He.ga K "BadColour")) (.ref (He.ga K "NoLead")) = some false),
  decide (PySem.W.exmOne K (.ref (He.ga K "BadColour")) (.ref (He.ga K "NoGlass")) = some false),
  decide (PySem.W.kitOne K (.ref (He.ga K "BadColour")) (.ref (He.ga K "NoGlass")) = some false),
  decide (PySem.W.kitOne K (.ref (He.ga K "BadColour")) (.type "ValueError") = some true),
  decide (PySem.W.kitOne K (.ref (He.ga K "BadColour")) (.type "LookupError") = some false),
  excCB K (He.ga K "BadColour"),
  decide (PySem.W.exmOne K (.ref (He.ga K "Glazed")) (.ref (He.ga K "LeadError")) = some true),
  decide (PySem.W.kitOne K (.ref (He.ga K "Glazed")) (.ref (He.ga K "LeadError")) = some true),
  decide (PySem.W.exmOne K (.ref (He.ga K "Glazed")) (.ref (He.ga K "BadPoint")) = some false),
  decide (PySem.W.kitOne K (.ref (He.ga K "Glazed")) (.ref (He.ga K "BadPoint")) = some false),
  decide (PySem.W.exmOne K (.ref (He.ga K "Glazed")) (.ref (He.ga K "BadTurn")) = some false),
  decide (PySem.W.kitOne K (.ref (He.ga K "Glazed")) (.ref (He.ga K "BadTurn")) = some false),
  decide (PySem.W.exmOne K (.ref (He.ga K "Glazed")) (.ref (He.ga K "BadMany")) = some false),
  decide (PySem.W.kitOne K (.ref (He.ga K "Glazed")) (.ref (He.ga K "BadMany")) = some false),
  decide (PySem.W.exmOne K (.ref (He.ga K "Glazed")) (.ref (He.ga K "BadQuarter")) = some false),
  decide (PySem.W.kitOne K (.ref (He.ga K "Glazed")) (.ref (He.ga K "BadQuarter")) = some false),
  decide (PySem.W.exmOne K (.ref (He.ga K "Glazed")) (.ref (He.ga K "BadColour")) = some false),
  decide (PySem.W.kitOne K (.ref (He.ga K "Glazed")) (.ref (He.ga K "BadColour")) = some false),
  decide (PySem.W.exmOne K (.ref (He.ga K "Glazed")) (.ref (He.ga K "Glazed")) = some true),
  decide (PySem.W.kitOne K (.ref (He.ga K "Glazed")) (.ref (He.ga K "Glazed")) = some true),
  decide (PySem.W.exmOne K (.ref (He.ga K "Glazed")) (.ref (He.ga K "Full")) = some false),
  decide (PySem.W.kitOne K (.ref (He.ga K "Glazed")) (.ref (He.ga K "Full")) = some false),
  decide (PySem.W.exmOne K (.ref (He.ga K "Glazed")) (.ref (He.ga K "Off")) = some false),
  decide (PySem.W.kitOne K (.ref (He.ga K "Glazed")) (.ref (He.ga K "Off")) = some false),
  decide (PySem.W.exmOne K (.ref (He.ga K "Glazed")) (.ref (He.ga K "Taken")) = some false),
  decide (PySem.W.kitOne K (.ref (He.ga K "Glazed")) (.ref (He.ga K "Taken")) = some false),
  decide (PySem.W.exmOne K (.ref (He.ga K "Glazed")) (.ref (He.ga K "Crossing")) = some false),
  decide (PySem.W.kitOne K (.ref (He.ga K "Glazed")) (.ref (He.ga K "Crossing")) = some false),
  decide (PySem.W.exmOne K (.ref (He.ga K "Glazed")) (.ref (He.ga K "Framed")) = some false),
  decide (PySem.W.kitOne K (.ref (He.ga K "Glazed")) (.ref (He.ga K "Framed")) = some false),
  decide (PySem.W.exmOne K (.ref (He.ga K "Glazed")) (.ref (He.ga K "Missing")) = some false),
  decide (PySem.W.kitOne K (.ref (He.ga K "Glazed")) (.ref (He.ga K "Missing")) = some false),
  decide (PySem.W.exmOne K (.ref (He.ga K "Glazed")) (.ref (He.ga K "NoLead")) = some false),
  decide (PySem.W.kitOne K (.ref (He.ga K "Glazed")) (.ref (He.ga K "NoLead")) = some false),
  decide (PySem.W.exmOne K (.ref (He.ga K "Glazed")) (.ref (He.ga K "NoGlass")) = some false),
  decide (PySem.W.kitOne K (.ref (He.ga K "Glazed")) (.ref (He.ga K "NoGlass")) = some false),
  decide (PySem.W.kitOne K (.ref (He.ga K "Glazed")) (.type "ValueError") = some true),
  decide (PySem.W.kitOne K (.ref (He.ga K "Glazed")) (.type "LookupError") = some false),
  excCB K (He.ga K "Glazed"),
  decide (PySem.W.exmOne K (.ref (He.ga K "NoGlass")) (.ref (He.ga K "LeadError")) = some false),
  decide (PySem.W.kitOne K (.ref (He.ga K "NoGlass")) (.ref (He.ga K "LeadError")) = some false),
  decide (PySem.W.exmOne K (.ref (He.ga K "NoGlass")) (.ref (He.ga K "BadPoint")) = some false),
  decide (PySem.W.kitOne K (.ref (He.ga K "NoGlass")) (.ref (He.ga K "BadPoint")) = some false),
  decide (PySem.W.exmOne K (.ref (He.ga K "NoGlass")) (.ref (He.ga K "BadTurn")) = some false),
  decide (PySem.W.kitOne K (.ref (He.ga K "NoGlass")) (.ref (He.ga K "BadTurn")) = some false),
  decide (PySem.W.exmOne K (.ref (He.ga K "NoGlass")) (.ref (He.ga K "BadMany")) = some false),
  decide (PySem.W.kitOne K (.ref (He.ga K "NoGlass")) (.ref (He.ga K "BadMany")) = some false),
  decide (PySem.W.exmOne K (.ref (He.ga K "NoGlass")) (.ref (He.ga K "BadQuarter")) = some false),
  decide (PySem.W.kitOne K (.ref (He.ga K "NoGlass")) (.ref (He.ga K "BadQuarter")) = some false),
  decide (PySem.W.exmOne K (.ref (He.ga K "NoGlass")) (.ref (He.ga K "BadColour")) = some false),
  decide (PySem.W.kitOne K (.ref (He.ga K "NoGlass")) (.ref (He.ga K "BadColour")) = some false),
  decide (PySem.W.exmOne K (.ref (He.ga K "NoGlass")) (.ref (He.ga K "Glazed")) = some false),
  decide (PySem.W.kitOne K (.ref (He.ga K "NoGlass")) (.ref (He.ga K "Glazed")) = some false),
  decide (PySem.W.exmOne K (.ref (He.ga K "NoGlass")) (.ref (He.ga K "Full")) = some false),
  decide (PySem.W.kitOne K (.ref (He.ga K "NoGlass")) (.ref (He.ga K "Full")) = some false),
  decide (PySem.W.exmOne K (.ref (He.ga K "NoGlass")) (.ref (He.ga K "Off")) = some false),
  decide (PySem.W.kitOne K (.ref (He.ga K "NoGlass")) (.ref (He.ga K "Off")) = some false),
  decide (PySem.W.exmOne K (.ref (He.ga K "NoGlass")) (.ref (He.ga K "Taken")) = some false),
  decide (PySem.W.kitOne K (.ref (He.ga K "NoGlass")) (.ref (He.ga K "Taken")) = some false),
  decide (PySem.W.exmOne K (.ref (He.ga K "NoGlass")) (.ref (He.ga K "Crossing")) = some false),
  decide (PySem.W.kitOne K (.ref (He.ga K "NoGlass")) (.ref (He.ga K "Crossing")) = some false),
  decide (PySem.W.exmOne K (.ref (He.ga K "NoGlass")) (.ref (He.ga K "Framed")) = some false),
  decide (PySem.W.kitOne K (.ref (He.ga K "NoGlass")) (.ref (He.ga K "Framed")) = some false),
  decide (PySem.W.exmOne K (.ref (He.ga K "NoGlass")) (.ref (He.ga K "Missing")) = some true),
  decide (PySem.W.kitOne K (.ref (He.ga K "NoGlass")) (.ref (He.ga K "Missing")) = some true),
  decide (PySem.W.exmOne K (.ref (He.ga K "NoGlass")) (.ref (He.ga K "NoLead")) = some false),
  decide (PySem.W.kitOne K (.ref (He.ga K "NoGlass")) (.ref (He.ga K "NoLead")) = some false),
  decide (PySem.W.exmOne K (.ref (He.ga K "NoGlass")) (.ref (He.ga K "NoGlass")) = some true),
  decide (PySem.W.kitOne K (.ref (He.ga K "NoGlass")) (.ref (He.ga K "NoGlass")) = some true),
  decide (PySem.W.kitOne K (.ref (He.ga K "NoGlass")) (.type "ValueError") = some false),
  decide (PySem.W.kitOne K (.ref (He.ga K "NoGlass")) (.type "LookupError") = some true),
  excCB K (He.ga K "NoGlass"),
  plB K (He.ga K "NoGlass") leB "LookupError.__new__"]
def exB (K : PySem.W.Frag) : Bool := (exL K).all id
structure Txt (K : PySem.W.Frag) (mg : Str → Option Value) : Prop where
  ex : ∃ h : Heap, K.In h ∧ h.Ns mainGlobals mg
  c : He.SaysD fa fn K
  more : exB K = true

theorem Txt.of {K : PySem.W.Frag} {mg : Str → Option Value} {h : Heap} {w : World} (X : K.In h) (G : h.Ns mainGlobals mg) (c : He.SaysT fa fn ts w K) (m : exB K = true) : Txt K mg := ⟨⟨h, X, G⟩, c.d, m⟩
theorem Txt.at_ {K : PySem.W.Frag} {mg : Str → Option Value} (T : Txt K mg) (i : Nat) {b : Bool} (h : (exL K)[i]? = some b) : b = true := by
  have z := List.all_eq_true.mp (show (exL K).all id = true from T.more) b (List.mem_of_getElem? h)
  exact z
section
variable {K : PySem.W.Frag} {mg : Str → Option Value} (T : Txt K mg)
include T
theorem Txt.g_LeadError : mg "LeadError" = some (.ref (He.ga K "LeadError")) := by
  obtain ⟨h, X, G⟩ := T.ex
  exact He.glo_ok X G (T.c.fact 0 (f := .glo "LeadError") rfl)
theorem Txt.g_BadSize : mg "BadSize" = some (.ref (He.ga K "BadSize")) := by
  obtain ⟨h, X, G⟩ := T.ex
  exact He.glo_ok X G (T.c.fact 1 (f := .glo "BadSize") rfl)
theorem Txt.g_BadPoint : mg "BadPoint" = some (.ref (He.ga K "BadPoint")) := by
  obtain ⟨h, X, G⟩ := T.ex
  exact He.glo_ok X G (T.c.fact 2 (f := .glo "BadPoint") rfl)
theorem Txt.g_BadTurn : mg "BadTurn" = some (.ref (He.ga K "BadTurn")) := by
  obtain ⟨h, X, G⟩ := T.ex
  exact He.glo_ok X G (T.c.fact 3 (f := .glo "BadTurn") rfl)
theorem Txt.g_BadMany : mg "BadMany" = some (.ref (He.ga K "BadMany")) := by
  obtain ⟨h, X, G⟩ := T.ex
  exact He.glo_ok X G (T.c.fact 4 (f := .glo "BadMany") rfl)
theorem Txt.g_BadQuarter : mg "BadQuarter" = some (.ref (He.ga K "BadQuarter")) := by
  obtain ⟨h, X, G⟩ := T.ex
  exact He.glo_ok X G (T.c.fact 5 (f := .glo "BadQuarter") rfl)
theorem Txt.g_BadColour : mg "BadColour" = some (.ref (He.ga K "BadColour")) := by
  obtain ⟨h, X, G⟩ := T.ex
  exact He.glo_ok X G (T.c.fact 6 (f := .glo "BadColour") rfl)
theorem Txt.g_Glazed : mg "Glazed" = some (.ref (He.ga K "Glazed")) := by
  obtain ⟨h, X, G⟩ := T.ex
  exact He.glo_ok X G (T.c.fact 7 (f := .glo "Glazed") rfl)
theorem Txt.g_Full : mg "Full" = some (.ref (He.ga K "Full")) := by
  obtain ⟨h, X, G⟩ := T.ex
  exact He.glo_ok X G (T.c.fact 8 (f := .glo "Full") rfl)
theorem Txt.g_Off : mg "Off" = some (.ref (He.ga K "Off")) := by
  obtain ⟨h, X, G⟩ := T.ex
  exact He.glo_ok X G (T.c.fact 10 (f := .glo "Off") rfl)
theorem Txt.g_Taken : mg "Taken" = some (.ref (He.ga K "Taken")) := by
  obtain ⟨h, X, G⟩ := T.ex
  exact He.glo_ok X G (T.c.fact 11 (f := .glo "Taken") rfl)
theorem Txt.g_Crossing : mg "Crossing" = some (.ref (He.ga K "Crossing")) := by
  obtain ⟨h, X, G⟩ := T.ex
  exact He.glo_ok X G (T.c.fact 12 (f := .glo "Crossing") rfl)
theorem Txt.g_Framed : mg "Framed" = some (.ref (He.ga K "Framed")) := by
  obtain ⟨h, X, G⟩ := T.ex
  exact He.glo_ok X G (T.c.fact 13 (f := .glo "Framed") rfl)
theorem Txt.g_Missing : mg "Missing" = some (.ref (He.ga K "Missing")) := by
  obtain ⟨h, X, G⟩ := T.ex
  exact He.glo_ok X G (T.c.fact 14 (f := .glo "Missing") rfl)
theorem Txt.g_NoLead : mg "NoLead" = some (.ref (He.ga K "NoLead")) := by
  obtain ⟨h, X, G⟩ := T.ex
  exact He.glo_ok X G (T.c.fact 15 (f := .glo "NoLead") rfl)
theorem Txt.g_NoGlass : mg "NoGlass" = some (.ref (He.ga K "NoGlass")) := by
  obtain ⟨h, X, G⟩ := T.ex
  exact He.glo_ok X G (T.c.fact 16 (f := .glo "NoGlass") rfl)
theorem Txt.g_RIGHT : mg "RIGHT" = some (.ref (He.ga K "RIGHT")) := by
  obtain ⟨h, X, G⟩ := T.ex
  exact He.glo_ok X G (T.c.fact 17 (f := .glo "RIGHT") rfl)
theorem Txt.g_DOWN : mg "DOWN" = some (.ref (He.ga K "DOWN")) := by
  obtain ⟨h, X, G⟩ := T.ex
  exact He.glo_ok X G (T.c.fact 18 (f := .glo "DOWN") rfl)
theorem Txt.g_check_turn : mg "check_turn" = some (.ref (He.ga K "check_turn")) := by
  obtain ⟨h, X, G⟩ := T.ex
  exact He.glo_ok X G (T.c.fact 19 (f := .glo "check_turn") rfl)
theorem Txt.g_is_size : mg "is_size" = some (.ref (He.ga K "is_size")) := by
  obtain ⟨h, X, G⟩ := T.ex
  exact He.glo_ok X G (T.c.fact 20 (f := .glo "is_size") rfl)
theorem Txt.g_check_size : mg "check_size" = some (.ref (He.ga K "check_size")) := by
  obtain ⟨h, X, G⟩ := T.ex
  exact He.glo_ok X G (T.c.fact 21 (f := .glo "check_size") rfl)
theorem Txt.g_is_point : mg "is_point" = some (.ref (He.ga K "is_point")) := by
  obtain ⟨h, X, G⟩ := T.ex
  exact He.glo_ok X G (T.c.fact 22 (f := .glo "is_point") rfl)
theorem Txt.g_step : mg "step" = some (.ref (He.ga K "step")) := by
  obtain ⟨h, X, G⟩ := T.ex
  exact He.glo_ok X G (T.c.fact 23 (f := .glo "step") rfl)
theorem Txt.g_is_frame : mg "is_frame" = some (.ref (He.ga K "is_frame")) := by
  obtain ⟨h, X, G⟩ := T.ex
  exact He.glo_ok X G (T.c.fact 24 (f := .glo "is_frame") rfl)
theorem Txt.g_stays : mg "stays" = some (.ref (He.ga K "stays")) := by
  obtain ⟨h, X, G⟩ := T.ex
  exact He.glo_ok X G (T.c.fact 25 (f := .glo "stays") rfl)
theorem Txt.g_all_leads : mg "all_leads" = some (.ref (He.ga K "all_leads")) := by
  obtain ⟨h, X, G⟩ := T.ex
  exact He.glo_ok X G (T.c.fact 26 (f := .glo "all_leads") rfl)
theorem Txt.g_frame : mg "frame" = some (.ref (He.ga K "frame")) := by
  obtain ⟨h, X, G⟩ := T.ex
  exact He.glo_ok X G (T.c.fact 27 (f := .glo "frame") rfl)
theorem Txt.g_count_quarters : mg "count_quarters" = some (.ref (He.ga K "count_quarters")) := by
  obtain ⟨h, X, G⟩ := T.ex
  exact He.glo_ok X G (T.c.fact 28 (f := .glo "count_quarters") rfl)
theorem Txt.g_place_of : mg "place_of" = some (.ref (He.ga K "place_of")) := by
  obtain ⟨h, X, G⟩ := T.ex
  exact He.glo_ok X G (T.c.fact 29 (f := .glo "place_of") rfl)
theorem Txt.g_quarter_at : mg "quarter_at" = some (.ref (He.ga K "quarter_at")) := by
  obtain ⟨h, X, G⟩ := T.ex
  exact He.glo_ok X G (T.c.fact 30 (f := .glo "quarter_at") rfl)
theorem Txt.g_leads_of : mg "leads_of" = some (.ref (He.ga K "leads_of")) := by
  obtain ⟨h, X, G⟩ := T.ex
  exact He.glo_ok X G (T.c.fact 31 (f := .glo "leads_of") rfl)
theorem Txt.g_lying : mg "lying" = some (.ref (He.ga K "lying")) := by
  obtain ⟨h, X, G⟩ := T.ex
  exact He.glo_ok X G (T.c.fact 32 (f := .glo "lying") rfl)
theorem Txt.g_SIDE_LEADS : mg "SIDE_LEADS" = some (.ref (He.ga K "SIDE_LEADS")) := by
  obtain ⟨h, X, G⟩ := T.ex
  exact He.glo_ok X G (T.c.fact 33 (f := .glo "SIDE_LEADS") rfl)
theorem Txt.g_SIDE_TURNS : mg "SIDE_TURNS" = some (.ref (He.ga K "SIDE_TURNS")) := by
  obtain ⟨h, X, G⟩ := T.ex
  exact He.glo_ok X G (T.c.fact 34 (f := .glo "SIDE_TURNS") rfl)
theorem Txt.g_side_lead : mg "side_lead" = some (.ref (He.ga K "side_lead")) := by
  obtain ⟨h, X, G⟩ := T.ex
  exact He.glo_ok X G (T.c.fact 35 (f := .glo "side_lead") rfl)
theorem Txt.g_slant_behind : mg "slant_behind" = some (.ref (He.ga K "slant_behind")) := by
  obtain ⟨h, X, G⟩ := T.ex
  exact He.glo_ok X G (T.c.fact 36 (f := .glo "slant_behind") rfl)
theorem Txt.g_tied_to : mg "tied_to" = some (.ref (He.ga K "tied_to")) := by
  obtain ⟨h, X, G⟩ := T.ex
  exact He.glo_ok X G (T.c.fact 37 (f := .glo "tied_to") rfl)
theorem Txt.g_fill : mg "fill" = some (.ref (He.ga K "fill")) := by
  obtain ⟨h, X, G⟩ := T.ex
  exact He.glo_ok X G (T.c.fact 38 (f := .glo "fill") rfl)
theorem Txt.g_names : mg "names" = some (.ref (He.ga K "names")) := by
  obtain ⟨h, X, G⟩ := T.ex
  exact He.glo_ok X G (T.c.fact 39 (f := .glo "names") rfl)
theorem Txt.g_check_colour : mg "check_colour" = some (.ref (He.ga K "check_colour")) := by
  obtain ⟨h, X, G⟩ := T.ex
  exact He.glo_ok X G (T.c.fact 40 (f := .glo "check_colour") rfl)
theorem Txt.g_coloured : mg "coloured" = some (.ref (He.ga K "coloured")) := by
  obtain ⟨h, X, G⟩ := T.ex
  exact He.glo_ok X G (T.c.fact 41 (f := .glo "coloured") rfl)
theorem Txt.g_glazed : mg "glazed" = some (.ref (He.ga K "glazed")) := by
  obtain ⟨h, X, G⟩ := T.ex
  exact He.glo_ok X G (T.c.fact 42 (f := .glo "glazed") rfl)
theorem Txt.g_shattered : mg "shattered" = some (.ref (He.ga K "shattered")) := by
  obtain ⟨h, X, G⟩ := T.ex
  exact He.glo_ok X G (T.c.fact 43 (f := .glo "shattered") rfl)
theorem Txt.g_used : mg "used" = some (.ref (He.ga K "used")) := by
  obtain ⟨h, X, G⟩ := T.ex
  exact He.glo_ok X G (T.c.fact 44 (f := .glo "used") rfl)
theorem Txt.g__law_bag : mg "_law_bag" = some (.ref (He.ga K "_law_bag")) := by
  obtain ⟨h, X, G⟩ := T.ex
  exact He.glo_ok X G (T.c.fact 45 (f := .glo "_law_bag") rfl)
theorem Txt.g__law_pull : mg "_law_pull" = some (.ref (He.ga K "_law_pull")) := by
  obtain ⟨h, X, G⟩ := T.ex
  exact He.glo_ok X G (T.c.fact 46 (f := .glo "_law_pull") rfl)
theorem Txt.g__law_whole : mg "_law_whole" = some (.ref (He.ga K "_law_whole")) := by
  obtain ⟨h, X, G⟩ := T.ex
  exact He.glo_ok X G (T.c.fact 47 (f := .glo "_law_whole") rfl)
theorem Txt.g__law_same : mg "_law_same" = some (.ref (He.ga K "_law_same")) := by
  obtain ⟨h, X, G⟩ := T.ex
  exact He.glo_ok X G (T.c.fact 48 (f := .glo "_law_same") rfl)
theorem Txt.g__law_go : mg "_law_go" = some (.ref (He.ga K "_law_go")) := by
  obtain ⟨h, X, G⟩ := T.ex
  exact He.glo_ok X G (T.c.fact 49 (f := .glo "_law_go") rfl)
theorem Txt.g__law_name : mg "_law_name" = some (.ref (He.ga K "_law_name")) := by
  obtain ⟨h, X, G⟩ := T.ex
  exact He.glo_ok X G (T.c.fact 50 (f := .glo "_law_name") rfl)
theorem Txt.g__law_tips : mg "_law_tips" = some (.ref (He.ga K "_law_tips")) := by
  obtain ⟨h, X, G⟩ := T.ex
  exact He.glo_ok X G (T.c.fact 51 (f := .glo "_law_tips") rfl)
theorem Txt.g__law_on : mg "_law_on" = some (.ref (He.ga K "_law_on")) := by
  obtain ⟨h, X, G⟩ := T.ex
  exact He.glo_ok X G (T.c.fact 52 (f := .glo "_law_on") rfl)
theorem Txt.g__law_rim : mg "_law_rim" = some (.ref (He.ga K "_law_rim")) := by
  obtain ⟨h, X, G⟩ := T.ex
  exact He.glo_ok X G (T.c.fact 53 (f := .glo "_law_rim") rfl)
theorem Txt.g__law_all : mg "_law_all" = some (.ref (He.ga K "_law_all")) := by
  obtain ⟨h, X, G⟩ := T.ex
  exact He.glo_ok X G (T.c.fact 54 (f := .glo "_law_all") rfl)
theorem Txt.g__law_within : mg "_law_within" = some (.ref (He.ga K "_law_within")) := by
  obtain ⟨h, X, G⟩ := T.ex
  exact He.glo_ok X G (T.c.fact 55 (f := .glo "_law_within") rfl)
theorem Txt.g__law_over : mg "_law_over" = some (.ref (He.ga K "_law_over")) := by
  obtain ⟨h, X, G⟩ := T.ex
  exact He.glo_ok X G (T.c.fact 56 (f := .glo "_law_over") rfl)
theorem Txt.g__law_joined : mg "_law_joined" = some (.ref (He.ga K "_law_joined")) := by
  obtain ⟨h, X, G⟩ := T.ex
  exact He.glo_ok X G (T.c.fact 57 (f := .glo "_law_joined") rfl)
theorem Txt.g__law_slant : mg "_law_slant" = some (.ref (He.ga K "_law_slant")) := by
  obtain ⟨h, X, G⟩ := T.ex
  exact He.glo_ok X G (T.c.fact 58 (f := .glo "_law_slant") rfl)
theorem Txt.g__law_cell_pairs : mg "_law_cell_pairs" = some (.ref (He.ga K "_law_cell_pairs")) := by
  obtain ⟨h, X, G⟩ := T.ex
  exact He.glo_ok X G (T.c.fact 59 (f := .glo "_law_cell_pairs") rfl)
theorem Txt.g__law_panes : mg "_law_panes" = some (.ref (He.ga K "_law_panes")) := by
  obtain ⟨h, X, G⟩ := T.ex
  exact He.glo_ok X G (T.c.fact 60 (f := .glo "_law_panes") rfl)
theorem Txt.g__law_size : mg "_law_size" = some (.ref (He.ga K "_law_size")) := by
  obtain ⟨h, X, G⟩ := T.ex
  exact He.glo_ok X G (T.c.fact 61 (f := .glo "_law_size") rfl)
theorem Txt.g__law_some : mg "_law_some" = some (.ref (He.ga K "_law_some")) := by
  obtain ⟨h, X, G⟩ := T.ex
  exact He.glo_ok X G (T.c.fact 62 (f := .glo "_law_some") rfl)
theorem Txt.g__law_glass : mg "_law_glass" = some (.ref (He.ga K "_law_glass")) := by
  obtain ⟨h, X, G⟩ := T.ex
  exact He.glo_ok X G (T.c.fact 63 (f := .glo "_law_glass") rfl)
theorem Txt.g__law_leaded : mg "_law_leaded" = some (.ref (He.ga K "_law_leaded")) := by
  obtain ⟨h, X, G⟩ := T.ex
  exact He.glo_ok X G (T.c.fact 64 (f := .glo "_law_leaded") rfl)
theorem Txt.g__law_plan : mg "_law_plan" = some (.ref (He.ga K "_law_plan")) := by
  obtain ⟨h, X, G⟩ := T.ex
  exact He.glo_ok X G (T.c.fact 65 (f := .glo "_law_plan") rfl)
theorem Txt.g__law_settled : mg "_law_settled" = some (.ref (He.ga K "_law_settled")) := by
  obtain ⟨h, X, G⟩ := T.ex
  exact He.glo_ok X G (T.c.fact 66 (f := .glo "_law_settled") rfl)
theorem Txt.g__law_row : mg "_law_row" = some (.ref (He.ga K "_law_row")) := by
  obtain ⟨h, X, G⟩ := T.ex
  exact He.glo_ok X G (T.c.fact 67 (f := .glo "_law_row") rfl)
theorem Txt.g__law_glass_word : mg "_law_glass_word" = some (.ref (He.ga K "_law_glass_word")) := by
  obtain ⟨h, X, G⟩ := T.ex
  exact He.glo_ok X G (T.c.fact 68 (f := .glo "_law_glass_word") rfl)
theorem Txt.g__law_dyed : mg "_law_dyed" = some (.ref (He.ga K "_law_dyed")) := by
  obtain ⟨h, X, G⟩ := T.ex
  exact He.glo_ok X G (T.c.fact 69 (f := .glo "_law_dyed") rfl)
theorem Txt.g__law_world : mg "_law_world" = some (.ref (He.ga K "_law_world")) := by
  obtain ⟨h, X, G⟩ := T.ex
  exact He.glo_ok X G (T.c.fact 70 (f := .glo "_law_world") rfl)
theorem Txt.g__law_after : mg "_law_after" = some (.ref (He.ga K "_law_after")) := by
  obtain ⟨h, X, G⟩ := T.ex
  exact He.glo_ok X G (T.c.fact 71 (f := .glo "_law_after") rfl)
theorem Txt.g__law_class : mg "_law_class" = some (.ref (He.ga K "_law_class")) := by
  obtain ⟨h, X, G⟩ := T.ex
  exact He.glo_ok X G (T.c.fact 72 (f := .glo "_law_class") rfl)
theorem Txt.g__law_asked : mg "_law_asked" = some (.ref (He.ga K "_law_asked")) := by
  obtain ⟨h, X, G⟩ := T.ex
  exact He.glo_ok X G (T.c.fact 73 (f := .glo "_law_asked") rfl)
theorem Txt.g__law_said : mg "_law_said" = some (.ref (He.ga K "_law_said")) := by
  obtain ⟨h, X, G⟩ := T.ex
  exact He.glo_ok X G (T.c.fact 74 (f := .glo "_law_said") rfl)
theorem Txt.g_law : mg "law" = some (.ref (He.ga K "law")) := by
  obtain ⟨h, X, G⟩ := T.ex
  exact He.glo_ok X G (T.c.fact 75 (f := .glo "law") rfl)
theorem Txt.f_all : mg "all" = none := by
  obtain ⟨h, X, G⟩ := T.ex
  exact He.free_ok X G (T.c.fact 78 (f := .free "all") rfl)
theorem Txt.f_bool : mg "bool" = none := by
  obtain ⟨h, X, G⟩ := T.ex
  exact He.free_ok X G (T.c.fact 79 (f := .free "bool") rfl)
theorem Txt.f_int : mg "int" = none := by
  obtain ⟨h, X, G⟩ := T.ex
  exact He.free_ok X G (T.c.fact 80 (f := .free "int") rfl)
theorem Txt.f_isinstance : mg "isinstance" = none := by
  obtain ⟨h, X, G⟩ := T.ex
  exact He.free_ok X G (T.c.fact 81 (f := .free "isinstance") rfl)
theorem Txt.f_len : mg "len" = none := by
  obtain ⟨h, X, G⟩ := T.ex
  exact He.free_ok X G (T.c.fact 82 (f := .free "len") rfl)
theorem Txt.f_list : mg "list" = none := by
  obtain ⟨h, X, G⟩ := T.ex
  exact He.free_ok X G (T.c.fact 83 (f := .free "list") rfl)
theorem Txt.f_max : mg "max" = none := by
  obtain ⟨h, X, G⟩ := T.ex
  exact He.free_ok X G (T.c.fact 84 (f := .free "max") rfl)
theorem Txt.f_min : mg "min" = none := by
  obtain ⟨h, X, G⟩ := T.ex
  exact He.free_ok X G (T.c.fact 85 (f := .free "min") rfl)
theorem Txt.f_range : mg "range" = none := by
  obtain ⟨h, X, G⟩ := T.ex
  exact He.free_ok X G (T.c.fact 86 (f := .free "range") rfl)
theorem Txt.f_set : mg "set" = none := by
  obtain ⟨h, X, G⟩ := T.ex
  exact He.free_ok X G (T.c.fact 87 (f := .free "set") rfl)
theorem Txt.f_sorted : mg "sorted" = none := by
  obtain ⟨h, X, G⟩ := T.ex
  exact He.free_ok X G (T.c.fact 88 (f := .free "sorted") rfl)
theorem Txt.f_str : mg "str" = none := by
  obtain ⟨h, X, G⟩ := T.ex
  exact He.free_ok X G (T.c.fact 89 (f := .free "str") rfl)
theorem Txt.f_tuple : mg "tuple" = none := by
  obtain ⟨h, X, G⟩ := T.ex
  exact He.free_ok X G (T.c.fact 90 (f := .free "tuple") rfl)
theorem Txt.f_zip : mg "zip" = none := by
  obtain ⟨h, X, G⟩ := T.ex
  exact He.free_ok X G (T.c.fact 91 (f := .free "zip") rfl)
theorem Txt.i_LARGEST : ∃ t, mg "LARGEST" = some (.int 9 t) := by
  obtain ⟨h, X, G⟩ := T.ex
  exact He.int_ok X G (T.c.fact 92 (f := .int "LARGEST" 9) rfl)
theorem Txt.i_UNKNOWN : ∃ t, mg "UNKNOWN" = some (.int (-1) t) := by
  obtain ⟨h, X, G⟩ := T.ex
  exact He.int_ok X G (T.c.fact 93 (f := .int "UNKNOWN" (-1)) rfl)
theorem Txt.x_BadSize : PySem.W.excIn K (He.ga K "BadSize") He.veBase "ValueError.__new__" = true := (He.exc_ok (T.c.fact 95 (f := .exc "BadSize") rfl)).1
theorem Txt.k_BadSize : PySem.W.keepIn K (.ref (He.ga K "BadSize")) = true := (He.exc_ok (T.c.fact 95 (f := .exc "BadSize") rfl)).2.1
theorem Txt.b_BadSize : PySem.W.subIn K (.ref (He.ga K "BadSize")) (.type "BaseException") = some true := (He.exc_ok (T.c.fact 95 (f := .exc "BadSize") rfl)).2.2.1
theorem Txt.t_BadSize : PySem.W.typeIn K (.ref (He.ga K "BadSize")) = some (.type "type") := (He.exc_ok (T.c.fact 95 (f := .exc "BadSize") rfl)).2.2.2
theorem Txt.x_BadTurn : PySem.W.excIn K (He.ga K "BadTurn") He.veBase "ValueError.__new__" = true := (He.exc_ok (T.c.fact 97 (f := .exc "BadTurn") rfl)).1
theorem Txt.k_BadTurn : PySem.W.keepIn K (.ref (He.ga K "BadTurn")) = true := (He.exc_ok (T.c.fact 97 (f := .exc "BadTurn") rfl)).2.1
theorem Txt.b_BadTurn : PySem.W.subIn K (.ref (He.ga K "BadTurn")) (.type "BaseException") = some true := (He.exc_ok (T.c.fact 97 (f := .exc "BadTurn") rfl)).2.2.1
theorem Txt.t_BadTurn : PySem.W.typeIn K (.ref (He.ga K "BadTurn")) = some (.type "type") := (He.exc_ok (T.c.fact 97 (f := .exc "BadTurn") rfl)).2.2.2
theorem Txt.x_BadQuarter : PySem.W.excIn K (He.ga K "BadQuarter") He.veBase "ValueError.__new__" = true := (He.exc_ok (T.c.fact 99 (f := .exc "BadQuarter") rfl)).1
theorem Txt.k_BadQuarter : PySem.W.keepIn K (.ref (He.ga K "BadQuarter")) = true := (He.exc_ok (T.c.fact 99 (f := .exc "BadQuarter") rfl)).2.1
theorem Txt.b_BadQuarter : PySem.W.subIn K (.ref (He.ga K "BadQuarter")) (.type "BaseException") = some true := (He.exc_ok (T.c.fact 99 (f := .exc "BadQuarter") rfl)).2.2.1
theorem Txt.t_BadQuarter : PySem.W.typeIn K (.ref (He.ga K "BadQuarter")) = some (.type "type") := (He.exc_ok (T.c.fact 99 (f := .exc "BadQuarter") rfl)).2.2.2
theorem Txt.x_BadColour : PySem.W.excIn K (He.ga K "BadColour") He.veBase "ValueError.__new__" = true := (He.exc_ok (T.c.fact 100 (f := .exc "BadColour") rfl)).1
theorem Txt.k_BadColour : PySem.W.keepIn K (.ref (He.ga K "BadColour")) = true := (He.exc_ok (T.c.fact 100 (f := .exc "BadColour") rfl)).2.1
theorem Txt.b_BadColour : PySem.W.subIn K (.ref (He.ga K "BadColour")) (.type "BaseException") = some true := (He.exc_ok (T.c.fact 100 (f := .exc "BadColour") rfl)).2.2.1
theorem Txt.t_BadColour : PySem.W.typeIn K (.ref (He.ga K "BadColour")) = some (.type "type") := (He.exc_ok (T.c.fact 100 (f := .exc "BadColour") rfl)).2.2.2
theorem Txt.x_Glazed : PySem.W.excIn K (He.ga K "Glazed") He.veBase "ValueError.__new__" = true := (He.exc_ok (T.c.fact 101 (f := .exc "Glazed") rfl)).1
theorem Txt.k_Glazed : PySem.W.keepIn K (.ref (He.ga K "Glazed")) = true := (He.exc_ok (T.c.fact 101 (f := .exc "Glazed") rfl)).2.1
theorem Txt.b_Glazed : PySem.W.subIn K (.ref (He.ga K "Glazed")) (.type "BaseException") = some true := (He.exc_ok (T.c.fact 101 (f := .exc "Glazed") rfl)).2.2.1
theorem Txt.t_Glazed : PySem.W.typeIn K (.ref (He.ga K "Glazed")) = some (.type "type") := (He.exc_ok (T.c.fact 101 (f := .exc "Glazed") rfl)).2.2.2
theorem Txt.sq_RIGHT (H : Hp) : SqT K H (He.ga K "RIGHT") [.int 1, .int 1, .int 0, .int (-1), .int (-1), .int (-1), .int 0, .int 1] := He.tupB_ok (T.at_ 0 rfl) H
theorem Txt.sq_DOWN (H : Hp) : SqT K H (He.ga K "DOWN") [.int 0, .int 1, .int 1, .int 1, .int 0, .int (-1), .int (-1), .int (-1)] := He.tupB_ok (T.at_ 1 rfl) H
theorem Txt.sq_SIDE_TURNS (H : Hp) : SqT K H (He.ga K "SIDE_TURNS") [.int 6, .int 0, .int 2, .int 4] := He.tupB_ok (T.at_ 2 rfl) H
theorem Txt.dp_SIDE_LEADS (H : Hp) : Dp K H (.ref (He.ga K "SIDE_LEADS")) (.tuple (([[0, 0, 0], [1, 0, 2], [0, 1, 0], [0, 0, 2]] : List (List Int)).map encT)) := tup2_ok (T.at_ 3 rfl) H
theorem Txt.exm_BadQuarter_LeadError : PySem.W.exmOne K (.ref (He.ga K "BadQuarter")) (.ref (He.ga K "LeadError")) = some true := of_decide_eq_true (T.at_ 70 rfl)
theorem Txt.kit_BadQuarter_BadPoint : PySem.W.kitOne K (.ref (He.ga K "BadQuarter")) (.ref (He.ga K "BadPoint")) = some false := of_decide_eq_true (T.at_ 73 rfl)
theorem Txt.kit_BadQuarter_BadTurn : PySem.W.kitOne K (.ref (He.ga K "BadQuarter")) (.ref (He.ga K "BadTurn")) = some false := of_decide_eq_true (T.at_ 75 rfl)
theorem Txt.kit_BadQuarter_BadMany : PySem.W.kitOne K (.ref (He.ga K "BadQuarter")) (.ref (He.ga K "BadMany")) = some false := of_decide_eq_true (T.at_ 77 rfl)
theorem Txt.kit_BadQuarter_BadQuarter : PySem.W.kitOne K (.ref (He.ga K "BadQuarter")) (.ref (He.ga K "BadQuarter")) = some true := of_decide_eq_true (T.at_ 79 rfl)
theorem Txt.kit_BadQuarter_BadColour : PySem.W.kitOne K (.ref (He.ga K "BadQuarter")) (.ref (He.ga K "BadColour")) = some false := of_decide_eq_true (T.at_ 81 rfl)
theorem Txt.kit_BadQuarter_Glazed : PySem.W.kitOne K (.ref (He.ga K "BadQuarter")) (.ref (He.ga K "Glazed")) = some false := of_decide_eq_true (T.at_ 83 rfl)
theorem Txt.kit_BadQuarter_Full : PySem.W.kitOne K (.ref (He.ga K "BadQuarter")) (.ref (He.ga K "Full")) = some false := of_decide_eq_true (T.at_ 85 rfl)
theorem Txt.kit_BadQuarter_Off : PySem.W.kitOne K (.ref (He.ga K "BadQuarter")) (.ref (He.ga K "Off")) = some false := of_decide_eq_true (T.at_ 87 rfl)
theorem Txt.kit_BadQuarter_Taken : PySem.W.kitOne K (.ref (He.ga K "BadQuarter")) (.ref (He.ga K "Taken")) = some false := of_decide_eq_true (T.at_ 89 rfl)
theorem Txt.kit_BadQuarter_Crossing : PySem.W.kitOne K (.ref (He.ga K "BadQuarter")) (.ref (He.ga K "Crossing")) = some false := of_decide_eq_true (T.at_ 91 rfl)
theorem Txt.kit_BadQuarter_Framed : PySem.W.kitOne K (.ref (He.ga K "BadQuarter")) (.ref (He.ga K "Framed")) = some false := of_decide_eq_true (T.at_ 93 rfl)
theorem Txt.exm_BadQuarter_Missing : PySem.W.exmOne K (.ref (He.ga K "BadQuarter")) (.ref (He.ga K "Missing")) = some false := of_decide_eq_true (T.at_ 94 rfl)
theorem Txt.kit_BadQuarter_NoLead : PySem.W.kitOne K (.ref (He.ga K "BadQuarter")) (.ref (He.ga K "NoLead")) = some false := of_decide_eq_true (T.at_ 97 rfl)
theorem Txt.kit_BadQuarter_NoGlass : PySem.W.kitOne K (.ref (He.ga K "BadQuarter")) (.ref (He.ga K "NoGlass")) = some false := of_decide_eq_true (T.at_ 99 rfl)
theorem Txt.ec_BadQuarter : ExcC K (He.ga K "BadQuarter") := excC_of (T.at_ 102 rfl)
theorem Txt.exm_BadColour_LeadError : PySem.W.exmOne K (.ref (He.ga K "BadColour")) (.ref (He.ga K "LeadError")) = some true := of_decide_eq_true (T.at_ 103 rfl)
theorem Txt.kit_BadColour_BadPoint : PySem.W.kitOne K (.ref (He.ga K "BadColour")) (.ref (He.ga K "BadPoint")) = some false := of_decide_eq_true (T.at_ 106 rfl)
theorem Txt.kit_BadColour_BadTurn : PySem.W.kitOne K (.ref (He.ga K "BadColour")) (.ref (He.ga K "BadTurn")) = some false := of_decide_eq_true (T.at_ 108 rfl)
theorem Txt.kit_BadColour_BadMany : PySem.W.kitOne K (.ref (He.ga K "BadColour")) (.ref (He.ga K "BadMany")) = some false := of_decide_eq_true (T.at_ 110 rfl)
theorem Txt.kit_BadColour_BadQuarter : PySem.W.kitOne K (.ref (He.ga K "BadColour")) (.ref (He.ga K "BadQuarter")) = some false := of_decide_eq_true (T.at_ 112 rfl)
theorem Txt.kit_BadColour_BadColour : PySem.W.kitOne K (.ref (He.ga K "BadColour")) (.ref (He.ga K "BadColour")) = some true := of_decide_eq_true (T.at_ 114 rfl)
theorem Txt.kit_BadColour_Glazed : PySem.W.kitOne K (.ref (He.ga K "BadColour")) (.ref (He.ga K "Glazed")) = some false := of_decide_eq_true (T.at_ 116 rfl)
theorem Txt.kit_BadColour_Full : PySem.W.kitOne K (.ref (He.ga K "BadColour")) (.ref (He.ga K "Full")) = some false := of_decide_eq_true (T.at_ 118 rfl)
theorem Txt.kit_BadColour_Off : PySem.W.kitOne K (.ref (He.ga K "BadColour")) (.ref (He.ga K "Off")) = some false := of_decide_eq_true (T.at_ 120 rfl)
theorem Txt.kit_BadColour_Taken : PySem.W.kitOne K (.ref (He.ga K "BadColour")) (.ref (He.ga K "Taken")) = some false := of_decide_eq_true (T.at_ 122 rfl)
theorem Txt.kit_BadColour_Crossing : PySem.W.kitOne K (.ref (He.ga K "BadColour")) (.ref (He.ga K "Crossing")) = some false := of_decide_eq_true (T.at_ 124 rfl)
theorem Txt.kit_BadColour_Framed : PySem.W.kitOne K (.ref (He.ga K "BadColour")) (.ref (He.ga K "Framed")) = some false := of_decide_eq_true (T.at_ 126 rfl)
theorem Txt.exm_BadColour_Missing : PySem.W.exmOne K (.ref (He.ga K "BadColour")) (.ref (He.ga K "Missing")) = some false := of_decide_eq_true (T.at_ 127 rfl)
theorem Txt.kit_BadColour_NoLead : PySem.W.kitOne K (.ref (He.ga K "BadColour")) (.ref (He.ga K "NoLead")) = some false := of_decide_eq_true (T.at_ 130 rfl)
theorem Txt.kit_BadColour_NoGlass : PySem.W.kitOne K (.ref (He.ga K "BadColour")) (.ref (He.ga K "NoGlass")) = some false := of_decide_eq_true (T.at_ 132 rfl)
theorem Txt.ec_BadColour : ExcC K (He.ga K "BadColour") := excC_of (T.at_ 135 rfl)
theorem Txt.exm_Glazed_LeadError : PySem.W.exmOne K (.ref (He.ga K "Glazed")) (.ref (He.ga K "LeadError")) = some true := of_decide_eq_true (T.at_ 136 rfl)
theorem Txt.kit_Glazed_BadPoint : PySem.W.kitOne K (.ref (He.ga K "Glazed")) (.ref (He.ga K "BadPoint")) = some false := of_decide_eq_true (T.at_ 139 rfl)
theorem Txt.kit_Glazed_BadTurn : PySem.W.kitOne K (.ref (He.ga K "Glazed")) (.ref (He.ga K "BadTurn")) = some false := of_decide_eq_true (T.at_ 141 rfl)
theorem Txt.kit_Glazed_BadMany : PySem.W.kitOne K (.ref (He.ga K "Glazed")) (.ref (He.ga K "BadMany")) = some false := of_decide_eq_true (T.at_ 143 rfl)
theorem Txt.kit_Glazed_BadQuarter : PySem.W.kitOne K (.ref (He.ga K "Glazed")) (.ref (He.ga K "BadQuarter")) = some false := of_decide_eq_true (T.at_ 145 rfl)
theorem Txt.kit_Glazed_BadColour : PySem.W.kitOne K (.ref (He.ga K "Glazed")) (.ref (He.ga K "BadColour")) = some false := of_decide_eq_true (T.at_ 147 rfl)
theorem Txt.kit_Glazed_Glazed : PySem.W.kitOne K (.ref (He.ga K "Glazed")) (.ref (He.ga K "Glazed")) = some true := of_decide_eq_true (T.at_ 149 rfl)
theorem Txt.kit_Glazed_Full : PySem.W.kitOne K (.ref (He.ga K "Glazed")) (.ref (He.ga K "Full")) = some false := of_decide_eq_true (T.at_ 151 rfl)
theorem Txt.kit_Glazed_Off : PySem.W.kitOne K (.ref (He.ga K "Glazed")) (.ref (He.ga K "Off")) = some false := of_decide_eq_true (T.at_ 153 rfl)
theorem Txt.kit_Glazed_Taken : PySem.W.kitOne K (.ref (He.ga K "Glazed")) (.ref (He.ga K "Taken")) = some false := of_decide_eq_true (T.at_ 155 rfl)
theorem Txt.kit_Glazed_Crossing : PySem.W.kitOne K (.ref (He.ga K "Glazed")) (.ref (He.ga K "Crossing")) = some false := of_decide_eq_true (T.at_ 157 rfl)
theorem Txt.kit_Glazed_Framed : PySem.W.kitOne K (.ref (He.ga K "Glazed")) (.ref (He.ga K "Framed")) = some false := of_decide_eq_true (T.at_ 159 rfl)
theorem Txt.exm_Glazed_Missing : PySem.W.exmOne K (.ref (He.ga K "Glazed")) (.ref (He.ga K "Missing")) = some false := of_decide_eq_true (T.at_ 160 rfl)
theorem Txt.kit_Glazed_NoLead : PySem.W.kitOne K (.ref (He.ga K "Glazed")) (.ref (He.ga K "NoLead")) = some false := of_decide_eq_true (T.at_ 163 rfl)
theorem Txt.kit_Glazed_NoGlass : PySem.W.kitOne K (.ref (He.ga K "Glazed")) (.ref (He.ga K "NoGlass")) = some false := of_decide_eq_true (T.at_ 165 rfl)
theorem Txt.ec_Glazed : ExcC K (He.ga K "Glazed") := excC_of (T.at_ 168 rfl)
theorem Txt.exm_NoGlass_LeadError : PySem.W.exmOne K (.ref (He.ga K "NoGlass")) (.ref (He.ga K "LeadError")) = some false := of_decide_eq_true (T.at_ 169 rfl)
theorem Txt.kit_NoGlass_BadPoint : PySem.W.kitOne K (.ref (He.ga K "NoGlass")) (.ref (He.ga K "BadPoint")) = some false := of_decide_eq_true (T.at_ 172 rfl)
theorem Txt.kit_NoGlass_BadTurn : PySem.W.kitOne K (.ref (He.ga K "NoGlass")) (.ref (He.ga K "BadTurn")) = some false := of_decide_eq_true (T.at_ 174 rfl)
theorem Txt.kit_NoGlass_BadMany : PySem.W.kitOne K (.ref (He.ga K "NoGlass")) (.ref (He.ga K "BadMany")) = some false := of_decide_eq_true (T.at_ 176 rfl)
theorem Txt.kit_NoGlass_BadQuarter : PySem.W.kitOne K (.ref (He.ga K "NoGlass")) (.ref (He.ga K "BadQuarter")) = some false := of_decide_eq_true (T.at_ 178 rfl)
theorem Txt.kit_NoGlass_BadColour : PySem.W.kitOne K (.ref (He.ga K "NoGlass")) (.ref (He.ga K "BadColour")) = some false := of_decide_eq_true (T.at_ 180 rfl)
theorem Txt.kit_NoGlass_Glazed : PySem.W.kitOne K (.ref (He.ga K "NoGlass")) (.ref (He.ga K "Glazed")) = some false := of_decide_eq_true (T.at_ 182 rfl)
theorem Txt.kit_NoGlass_Full : PySem.W.kitOne K (.ref (He.ga K "NoGlass")) (.ref (He.ga K "Full")) = some false := of_decide_eq_true (T.at_ 184 rfl)
theorem Txt.kit_NoGlass_Off : PySem.W.kitOne K (.ref (He.ga K "NoGlass")) (.ref (He.ga K "Off")) = some false := of_decide_eq_true (T.at_ 186 rfl)
theorem Txt.kit_NoGlass_Taken : PySem.W.kitOne K (.ref (He.ga K "NoGlass")) (.ref (He.ga K "Taken")) = some false := of_decide_eq_true (T.at_ 188 rfl)
theorem Txt.kit_NoGlass_Crossing : PySem.W.kitOne K (.ref (He.ga K "NoGlass")) (.ref (He.ga K "Crossing")) = some false := of_decide_eq_true (T.at_ 190 rfl)
theorem Txt.kit_NoGlass_Framed : PySem.W.kitOne K (.ref (He.ga K "NoGlass")) (.ref (He.ga K "Framed")) = some false := of_decide_eq_true (T.at_ 192 rfl)
theorem Txt.exm_NoGlass_Missing : PySem.W.exmOne K (.ref (He.ga K "NoGlass")) (.ref (He.ga K "Missing")) = some true := of_decide_eq_true (T.at_ 193 rfl)
theorem Txt.kit_NoGlass_NoLead : PySem.W.kitOne K (.ref (He.ga K "NoGlass")) (.ref (He.ga K "NoLead")) = some false := of_decide_eq_true (T.at_ 196 rfl)
theorem Txt.kit_NoGlass_NoGlass : PySem.W.kitOne K (.ref (He.ga K "NoGlass")) (.ref (He.ga K "NoGlass")) = some true := of_decide_eq_true (T.at_ 198 rfl)
theorem Txt.ec_NoGlass : ExcC K (He.ga K "NoGlass") := excC_of (T.at_ 201 rfl)
theorem Txt.x_NoGlass : PySem.W.excIn K (He.ga K "NoGlass") leB "LookupError.__new__" = true := (plB_ok (T.at_ 202 rfl)).1
theorem Txt.k_NoGlass : PySem.W.keepIn K (.ref (He.ga K "NoGlass")) = true := (plB_ok (T.at_ 202 rfl)).2.1
theorem Txt.b_NoGlass : PySem.W.subIn K (.ref (He.ga K "NoGlass")) (.type "BaseException") = some true := (plB_ok (T.at_ 202 rfl)).2.2.1
theorem Txt.t_NoGlass : PySem.W.typeIn K (.ref (He.ga K "NoGlass")) = some (.type "type") := (plB_ok (T.at_ 202 rfl)).2.2.2
end
def loose0 : List PySem.Str := ["LeadError", "BadSize", "BadPoint", "BadTurn", "BadMany", "BadQuarter", "BadColour", "Glazed", "Full", "AtStep", "Off", "Taken", "Crossing", "Framed", "Missing", "NoLead", "NoGlass", "LARGEST", "RIGHT", "DOWN", "check_turn", "is_size", "check_size", "is_point", "step", "is_frame", "stays", "all_leads", "frame", "count_quarters"]
def loose1 : List PySem.Str := ["place_of", "quarter_at", "leads_of", "lying", "SIDE_LEADS", "SIDE_TURNS", "UNKNOWN", "side_lead", "slant_behind", "tied_to", "fill", "names", "check_colour", "coloured", "glazed", "shattered", "used", "_law_bag", "_law_pull", "_law_whole", "_law_same", "_law_go", "_law_name", "_law_tips", "_law_on", "_law_rim", "_law_all", "_law_within", "_law_over", "_law_joined"]
def loose2 : List PySem.Str := ["_law_slant", "_law_cell_pairs", "_law_panes", "_law_size", "_law_some", "_law_glass", "_law_leaded", "_law_plan", "_law_settled", "_law_row", "_law_glass_word", "_law_dyed", "_law_world", "_law_after", "_law_class", "_law_asked", "_law_said"]
def loose : List PySem.Str := loose0 ++ loose1 ++ loose2
abbrev R : PySem.W.OpenRow := PySem.W.OpenLaw.row PySem.Challenge.rw_leadlight_k30_glass_set_and_broken
abbrev hk : PySem.W.Hook := He.hookX 5 fa fn ts [] exB
def ob (s : PySem.W.SharedT) : He.AlX := He.obsX 5 fa fn ts [] exB (HandSHeadRun.getT s)
theorem ob_eq (s : PySem.W.SharedT) : ob s = hk.obs s.abs := He.obsX_eq (HandSHeadRun.getT_eq s)
theorem run (w : World) : HandSHeadRun.RunEq R (PySem.W.view R.prog [83]) hk ob 8000 loose w := by
  intro os
  kernel_rfl
set_option maxHeartbeats 4400000
section
variable {mg : Str → Option Value} {base : Heap} {P : Program} {w : World} {K : PySem.W.Frag}
abbrev N_AtStep_init : List Str := ["self", "at"]
theorem sc_AtStep_init : FnScope N_AtStep_init ["self", "at"] (defScope s_AtStep_init) := ⟨rfl, rfl, rfl, by decide +kernel, rfl, by decide +kernel, by decide +kernel⟩
theorem ok_AtStep_init (T : Txt K mg) : GoodI P w K mg base CX0 1 (He.ma K (He.ga K "AtStep") "__init__") := by
  obtain ⟨fd, F⟩ := T.c.def_ 55 (d := d_AtStep_init) rfl
  have b : Binds K fd ["self", "at"] [] := F.bindsN fun _ _ _ _ _ _ us hl => match us, hl with | [_, _], _ => rfl
  refine ⟨⟨fd, F.ok sc_AtStep_init (fun vs H Q E h => ?_) (fun cdv A outer s H vs Q E hr h => ?_), b⟩⟩
  · obtain ⟨a, C, v, rfl, _⟩ := h
    rfl
  · obtain ⟨a, C, v, rfl, oc, no, ha, q⟩ := h
    refine ⟨_, PSs.nox (pss_one (ps_ost (pv 0) (pv 1))), ?_⟩
    exact ⟨v, rfl, .ref a, rfl, a, C, rfl, oc, no, .inl ⟨ha, fun dx h1 h2 => q dx h1 h2⟩⟩
abbrev N_NoLead_init : List Str := ["self", "at"]
theorem sc_NoLead_init : FnScope N_NoLead_init ["self", "at"] (defScope s_NoLead_init) := ⟨rfl, rfl, rfl, by decide +kernel, rfl, by decide +kernel, by decide +kernel⟩
theorem ok_NoLead_init (T : Txt K mg) : GoodIL P w K mg base CX0 1 (He.ma K (He.ga K "NoLead") "__init__") := by
  obtain ⟨fd, F⟩ := T.c.def_ 56 (d := d_NoLead_init) rfl
  have b : Binds K fd ["self", "at"] [] := F.bindsN fun _ _ _ _ _ _ us hl => match us, hl with | [_, _], _ => rfl
  refine ⟨⟨fd, F.ok sc_NoLead_init (fun vs H Q E h => ?_) (fun cdv A outer s H vs Q E hr h => ?_), b⟩⟩
  · obtain ⟨a, C, v, rfl, _⟩ := h
    rfl
  · obtain ⟨a, C, v, rfl, oc, no, ha, q⟩ := h
    refine ⟨_, PSs.nox (pss_one (ps_osL (pv 0) (pv 1))), ?_⟩
    exact ⟨v, rfl, .ref a, rfl, a, C, rfl, oc, no, ha, fun dx h1 h2 => q dx h1 h2⟩
/-! check_turn -/
def okT (t : Int) : Prop := 0 ≤ t ∧ t ≤ 7
instance (t : Int) : Decidable (okT t) := inferInstanceAs (Decidable (_ ∧ _))
def sp_check_turn (K : Fg) : Sp := fun vs H Q E => ∃ (B : Bg) (G : Hp) (t : Int), Ok K B G H ∧ vs = [.int t] ∧ (okT t → Ret K B G H Q .none) ∧ (¬ okT t → Rai K B G H E (He.ga K "BadTurn"))
abbrev N_check_turn : List Str := ["turn"]
theorem sc_check_turn : FnScope N_check_turn ["turn"] (defScope s_check_turn) := ⟨rfl, rfl, rfl, by decide +kernel, rfl, by decide +kernel, by decide +kernel⟩
theorem ok_check_turn (T : Txt K mg)  : Good P w K mg base (L2N.CX P w) 1 "check_turn" ["turn"] [] (sp_check_turn K) := by
  obtain ⟨fd, F⟩ := T.c.def_ 0 (d := d_check_turn) rfl
  have b : Binds K fd ["turn"] [] := F.bindsN fun _ _ _ _ _ _ us hl => match us, hl with | [_], _ => rfl
  refine ⟨⟨fd, [], F.ok sc_check_turn (fun vs H Q E h => ?_) (fun cdv A outer s H vs Q E hr h => ?_), .nil, b⟩, T.g_check_turn, F.kp⟩
  · obtain ⟨B, G, t, e, rfl, _⟩ := h
    all_goals rfl
  · obtain ⟨B, G, t, e, rfl, q, r⟩ := h
    all_goals refine ⟨_, (pss_one (ps_if (pt_not (pt_chain op_le op_le pe_int (pv 0) pe_int)) (pss_one (L2N.ps_raise rfl (L2N.takes_of rfl rfl rfl rfl) (L2N.pmk_own PySem.F.excBase_ValueError T.x_BadTurn T.g_BadTurn T.k_BadTurn (raises_own T.b_BadTurn T.t_BadTurn) (by rfl)))) pss_nil)), ?_⟩
    refine st_if (K := K) (B := B) (eb_not (eb_test (ed_chain ed_int (ed_var rfl (.int t)) (fun _ => ed_int) rd_B0 (fun _ => rd_B0)))) e (fun c G2 H2 X => ?_) (fun c G2 H2 X => ?_)
    · refine r (fun z => ?_) G2 H2 X
      have : (decide (0 ≤ t) && decide (t ≤ 7)) = true := by rw [decide_eq_true z.1, decide_eq_true z.2]; rfl
      rw [this] at c
      exact Bool.noConfusion c
    · have z : okT t := by
        simp only [Bool.not_eq_false', Bool.and_eq_true, decide_eq_true_eq] at c
        exact c
      exact q z _ G2 H2 X .non
theorem sq_chk {B : Bg} {G H : Hp} {σ : L2.St} {D : Ends} {u : TS} {E : XK} {i : Nat} {t : Int} (hσ : σ[i]? = some (some (.int t))) (e : Ok K B G H) (k1 : okT t → ∀ G2 H2, Ext K B G H G2 H2 → u D σ H2) (k2 : ¬ okT t → Rai K B G H E (He.ga K "BadTurn")) :
    tSeq (tDrop (tCall (sp_check_turn K) [] E (tCons (tVar i) tNil))) u D σ H := ⟨.int t, hσ, B, G, t, e, rfl, fun z v G2 H2 X _ => k1 z G2 H2 X, k2⟩
/-! is_size -/
def okS (x : Int) : Bool := decide (1 ≤ x) && decide (x ≤ 9)
def sp_is_size (K : Fg) : Sp := fun vs H Q E => ∃ (B : Bg) (G : Hp) (x y : Int), Ok K B G H ∧ vs = [.int x, .int y] ∧ Ret K B G H Q (.bool (okS x && okS y))
abbrev N_is_size : List Str := ["width", "height"]
theorem sc_is_size : FnScope N_is_size ["width", "height"] (defScope s_is_size) := ⟨rfl, rfl, rfl, by decide +kernel, rfl, by decide +kernel, by decide +kernel⟩
theorem ok_is_size (T : Txt K mg)  : Good P w K mg base (L2N.CX P w) 1 "is_size" ["width", "height"] [] (sp_is_size K) := by
  obtain ⟨fd, F⟩ := T.c.def_ 1 (d := d_is_size) rfl
  have b : Binds K fd ["width", "height"] [] := F.bindsN fun _ _ _ _ _ _ us hl => match us, hl with | [_, _], _ => rfl
  refine ⟨⟨fd, [], F.ok sc_is_size (fun vs H Q E h => ?_) (fun cdv A outer s H vs Q E hr h => ?_), .nil, b⟩, T.g_is_size, F.kp⟩
  · obtain ⟨B, G, x, y, e, rfl, _⟩ := h
    all_goals rfl
  · obtain ⟨B, G, x, y, e, rfl, q⟩ := h
    obtain ⟨tk_LARGEST, h_LARGEST⟩ := T.i_LARGEST
    all_goals refine ⟨_, PSs.nox (pss_one (ps_ret (pe_and (pe_chain op_le op_le pe_int (pv 0) (pe_glob (v := .int 9) (by rfl) h_LARGEST ⟨_, rfl⟩)) (pe_one (pe_chain op_le op_le pe_int (pv 1) (pe_glob (v := .int 9) (by rfl) h_LARGEST ⟨_, rfl⟩)))))), ?_⟩
    exact st_ret (ed_andV (ed_chain ed_int (ed_var rfl (.int x)) (fun _ => ed_c (.int 9)) rd_B0 (fun _ => rd_B0)) (fun _ => ed_chain ed_int (ed_var rfl (.int y)) (fun _ => ed_c (.int 9)) rd_B0 (fun _ => rd_B0))) e q
theorem ed_is_size {B : Bg} {G : Hp} {σ : L2.St} {tr : TA} {E : XK} {x y : Int} (ha : EvA K B tr σ G [.int x, .int y]) : EvD K B (tCall (sp_is_size K) [] E tr) σ G (.bool (okS x && okS y)) :=
  ed_call ha fun vs G2 H2 _ e dv Q q => ⟨B, G2, x, y, e, by rw [List.append_nil]; exact dpAll_intsV (bs := [x, y]) dv, q⟩
theorem okS_iff {x : Int} : okS x = true ↔ 1 ≤ x ∧ x ≤ 9 := by
  unfold okS
  rw [Bool.and_eq_true, decide_eq_true_eq]
  rw [decide_eq_true_eq]
/-! check_size -/
def sp_check_size (K : Fg) : Sp := fun vs H Q E => ∃ (B : Bg) (G : Hp) (x y : Int), Ok K B G H ∧ vs = [.int x, .int y] ∧ ((okS x && okS y) = true → Ret K B G H Q .none) ∧ ((okS x && okS y) = false → Rai K B G H E (He.ga K "BadSize"))
abbrev N_check_size : List Str := ["width", "height"]
theorem sc_check_size : FnScope N_check_size ["width", "height"] (defScope s_check_size) := ⟨rfl, rfl, rfl, by decide +kernel, rfl, by decide +kernel, by decide +kernel⟩
theorem ok_check_size (T : Txt K mg) (G_is_size : Good P w K mg base (L2N.CX P w) 1 "is_size" ["width", "height"] [] (sp_is_size K)) : Good P w K mg base (L2N.CX P w) 2 "check_size" ["width", "height"] [] (sp_check_size K) := by
  obtain ⟨fd, F⟩ := T.c.def_ 2 (d := d_check_size) rfl
  have b : Binds K fd ["width", "height"] [] := F.bindsN fun _ _ _ _ _ _ us hl => match us, hl with | [_, _], _ => rfl
  refine ⟨⟨fd, [], F.ok sc_check_size (fun vs H Q E h => ?_) (fun cdv A outer s H vs Q E hr h => ?_), .nil, b⟩, T.g_check_size, F.kp⟩
  · obtain ⟨B, G, x, y, e, rfl, _⟩ := h
    all_goals rfl
  · obtain ⟨B, G, x, y, e, rfl, q, r⟩ := h
    all_goals refine ⟨_, (pss_one (ps_if (pt_not (pt_val (pe_own G_is_size (hr.mono (by decide)) (by rfl) (L2N.passes_call (L2N.takes_of rfl rfl rfl rfl) (fun _ _ _ _ h => h)) (pa_cons (pv 0) (pa_cons (pv 1) pa_nil))))) (pss_one (L2N.ps_raise rfl (L2N.takes_of rfl rfl rfl rfl) (L2N.pmk_own PySem.F.excBase_ValueError T.x_BadSize T.g_BadSize T.k_BadSize (raises_own T.b_BadSize T.t_BadSize) (by rfl)))) pss_nil)), ?_⟩
    refine st_if (K := K) (B := B) (eb_not (eb_B (ed_is_size (ea_cons (ed_var rfl (.int x)) (ea_cons (ed_var rfl (.int y)) ea_nil))))) e (fun c G2 H2 X => ?_) (fun c G2 H2 X => ?_)
    · exact r (by rw [Bool.not_eq_true'] at c; exact c) G2 H2 X
    · exact q (by rw [Bool.not_eq_false'] at c; exact c) _ G2 H2 X .non
theorem sq_chkS {B : Bg} {G H : Hp} {σ : L2.St} {D : Ends} {u : TS} {E : XK} {i j : Nat} {x y : Int} (hσ : σ[i]? = some (some (.int x))) (hτ : σ[j]? = some (some (.int y))) (e : Ok K B G H) (k1 : (okS x && okS y) = true → ∀ G2 H2, Ext K B G H G2 H2 → u D σ H2) (k2 : (okS x && okS y) = false → Rai K B G H E (He.ga K "BadSize")) :
    tSeq (tDrop (tCall (sp_check_size K) [] E (tCons (tVar i) (tCons (tVar j) tNil)))) u D σ H := ⟨.int x, hσ, .int y, hτ, B, G, x, y, e, rfl, fun z v G2 H2 X _ => k1 z G2 H2 X, k2⟩
/-! is_point -/
theorem diB {a b : Int} : decide (vOf (.int a) = vOf (.int b)) = decide (a = b) := decide_eq_decide.mpr ⟨fun h => V.int.inj h, fun h => congrArg V.int h⟩
def onB (w h x y : Int) : Bool := (decide (0 ≤ x) && decide (x ≤ w)) && (decide (0 ≤ y) && decide (y ≤ h))
def sp_is_point (K : Fg) : Sp := fun vs H Q E => ∃ (B : Bg) (G : Hp) (w h x y : Int), Ok K B G H ∧ vs = [.int w, .int h, .int x, .int y] ∧ Ret K B G H Q (.bool (onB w h x y))
abbrev N_is_point : List Str := ["width", "height", "x", "y"]
theorem sc_is_point : FnScope N_is_point ["width", "height", "x", "y"] (defScope s_is_point) := ⟨rfl, rfl, rfl, by decide +kernel, rfl, by decide +kernel, by decide +kernel⟩
theorem ok_is_point (T : Txt K mg)  : Good P w K mg base (L2N.CX P w) 1 "is_point" ["width", "height", "x", "y"] [] (sp_is_point K) := by
  obtain ⟨fd, F⟩ := T.c.def_ 3 (d := d_is_point) rfl
  have b : Binds K fd ["width", "height", "x", "y"] [] := F.bindsN fun _ _ _ _ _ _ us hl => match us, hl with | [_, _, _, _], _ => rfl
  refine ⟨⟨fd, [], F.ok sc_is_point (fun vs H Q E h => ?_) (fun cdv A outer s H vs Q E hr h => ?_), .nil, b⟩, T.g_is_point, F.kp⟩
  · obtain ⟨B, G, w, h, x, y, e, rfl, _⟩ := h
    all_goals rfl
  · obtain ⟨B, G, wd, ht, x, y, e, rfl, q⟩ := h
    all_goals refine ⟨_, PSs.nox (pss_one (ps_ret (pe_and (pe_chain op_le op_le pe_int (pv 2) (pv 0)) (pe_one (pe_chain op_le op_le pe_int (pv 3) (pv 1)))))), ?_⟩
    exact st_ret (ed_andV (ed_chain ed_int (ed_var rfl (.int x)) (fun _ => ed_var rfl (.int wd)) rd_B0 (fun _ => rd_B0)) (fun _ => ed_chain ed_int (ed_var rfl (.int y)) (fun _ => ed_var rfl (.int ht)) rd_B0 (fun _ => rd_B0))) e q
theorem ed_is_point {B : Bg} {G : Hp} {σ : L2.St} {tr : TA} {E : XK} {wd ht x y : Int} (ha : EvA K B tr σ G [.int wd, .int ht, .int x, .int y]) : EvD K B (tCall (sp_is_point K) [] E tr) σ G (.bool (onB wd ht x y)) :=
  ed_call ha fun vs G2 H2 _ e dv Q q => ⟨B, G2, wd, ht, x, y, e, by rw [List.append_nil]; exact dpAll_intsV (bs := [wd, ht, x, y]) dv, q⟩
/-! step -/
def dx (t : Int) : Int := [1, 1, 0, -1, -1, -1, 0, 1].getD t.toNat 0
def dy (t : Int) : Int := [0, 1, 1, 1, 0, -1, -1, -1].getD t.toNat 0
theorem lt8 {t : Int} (h : okT t) : ∃ n : Nat, t = (n : Int) ∧ n < 8 := by
  obtain ⟨h1, h2⟩ := h
  exact ⟨t.toNat, by omega, by omega⟩
theorem at_dx {t : Int} (h : okT t) : atI ([1, 1, 0, -1, -1, -1, 0, 1].map PyData.int) t = some (.int (dx t)) := by
  obtain ⟨n, rfl, hn⟩ := lt8 h
  refine atI_nat ?_
  match n, hn with
  | 0, _ | 1, _ | 2, _ | 3, _ | 4, _ | 5, _ | 6, _ | 7, _ => rfl
theorem at_dy {t : Int} (h : okT t) : atI ([0, 1, 1, 1, 0, -1, -1, -1].map PyData.int) t = some (.int (dy t)) := by
  obtain ⟨n, rfl, hn⟩ := lt8 h
  refine atI_nat ?_
  match n, hn with
  | 0, _ | 1, _ | 2, _ | 3, _ | 4, _ | 5, _ | 6, _ | 7, _ => rfl
theorem dx_small {t : Int} (h : okT t) : -1 ≤ dx t ∧ dx t ≤ 1 := by
  obtain ⟨n, rfl, hn⟩ := lt8 h
  match n, hn with
  | 0, _ | 1, _ | 2, _ | 3, _ | 4, _ | 5, _ | 6, _ | 7, _ => decide
theorem dy_small {t : Int} (h : okT t) : -1 ≤ dy t ∧ dy t ≤ 1 := by
  obtain ⟨n, rfl, hn⟩ := lt8 h
  match n, hn with
  | 0, _ | 1, _ | 2, _ | 3, _ | 4, _ | 5, _ | 6, _ | 7, _ => decide
theorem cm {i j : Int} (h : -1 ≤ j ∧ j ≤ 1) : CMul i j := .inr ⟨by omega, by omega⟩
def goD (x y t m : Int) : PyData := .tuple [.int (x + m * dx t), .int (y + m * dy t)]
def sp_step (K : Fg) : Sp := fun vs H Q E => ∃ (B : Bg) (G : Hp) (x y t m : Int), Ok K B G H ∧ vs = [.int x, .int y, .int t, .int m] ∧ (okT t → Ret K B G H Q (goD x y t m)) ∧ (¬ okT t → Rai K B G H E (He.ga K "BadTurn"))
abbrev N_step : List Str := ["x", "y", "turn", "many"]
theorem sc_step : FnScope N_step ["x", "y", "turn", "many"] (defScope s_step) := ⟨rfl, rfl, rfl, by decide +kernel, rfl, by decide +kernel, by decide +kernel⟩
theorem fn_step (T : Txt K mg) (G_check_turn : Good P w K mg base (L2N.CX P w) 1 "check_turn" ["turn"] [] (sp_check_turn K)) {fd : FuncData} (F : FunD K "step" "step" (defArgs s_step) (defBody s_step) (defScope s_step) [.int 1] [] (He.ga K "step") fd) :
    FnOk P w K mg base (L2N.CX P w) 2 (He.ga K "step") fd ["x", "y", "turn", "many"] (sp_step K) := by
  refine F.ok sc_step (fun vs H Q E h => ?_) (fun cdv A outer s H vs Q E hr h => ?_)
  · obtain ⟨B, G, x, y, t, m, e, rfl, _⟩ := h
    rfl
  · obtain ⟨B, G, x, y, t, m, e, rfl, q, r⟩ := h
    refine ⟨_, (pss_cons (ps_expr (pe_own G_check_turn (hr.mono (by decide)) (by rfl) (L2N.passes_call (L2N.takes_of rfl rfl rfl rfl) (fun _ _ _ _ h => h)) (pa_cons (pv 2) pa_nil))) (pss_one (ps_ret (pe_tup (pa_cons (pe_op op_add (pv 0) (pe_op op_mul (pv 3) (pe_ix (r := rIxT K) ix_tup (pe_glob (v := .ref (He.ga K "RIGHT")) (by rfl) T.g_RIGHT rfl) (pv 2) (fun _ _ => rfl)))) (pa_cons (pe_op op_add (pv 1) (pe_op op_mul (pv 3) (pe_ix (r := rIxT K) ix_tup (pe_glob (v := .ref (He.ga K "DOWN")) (by rfl) T.g_DOWN rfl) (pv 2) (fun _ _ => rfl)))) pa_nil)))))), ?_⟩
    refine sq_chk rfl e (fun z G2 H2 X => ?_) r
    refine st_ret (K := K) (B := B) (d := goD x y t m) (ed_tup (ea_cons (ed_op (ed_var rfl (.int x)) (ed_op (ed_var rfl (.int m)) (ed_op (ed_c (.tup (T.sq_RIGHT G2) (dpAll_ints [1, 1, 0, -1, -1, -1, 0, 1]))) (ed_var rfl (.int t)) (rd_ixT (at_dx z))) (rd_I (cm (dx_small z)))) rd_I0)
      (ea_cons (ed_op (ed_var rfl (.int y)) (ed_op (ed_var rfl (.int m)) (ed_op (ed_c (.tup (T.sq_DOWN G2) (dpAll_ints [0, 1, 1, 1, 0, -1, -1, -1]))) (ed_var rfl (.int t)) (rd_ixT (at_dy z))) (rd_I (cm (dy_small z)))) rd_I0) ea_nil)) (Nat.le_of_ble_eq_true rfl)) X.ok ((q z).mono X)
theorem fun_step (T : Txt K mg) : ∃ fd, FunD K "step" "step" (defArgs s_step) (defBody s_step) (defScope s_step) [.int 1] [] (He.ga K "step") fd := T.c.def_ 4 (d := d_step) rfl
theorem ok_step (T : Txt K mg) (G_check_turn : Good P w K mg base (L2N.CX P w) 1 "check_turn" ["turn"] [] (sp_check_turn K)) : Good P w K mg base (L2N.CX P w) 2 "step" ["x", "y", "turn", "many"] [] (sp_step K) := by
  obtain ⟨fd, F⟩ := fun_step T
  obtain ⟨ds, r, b⟩ := F.binds1 (ps := ["x", "y", "turn", "many"]) 4 1 (by simp) rfl fun T' kV doc pm an cdv ct us its l1 l2 => match us, its, l1, l2 with
    | [_, _, _, _], [_], _, _ => ⟨_, rfl, rfl⟩
  exact ⟨⟨fd, ds, fn_step T G_check_turn F, r, b⟩, T.g_step, F.kp⟩
theorem ok_step_d1 (T : Txt K mg) (G_check_turn : Good P w K mg base (L2N.CX P w) 1 "check_turn" ["turn"] [] (sp_check_turn K)) : Good P w K mg base (L2N.CX P w) 2 "step" ["x", "y", "turn", "many"] [.int 1] (sp_step K) := by
  obtain ⟨fd, F⟩ := fun_step T
  obtain ⟨ds, r, b⟩ := F.binds1 (ps := ["x", "y", "turn", "many"]) 3 0 (by simp) rfl fun T' kV doc pm an cdv ct us its l1 l2 => match us, its, l1, l2 with
    | [_, _, _], [_], _, _ => ⟨_, rfl, rfl⟩
  exact ⟨⟨fd, ds, fn_step T G_check_turn F, r, b⟩, T.g_step, F.kp⟩
theorem ok_step_many (T : Txt K mg) (G_check_turn : Good P w K mg base (L2N.CX P w) 1 "check_turn" ["turn"] [] (sp_check_turn K)) : GoodK P w K mg base (L2N.CX P w) 2 "step" ["x", "y", "turn", "many"] 3 ["many"] (fun vs zs => vs ++ zs) (sp_step K) := by
  obtain ⟨fd, F⟩ := fun_step T
  obtain ⟨its, b⟩ := F.kbindsD (ps := ["x", "y", "turn", "many"]) 3 ["many"] (fun vs _ zs => vs ++ zs) (by simp) (fun r1 _ r3 => r1.append r3) fun T' kV doc pm an cdv ct us its ws l1 l2 l3 => match us, its, ws, l1, l2, l3 with
    | [_, _, _], [_], [_], _, _, _ => ⟨_, rfl, rfl⟩
  exact ⟨⟨fd, _, fn_step T G_check_turn F, b⟩, T.g_step, F.kp⟩
theorem ok_step_turn_y_x (T : Txt K mg) (G_check_turn : Good P w K mg base (L2N.CX P w) 1 "check_turn" ["turn"] [] (sp_check_turn K)) : GoodK P w K mg base (L2N.CX P w) 2 "step" ["x", "y", "turn", "many"] 0 ["turn", "y", "x"] (fun vs zs => zs.reverse ++ [.int 1]) (sp_step K) := by
  obtain ⟨fd, F⟩ := fun_step T
  obtain ⟨its, b⟩ := F.kbindsD (ps := ["x", "y", "turn", "many"]) 0 ["turn", "y", "x"] (fun _ ds zs => zs.reverse ++ ds) (by simp) (fun _ r2 r3 => r3.reverse.append r2) fun T' kV doc pm an cdv ct us its ws l1 l2 l3 => match us, its, ws, l1, l2, l3 with
    | [], [_], [_, _, _], _, _, _ => ⟨_, rfl, rfl⟩
  exact ⟨⟨fd, _, fn_step T G_check_turn F, b⟩, T.g_step, F.kp⟩
theorem ed_step {B : Bg} {G : Hp} {σ : L2.St} {tr : TA} {E : XK} {x y t : Int} (ha : EvA K B tr σ G [.int x, .int y, .int t]) (ht : okT t) : EvD K B (tCall (sp_step K) [.int 1] E tr) σ G (goD x y t 1) :=
  ed_call ha fun vs G2 H2 _ e dv Q q => ⟨B, G2, x, y, t, 1, e, by rw [dpAll_intsV (bs := [x, y, t]) dv]; rfl, fun _ => q, fun n => absurd ht n⟩
/-! is_frame -/
def frB (w h x y t : Int) : Bool := if t = 0 then decide (y = 0) || decide (y = h) else decide (t = 2) && (decide (x = 0) || decide (x = w))
def sp_is_frame (K : Fg) : Sp := fun vs H Q E => ∃ (B : Bg) (G : Hp) (v : V) (w h x y t : Int), Ok K B G H ∧ vs = [.int w, .int h, v] ∧ Dp K G v (encT [x, y, t]) ∧ (okS w && okS h) = true ∧ Ret K B G H Q (.bool (frB w h x y t))
abbrev N_is_frame : List Str := ["width", "height", "name", "x", "y", "turn"]
theorem sc_is_frame : FnScope N_is_frame ["width", "height", "name"] (defScope s_is_frame) := ⟨rfl, rfl, rfl, by decide +kernel, rfl, by decide +kernel, by decide +kernel⟩
theorem ok_is_frame (T : Txt K mg) (G_check_size : Good P w K mg base (L2N.CX P w) 2 "check_size" ["width", "height"] [] (sp_check_size K)) : Good P w K mg base (L2N.CX P w) 3 "is_frame" ["width", "height", "name"] [] (sp_is_frame K) := by
  obtain ⟨fd, F⟩ := T.c.def_ 5 (d := d_is_frame) rfl
  have b : Binds K fd ["width", "height", "name"] [] := F.bindsN fun _ _ _ _ _ _ us hl => match us, hl with | [_, _, _], _ => rfl
  refine ⟨⟨fd, [], F.ok sc_is_frame (fun vs H Q E h => ?_) (fun cdv A outer s H vs Q E hr h => ?_), .nil, b⟩, T.g_is_frame, F.kp⟩
  · obtain ⟨B, G, v, w, h, x, y, t, e, rfl, _⟩ := h
    all_goals rfl
  · obtain ⟨B, G, v, wd, ht, x, y, t, e, rfl, dv, hz, q⟩ := h
    all_goals refine ⟨_, PSs.nox (pss_cons (ps_expr (pe_own G_check_size (hr.mono (by decide)) (by rfl) passLN (pa_cons (pv 0) (pa_cons (pv 1) pa_nil)))) (pss_cons (ps_asg (pv 2) (pg_tup rfl (pgs_cons (by exact (pg_name (i := 3) sc_is_frame.nd rfl (Or.inl rfl))) (pgs_cons (by exact (pg_name (i := 4) sc_is_frame.nd rfl (Or.inl rfl))) (pgs_cons (by exact (pg_name (i := 5) sc_is_frame.nd rfl (Or.inl rfl))) pgs_nil))))) (pss_cons (ps_if (pt_cmpR op_eq (pv 5) pe_int (nomark _)) (pss_one (ps_ret (pe_or (pe_cmpR op_eq (pv 4) pe_int (nomark _)) (pe_one (pe_cmpR op_eq (pv 4) (pv 1) (nomark _)))))) pss_nil) (pss_one (ps_ret (pe_and (pe_cmpR op_eq (pv 5) pe_int (nomark _)) (pe_one (pe_or (pe_cmpR op_eq (pv 3) pe_int (nomark _)) (pe_one (pe_cmpR op_eq (pv 3) (pv 0) (nomark _))))))))))), ?_⟩
    refine sq_chkS rfl rfl e (fun z G1 H1 X1 => ?_) (fun z => by rw [hz] at z; cases z)
    refine sq_unpack (ds := [.int x, .int y, .int t]) (ed_var rfl (dp_mono X1.gg dv)) X1.ok rfl (fun vs G2 H2 X dvs => ?_)
    obtain rfl := dpAll_intsV (bs := [x, y, t]) dvs
    refine ⟨_, _, rfl, _, _, rfl, _, _, rfl, rfl, ?_⟩
    unfold frB at q
    refine sq_ifN (b := decide (t = 0)) (eb_is (eb_test (ed_op (ed_var rfl (.int t)) ed_int (rd_eq rfl))) diB) X.ok (fun c G3 H3 X3 => ?_) (fun c G3 H3 X3 => ?_)
    · rw [if_pos (of_decide_eq_true c)] at q
      exact st_ret (ed_is (ed_orV (ed_op (ed_var rfl (.int y)) ed_int (rd_eq rfl)) (fun _ => ed_op (ed_var rfl (.int y)) (ed_var rfl (.int ht)) (rd_eq rfl))) (by rw [diB, diB])) X3.ok (((q.mono X1).mono X).mono X3)
    · rw [if_neg (of_decide_eq_false c)] at q
      exact st_ret (ed_is (ed_andV (ed_op (ed_var rfl (.int t)) ed_int (rd_eq rfl)) (fun _ => ed_orV (ed_op (ed_var rfl (.int x)) ed_int (rd_eq rfl)) (fun _ => ed_op (ed_var rfl (.int x)) (ed_var rfl (.int wd)) (rd_eq rfl)))) (by rw [diB, diB, diB])) X3.ok (((q.mono X1).mono X).mono X3)
theorem ed_is_frame {B : Bg} {G : Hp} {σ : L2.St} {tr : TA} {E : XK} {wd ht x y t : Int} (ha : EvA K B tr σ G [.int wd, .int ht, encT [x, y, t]]) (hz : (okS wd && okS ht) = true) : EvD K B (tCall (sp_is_frame K) [] E tr) σ G (.bool (frB wd ht x y t)) :=
  ed_call ha fun vs G2 H2 _ e dv Q q => by
    cases dv with
    | cons h0 a0 =>
      cases a0 with
      | cons h1 a1 =>
        cases a1 with
        | cons h2 a2 =>
          cases a2
          exact ⟨B, G2, _, wd, ht, x, y, t, e, by rw [dp_int h0, dp_int h1]; rfl, h2, hz, q⟩
/-! stays -/
def stayB (w h x y t : Int) : Bool := onB w h (x + 1 * dx t) (y + 1 * dy t)
def sp_stays (K : Fg) : Sp := fun vs H Q E => ∃ (B : Bg) (G : Hp) (w h x y t : Int), Ok K B G H ∧ vs = [.int w, .int h, .int x, .int y, .int t] ∧ okT t ∧ Ret K B G H Q (.bool (stayB w h x y t))
abbrev N_stays : List Str := ["width", "height", "x", "y", "turn", "far_x", "far_y"]
theorem sc_stays : FnScope N_stays ["width", "height", "x", "y", "turn"] (defScope s_stays) := ⟨rfl, rfl, rfl, by decide +kernel, rfl, by decide +kernel, by decide +kernel⟩
theorem ok_stays (T : Txt K mg) (G_step_d1 : Good P w K mg base (L2N.CX P w) 2 "step" ["x", "y", "turn", "many"] [.int 1] (sp_step K)) (G_is_point : Good P w K mg base (L2N.CX P w) 1 "is_point" ["width", "height", "x", "y"] [] (sp_is_point K)) : Good P w K mg base (L2N.CX P w) 3 "stays" ["width", "height", "x", "y", "turn"] [] (sp_stays K) := by
  obtain ⟨fd, F⟩ := T.c.def_ 6 (d := d_stays) rfl
  have b : Binds K fd ["width", "height", "x", "y", "turn"] [] := F.bindsN fun _ _ _ _ _ _ us hl => match us, hl with | [_, _, _, _, _], _ => rfl
  refine ⟨⟨fd, [], F.ok sc_stays (fun vs H Q E h => ?_) (fun cdv A outer s H vs Q E hr h => ?_), .nil, b⟩, T.g_stays, F.kp⟩
  · obtain ⟨B, G, w, h, x, y, t, e, rfl, _⟩ := h
    all_goals rfl
  · obtain ⟨B, G, wd, ht, x, y, t, e, rfl, z, q⟩ := h
    all_goals refine ⟨_, PSs.nox (pss_cons (ps_asg (pe_own G_step_d1 (hr.mono (by decide)) (by rfl) passLN (pa_cons (pv 2) (pa_cons (pv 3) (pa_cons (pv 4) pa_nil)))) (pg_tup rfl (pgs_cons (by exact (pg_name (i := 5) sc_stays.nd rfl (Or.inl rfl))) (pgs_cons (by exact (pg_name (i := 6) sc_stays.nd rfl (Or.inl rfl))) pgs_nil)))) (pss_one (ps_ret (pe_own G_is_point (hr.mono (by decide)) (by rfl) passLN (pa_cons (pv 0) (pa_cons (pv 1) (pa_cons (pv 5) (pa_cons (pv 6) pa_nil)))))))), ?_⟩
    refine sq_unpack (ds := [.int (x + 1 * dx t), .int (y + 1 * dy t)]) (ed_step (ea_cons (ed_var rfl (.int x)) (ea_cons (ed_var rfl (.int y)) (ea_cons (ed_var rfl (.int t)) ea_nil))) z) e rfl (fun vs G2 H2 X dvs => ?_)
    obtain rfl := dpAll_intsV (bs := [x + 1 * dx t, y + 1 * dy t]) dvs
    refine ⟨_, _, rfl, _, _, rfl, rfl, ?_⟩
    exact st_ret (ed_is_point (ea_cons (ed_var rfl (.int wd)) (ea_cons (ed_var rfl (.int ht)) (ea_cons (ed_var rfl (.int _)) (ea_cons (ed_var rfl (.int _)) ea_nil))))) X.ok (q.mono X)
theorem ed_stays {B : Bg} {G : Hp} {σ : L2.St} {tr : TA} {E : XK} {wd ht x y t : Int} (ha : EvA K B tr σ G [.int wd, .int ht, .int x, .int y, .int t]) (z : okT t) : EvD K B (tCall (sp_stays K) [] E tr) σ G (.bool (stayB wd ht x y t)) :=
  ed_call ha fun vs G2 H2 _ e dv Q q => ⟨B, G2, wd, ht, x, y, t, e, by rw [List.append_nil]; exact dpAll_intsV (bs := [wd, ht, x, y, t]) dv, z, q⟩
/-! all_leads -/
def rowB (w h x y : Int) : List (List Int) := (List.range 4).flatMap fun t : Nat => if stayB w h x y t then [[x, y, (t : Int)]] else []
def colB (w h x : Int) : List (List Int) := (List.range (h.toNat + 1)).flatMap fun y : Nat => rowB w h x y
def allB (w h : Int) : List (List Int) := (List.range (w.toNat + 1)).flatMap fun x : Nat => colB w h x
theorem flat_le {β : Type} {f : Nat → List β} {c : Nat} : ∀ n, (∀ j, j < n → (f j).length ≤ c) → ((List.range n).flatMap f).length ≤ n * c
  | 0, _ => by simp
  | n + 1, h => by
    rw [flat_one (α := Nat), List.length_append, Nat.succ_mul]
    have := flat_le n fun j hj => h j (by omega)
    have := h n (by omega)
    omega
theorem rowB_len (w h x y : Int) : (rowB w h x y).length ≤ 4 := by
  refine flat_le (c := 1) 4 fun t _ => ?_
  split <;> simp
theorem colB_len (w h x : Int) (hh : h ≤ 9) : (colB w h x).length ≤ 40 := by
  have := flat_le (f := fun y : Nat => rowB w h x y) (c := 4) (h.toNat + 1) fun y _ => rowB_len w h x y
  unfold colB
  omega
theorem allB_len (w h : Int) (hw : w ≤ 9) (hh : h ≤ 9) : (allB w h).length ≤ 400 := by
  have := flat_le (f := fun x : Nat => colB w h x) (c := 40) (w.toNat + 1) fun x _ => colB_len w h x hh
  unfold allB
  omega
theorem rowB_enc (w h x y : Int) : ((List.range 4).flatMap fun t : Nat => if stayB w h x y t then [encT [x, y, (t : Int)]] else []) = (rowB w h x y).map encT := by
  unfold rowB
  rw [List.map_flatMap]
  congr 1
  funext t
  split <;> rfl
theorem colB_enc (w h x : Int) : ((List.range (h.toNat + 1)).flatMap fun y : Nat => (rowB w h x y).map encT) = (colB w h x).map encT := by
  unfold colB
  rw [List.map_flatMap]
theorem allB_enc (w h : Int) : ((List.range (w.toNat + 1)).flatMap fun x : Nat => (colB w h x).map encT) = (allB w h).map encT := by
  unfold allB
  rw [List.map_flatMap]
def sp_all_leads (K : Fg) : Sp := fun vs H Q E => ∃ (B : Bg) (G : Hp) (w h : Int), Ok K B G H ∧ vs = [.int w, .int h] ∧ (okS w && okS h) = true ∧ Ret K B G H Q (.list ((allB w h).map encT))
abbrev N_all_leads : List Str := ["width", "height", "x", "y", "turn"]
theorem sc_all_leads : FnScope N_all_leads ["width", "height"] (defScope s_all_leads) := ⟨rfl, rfl, rfl, by decide +kernel, rfl, by decide +kernel, by decide +kernel⟩
theorem ok_all_leads (T : Txt K mg) (G_check_size : Good P w K mg base (L2N.CX P w) 2 "check_size" ["width", "height"] [] (sp_check_size K)) (G_stays : Good P w K mg base (L2N.CX P w) 3 "stays" ["width", "height", "x", "y", "turn"] [] (sp_stays K)) : Good P w K mg base (L2N.CX P w) 4 "all_leads" ["width", "height"] [] (sp_all_leads K) := by
  obtain ⟨fd, F⟩ := T.c.def_ 7 (d := d_all_leads) rfl
  have b : Binds K fd ["width", "height"] [] := F.bindsN fun _ _ _ _ _ _ us hl => match us, hl with | [_, _], _ => rfl
  refine ⟨⟨fd, [], F.ok sc_all_leads (fun vs H Q E h => ?_) (fun cdv A outer s H vs Q E hr h => ?_), .nil, b⟩, T.g_all_leads, F.kp⟩
  · obtain ⟨B, G, w, h, e, rfl, _⟩ := h
    all_goals rfl
  · obtain ⟨B, G, wd, ht, e, rfl, hz, q⟩ := h
    all_goals refine ⟨_, PSs.nox (pss_cons (ps_expr (pe_own G_check_size (hr.mono (by decide)) (by rfl) passLN (pa_cons (pv 0) (pa_cons (pv 1) pa_nil)))) (pss_one (ps_ret (pe_lcB (own := [("x", 2), ("y", 3), ("turn", 4)]) (vs' := [3, 4]) (g := gName 2) rfl sc_all_leads.nd (pi_range1 (by rfl) T.f_range (pa_cons (pe_op op_add (pv 0) pe_int) pa_nil)) (blkOk_by (own := [("x", 2), ("y", 3), ("turn", 4)]) (N := N_all_leads) (sc := defScope s_all_leads) (by decide +kernel)) (by decide) (fun _ _ _ _ _ => (pg_name (i := 2) sc_all_leads.nd rfl (Or.inl rfl))) (fun _ _ _ _ _ => pts_nil) (fun _ _ _ _ _ => (pb_for (vs := [3, 4]) (vs' := [4]) (g := gName 3) rfl rfl rfl (by exact (pi_range1 (by rfl) T.f_range (pa_cons (pe_op op_add (pv 1) pe_int) pa_nil))) (pg_name (i := 3) sc_all_leads.nd rfl (Or.inl rfl)) pts_nil (by decide) (pb_for (vs := [4]) (vs' := []) (g := gName 4) rfl rfl rfl (by exact (pi_range1 (by rfl) T.f_range (pa_cons pe_int pa_nil))) (pg_name (i := 4) sc_all_leads.nd rfl (Or.inl rfl)) (pts_one (by exact (pt_val (pe_own G_stays (hr.mono (by decide)) (by rfl) passLN (pa_cons (pv 0) (pa_cons (pv 1) (pa_cons (pv 2) (pa_cons (pv 3) (pa_cons (pv 4) pa_nil))))))))) (by decide) (pb_elt rfl rfl (pe_tup (pa_cons (pv 2) (pa_cons (pv 3) (pa_cons (pv 4) pa_nil)))))))))))), ?_⟩
    refine sq_chkS rfl rfl e (fun z G1 H1 X1 => ?_) (fun z => by rw [hz] at z; cases z)
    obtain ⟨zw, zh⟩ := Bool.and_eq_true_iff.mp hz
    have hw := okS_iff.mp zw
    have hh := okS_iff.mp zh
    have ew : ((wd.toNat + 1 : Nat) : Int) = wd + 1 := by omega
    have eh : ((ht.toNat + 1 : Nat) : Int) = ht + 1 := by omega
    have al := allB_len wd ht hw.2 hh.2
    refine st_ret (EvF.ed (ed_isF (ef_lcBR (n := wd.toNat + 1) (b := fun _ => true) (f := fun x : Nat => (colB wd ht x).map encT) (ea_cons (ed_is (ed_op (ed_var rfl (.int wd)) ed_int rd_I0) (by rw [ew])) ea_nil) (by decide) (fun _ _ => eb_yes) (fun x hx _ => ?_) (fun _ _ c => by cases c) (by omega) (by rw [allB_enc, List.length_map]; omega)) (allB_enc wd ht))) X1.ok (q.mono X1)
    refine EvBd.is (bd_R (n := ht.toNat + 1) (b := fun _ => true) (f := fun y : Nat => (rowB wd ht x y).map encT) (ea_cons (ed_is (ed_op (ed_var rfl (.int ht)) ed_int rd_I0) (by rw [eh])) ea_nil) (by decide) (fun _ _ => eb_yes) (fun y hy _ => ?_) (fun _ _ c => by cases c) (by omega)) (colB_enc wd ht x)
    refine EvBd.is (bd_R (n := 4) (b := fun t : Nat => stayB wd ht x y t) (f := fun t : Nat => if stayB wd ht x y t then [encT [(x : Int), (y : Int), (t : Int)]] else []) (ea_cons ed_int ea_nil) (by decide) (fun t ht' => ?_) (fun t ht' c => ?_) (fun t ht' c => by rw [c]; rfl) (by decide)) (rowB_enc wd ht x y)
    · exact eb_B (ed_stays (ea_cons (ed_var rfl (.int wd)) (ea_cons (ed_var rfl (.int ht)) (ea_cons (ed_var rfl (.int _)) (ea_cons (ed_var rfl (.int _)) (ea_cons (ed_var rfl (.int _)) ea_nil))))) ⟨by omega, by omega⟩)
    · have c : stayB wd ht x y t = true := c
      show EvBd _ _ _ _ _ (if stayB wd ht x y t = true then _ else _)
      rw [if_pos c]
      exact bd_E (ed_tup (ea_cons (ed_var rfl (.int _)) (ea_cons (ed_var rfl (.int _)) (ea_cons (ed_var rfl (.int _)) ea_nil))) (Nat.le_of_ble_eq_true rfl))
theorem ed_all_leads {B : Bg} {G : Hp} {σ : L2.St} {tr : TA} {E : XK} {wd ht : Int} (ha : EvA K B tr σ G [.int wd, .int ht]) (hz : (okS wd && okS ht) = true) : EvD K B (tCall (sp_all_leads K) [] E tr) σ G (.list ((allB wd ht).map encT)) :=
  ed_call ha fun vs G2 H2 _ e dv Q q => ⟨B, G2, wd, ht, e, by rw [List.append_nil]; exact dpAll_intsV (bs := [wd, ht]) dv, hz, q⟩
/-! frame -/
def frN (w h : Int) : List Int → Bool
  | [x, y, t] => frB w h x y t
  | _ => false
def frD (w h : Int) : PyData → Bool
  | .tuple [.int x, .int y, .int t] => frB w h x y t
  | _ => false
def frameB (w h : Int) : List (List Int) := (allB w h).filter fun l => frN w h l
theorem rowB_mem {w h x y : Int} {l : List Int} (hl : l ∈ rowB w h x y) : ∃ t : Int, l = [x, y, t] ∧ 0 ≤ t ∧ t ≤ 3 ∧ stayB w h x y t = true := by
  unfold rowB at hl
  obtain ⟨t, ht, e⟩ := List.mem_flatMap.mp hl
  have h4 := List.mem_range.mp ht
  by_cases c : stayB w h x y t = true
  · rw [if_pos c] at e
    exact ⟨(t : Int), List.mem_singleton.mp e, by omega, by omega, c⟩
  · rw [if_neg c] at e
    cases e
theorem allB_mem {w h : Int} {l : List Int} (hw : 0 ≤ w) (hh : 0 ≤ h) (hl : l ∈ allB w h) : ∃ x y t : Int, l = [x, y, t] ∧ (0 ≤ x ∧ x ≤ w) ∧ (0 ≤ y ∧ y ≤ h) ∧ (0 ≤ t ∧ t ≤ 3) ∧ stayB w h x y t = true := by
  unfold allB colB at hl
  obtain ⟨x, hx, hl⟩ := List.mem_flatMap.mp hl
  obtain ⟨y, hy, hl⟩ := List.mem_flatMap.mp hl
  obtain ⟨t, e, h1, h2, h3⟩ := rowB_mem hl
  have := List.mem_range.mp hx
  have := List.mem_range.mp hy
  exact ⟨x, y, t, e, ⟨by omega, by omega⟩, ⟨by omega, by omega⟩, ⟨h1, h2⟩, h3⟩
theorem filtB_enc {p : List Int → Bool} {f : PyData → Option PyData} : ∀ {ls : List (List Int)}, (∀ l ∈ ls, f (encT l) = if p l then some (encT l) else none) → (ls.map encT).filterMap f = (ls.filter p).map encT
  | [], _ => rfl
  | l :: ls, h => by
    have ih := filtB_enc (ls := ls) fun k hk => h k (List.mem_cons_of_mem _ hk)
    have h0 := h l List.mem_cons_self
    rw [List.map_cons, List.filterMap_cons, h0, ih, List.filter_cons]
    by_cases c : p l = true
    · simp only [c, if_true, List.map_cons]
    · simp only [c, if_false, Bool.false_eq_true]
def sp_frame (K : Fg) : Sp := fun vs H Q E => ∃ (B : Bg) (G : Hp) (w h : Int), Ok K B G H ∧ vs = [.int w, .int h] ∧ (okS w && okS h) = true ∧ RetF K B G H Q ((frameB w h).map encT)
abbrev N_frame : List Str := ["width", "height", "name"]
theorem sc_frame : FnScope N_frame ["width", "height"] (defScope s_frame) := ⟨rfl, rfl, rfl, by decide +kernel, rfl, by decide +kernel, by decide +kernel⟩
theorem ok_frame (T : Txt K mg) (G_all_leads : Good P w K mg base (L2N.CX P w) 4 "all_leads" ["width", "height"] [] (sp_all_leads K)) (G_is_frame : Good P w K mg base (L2N.CX P w) 3 "is_frame" ["width", "height", "name"] [] (sp_is_frame K)) : Good P w K mg base (L2N.CX P w) 5 "frame" ["width", "height"] [] (sp_frame K) := by
  obtain ⟨fd, F⟩ := T.c.def_ 8 (d := d_frame) rfl
  have b : Binds K fd ["width", "height"] [] := F.bindsN fun _ _ _ _ _ _ us hl => match us, hl with | [_, _], _ => rfl
  refine ⟨⟨fd, [], F.ok sc_frame (fun vs H Q E h => ?_) (fun cdv A outer s H vs Q E hr h => ?_), .nil, b⟩, T.g_frame, F.kp⟩
  · obtain ⟨B, G, w, h, e, rfl, _⟩ := h
    all_goals rfl
  · obtain ⟨B, G, wd, ht, e, rfl, hz, q⟩ := h
    all_goals refine ⟨_, PSs.nox (pss_one (ps_ret (pe_lc (own := [("name", 2)]) (g := gName 2) rfl sc_frame.nd (pi_list (pe_own G_all_leads (hr.mono (by decide)) (by rfl) passLN (pa_cons (pv 0) (pa_cons (pv 1) pa_nil)))) (blkOk_by (own := [("name", 2)]) (N := N_frame) (sc := defScope s_frame) (by decide +kernel)) (fun _ _ _ _ _ => (pg_name (i := 2) sc_frame.nd rfl (Or.inl rfl))) (fun _ _ _ _ _ => (pts_one (pt_val (pe_own G_is_frame (hr.mono (by decide)) (by rfl) passLN (pa_cons (pv 0) (pa_cons (pv 1) (pa_cons (pv 2) pa_nil))))))) (fun _ _ _ _ _ => (pv 2))))), ?_⟩
    obtain ⟨zw, zh⟩ := Bool.and_eq_true_iff.mp hz
    have hw := okS_iff.mp zw
    have hh := okS_iff.mp zh
    have al := allB_len wd ht hw.2 hh.2
    refine st_retF (ed_isF (ef_lcL (f := fun d => if frD wd ht d then some d else none) (ed_all_leads (ea_cons (ed_var rfl (.int wd)) (ea_cons (ed_var rfl (.int ht)) ea_nil)) hz) (by rw [List.length_map]; omega) (fun d u G' md eg cg du => ?_) (fun d u y G' md eg cg du ey => ?_)) (filtB_enc (p := fun l => frN wd ht l) fun l hl => ?_)) e q
    · obtain ⟨l, hl, rfl⟩ := List.mem_map.mp md
      obtain ⟨x, y, t, rfl, _⟩ := allB_mem (by omega) (by omega) hl
      refine eb_is (eb_B (ed_is_frame (ea_cons (ed_var rfl (.int wd)) (ea_cons (ed_var rfl (.int ht)) (ea_cons (ed_var rfl du) ea_nil))) hz)) ?_
      show frB wd ht x y t = (if frB wd ht x y t then some (encT [x, y, t]) else none).isSome
      cases frB wd ht x y t <;> rfl
    · have e0 : y = d := by
        revert ey
        cases frD wd ht d with
        | false => exact fun h => by cases h
        | true => exact fun h => (Option.some.inj h).symm
      subst e0
      exact ed_var rfl du
    · obtain ⟨x, y, t, rfl, _⟩ := allB_mem (by omega) (by omega) hl
      rfl
theorem ef_frame {B : Bg} {G : Hp} {σ : L2.St} {tr : TA} {E : XK} {wd ht : Int} (ha : EvA K B tr σ G [.int wd, .int ht]) (hz : (okS wd && okS ht) = true) : EvF K B (tCall (sp_frame K) [] E tr) σ G ((frameB wd ht).map encT) :=
  ef_call ha fun vs G2 H2 _ e dv Q q => ⟨B, G2, wd, ht, e, by rw [List.append_nil]; exact dpAll_intsV (bs := [wd, ht]) dv, hz, q⟩
/-! count_quarters -/
def sp_count_quarters (K : Fg) : Sp := fun vs H Q E => ∃ (B : Bg) (G : Hp) (x y : Int), Ok K B G H ∧ vs = [.int x, .int y] ∧ (1 ≤ x ∧ x ≤ 9) ∧ Ret K B G H Q (.int (4 * x * y))
abbrev N_count_quarters : List Str := ["width", "height"]
theorem sc_count_quarters : FnScope N_count_quarters ["width", "height"] (defScope s_count_quarters) := ⟨rfl, rfl, rfl, by decide +kernel, rfl, by decide +kernel, by decide +kernel⟩
theorem ok_count_quarters (T : Txt K mg)  : Good P w K mg base (L2N.CX P w) 1 "count_quarters" ["width", "height"] [] (sp_count_quarters K) := by
  obtain ⟨fd, F⟩ := T.c.def_ 9 (d := d_count_quarters) rfl
  have b : Binds K fd ["width", "height"] [] := F.bindsN fun _ _ _ _ _ _ us hl => match us, hl with | [_, _], _ => rfl
  refine ⟨⟨fd, [], F.ok sc_count_quarters (fun vs H Q E h => ?_) (fun cdv A outer s H vs Q E hr h => ?_), .nil, b⟩, T.g_count_quarters, F.kp⟩
  · obtain ⟨B, G, x, y, e, rfl, _⟩ := h
    all_goals rfl
  · obtain ⟨B, G, x, y, e, rfl, z, q⟩ := h
    all_goals refine ⟨_, PSs.nox (pss_one (ps_ret (pe_op op_mul (pe_op op_mul pe_int (pv 0)) (pv 1)))), ?_⟩
    exact st_ret (ed_op (ed_op ed_int (ed_var rfl (.int x)) (rd_I (.inl (by decide)))) (ed_var rfl (.int y)) (rd_I (.inl ⟨by omega, by omega⟩))) e q
theorem ed_count {B : Bg} {G : Hp} {σ : L2.St} {tr : TA} {E : XK} {x y : Int} (ha : EvA K B tr σ G [.int x, .int y]) (hx : 1 ≤ x ∧ x ≤ 9) : EvD K B (tCall (sp_count_quarters K) [] E tr) σ G (.int (4 * x * y)) :=
  ed_call ha fun vs G2 H2 _ e dv Q q => ⟨B, G2, x, y, e, by rw [List.append_nil]; exact dpAll_intsV (bs := [x, y]) dv, hx, q⟩
/-! place_of -/
def placeD (w n : Int) : PyData := .tuple [.int (n / 4 % w), .int (n / 4 / w), .int (n % 4)]
def sp_place_of (K : Fg) : Sp := fun vs H Q E => ∃ (B : Bg) (G : Hp) (v : V) (w h : Int) (L g : PyData) (n : Int), Ok K B G H ∧ vs = [v, .int n] ∧ Dp K G v (.tuple [.int w, .int h, L, g]) ∧ (1 ≤ w ∧ w ≤ 9) ∧ ((0 ≤ n ∧ n < 4 * w * h) → Ret K B G H Q (placeD w n)) ∧ (¬ (0 ≤ n ∧ n < 4 * w * h) → Rai K B G H E (He.ga K "BadQuarter"))
abbrev N_place_of : List Str := ["plan", "quarter", "width", "height", "cell"]
theorem sc_place_of : FnScope N_place_of ["plan", "quarter"] (defScope s_place_of) := ⟨rfl, rfl, rfl, by decide +kernel, rfl, by decide +kernel, by decide +kernel⟩
theorem ok_place_of (T : Txt K mg) (G_count_quarters : Good P w K mg base (L2N.CX P w) 1 "count_quarters" ["width", "height"] [] (sp_count_quarters K)) : Good P w K mg base (L2N.CX P w) 2 "place_of" ["plan", "quarter"] [] (sp_place_of K) := by
  obtain ⟨fd, F⟩ := T.c.def_ 10 (d := d_place_of) rfl
  have b : Binds K fd ["plan", "quarter"] [] := F.bindsN fun _ _ _ _ _ _ us hl => match us, hl with | [_, _], _ => rfl
  refine ⟨⟨fd, [], F.ok sc_place_of (fun vs H Q E h => ?_) (fun cdv A outer s H vs Q E hr h => ?_), .nil, b⟩, T.g_place_of, F.kp⟩
  · obtain ⟨B, G, v, w, h, L, g, n, e, rfl, _⟩ := h
    all_goals rfl
  · obtain ⟨B, G, v, wd, ht, L, g, n, e, rfl, dv, hw, q, r⟩ := h
    all_goals refine ⟨_, (pss_cons (ps_par (i := 2) (j := 3) (by rfl) sc_place_of.nd rfl rfl (by decide) rfl rfl (pa_cons (pe_ix (r := rIxT K) ix_tup (pv 0) pe_int (fun _ _ => rfl)) (pa_cons (pe_ix (r := rIxT K) ix_tup (pv 0) pe_int (fun _ _ => rfl)) pa_nil)) (by rfl)) (pss_cons (ps_if (pt_not (pt_chain op_le op_lt pe_int (pv 1) (pe_own G_count_quarters (hr.mono (by decide)) (by rfl) (L2N.passes_call (L2N.takes_of rfl rfl rfl rfl) (fun _ _ _ _ h => h)) (pa_cons (pv 2) (pa_cons (pv 3) pa_nil))))) (pss_one (L2N.ps_raise rfl (L2N.takes_of rfl rfl rfl rfl) (L2N.pmk_own PySem.F.excBase_ValueError T.x_BadQuarter T.g_BadQuarter T.k_BadQuarter (raises_own T.b_BadQuarter T.t_BadQuarter) (by rfl)))) pss_nil) (pss_cons (ps_set (i := 4) sc_place_of.nd rfl (Or.inl rfl) (pe_op op_fdivW (pv 1) pe_int)) (pss_one (ps_ret (pe_tup (pa_cons (pe_op op_mod (pv 4) (pv 2)) (pa_cons (pe_op op_fdivW (pv 4) (pv 2)) (pa_cons (pe_op op_mod (pv 1) pe_int) pa_nil))))))))), ?_⟩
    refine sq_par (ea_cons (ed_op (ed_var rfl dv) ed_int (rd_ixT (i := 0) rfl)) (ea_cons (ed_op (ed_var rfl dv) ed_int (rd_ixT (i := 1) rfl)) ea_nil)) e (fun v1 v2 G2 H2 X d1 d2 => ?_)
    obtain rfl := dp_int d1
    obtain rfl := dp_int d2
    refine sq_ifN (eb_not (eb_test (ed_chain (k1 := decide (0 ≤ n)) (k2 := decide (n < 4 * wd * ht)) ed_int (ed_var rfl (.int n)) (fun _ => ed_count (ea_cons (ed_var rfl (.int wd)) (ea_cons (ed_var rfl (.int ht)) ea_nil)) hw) rd_B0 (fun _ => rd_B0)))) X.ok (fun c G3 H3 X3 => ?_) (fun c G3 H3 X3 => ?_)
    · refine r (fun z => ?_) G3 H3 (X.trans X3)
      rw [decide_eq_true z.1, decide_eq_true z.2] at c
      cases c
    · have z : 0 ≤ n ∧ n < 4 * wd * ht := by simpa using c
      refine sq_set (ed_op (ed_var rfl (.int n)) ed_int (rd_I (C := CDivW) ⟨by decide, by decide +kernel⟩)) X3.ok (fun v G4 H4 X4 d4 => ?_)
      obtain rfl := dp_int d4
      have cw : CDivW (n / 4) wd := ⟨by omega, lg (by omega) (by omega)⟩
      exact st_ret (ed_tup (ea_cons (ed_op (ed_var rfl (.int _)) (ed_var rfl (.int wd)) (rd_I (by omega))) (ea_cons (ed_op (ed_var rfl (.int _)) (ed_var rfl (.int wd)) (rd_I cw)) (ea_cons (ed_op (ed_var rfl (.int n)) ed_int (rd_I (by decide))) ea_nil))) (Nat.le_of_ble_eq_true rfl)) X4.ok ((q z).mono ((X.trans X3).trans X4))
/-! quarter_at -/
def qAt (w x y p : Int) : Int := 4 * (y * w + x) + p
def sp_quarter_at (K : Fg) : Sp := fun vs H Q E => ∃ (B : Bg) (G : Hp) (v : V) (w h : Int) (L g : PyData) (x y p : Int), Ok K B G H ∧ vs = [v, .int x, .int y, .int p] ∧ Dp K G v (.tuple [.int w, .int h, L, g]) ∧ (1 ≤ w ∧ w ≤ 9) ∧ Ret K B G H Q (.int (qAt w x y p))
abbrev N_quarter_at : List Str := ["plan", "x", "y", "part"]
theorem sc_quarter_at : FnScope N_quarter_at ["plan", "x", "y", "part"] (defScope s_quarter_at) := ⟨rfl, rfl, rfl, by decide +kernel, rfl, by decide +kernel, by decide +kernel⟩
theorem ok_quarter_at (T : Txt K mg)  : Good P w K mg base (L2N.CX P w) 1 "quarter_at" ["plan", "x", "y", "part"] [] (sp_quarter_at K) := by
  obtain ⟨fd, F⟩ := T.c.def_ 11 (d := d_quarter_at) rfl
  have b : Binds K fd ["plan", "x", "y", "part"] [] := F.bindsN fun _ _ _ _ _ _ us hl => match us, hl with | [_, _, _, _], _ => rfl
  refine ⟨⟨fd, [], F.ok sc_quarter_at (fun vs H Q E h => ?_) (fun cdv A outer s H vs Q E hr h => ?_), .nil, b⟩, T.g_quarter_at, F.kp⟩
  · obtain ⟨B, G, v, w, h, L, g, x, y, p, e, rfl, _⟩ := h
    all_goals rfl
  · obtain ⟨B, G, v, wd, ht, L, g, x, y, p, e, rfl, dv, hw, q⟩ := h
    all_goals refine ⟨_, PSs.nox (pss_one (ps_ret (pe_op op_add (pe_op op_mul pe_int (pe_op op_add (pe_op op_mul (pv 2) (pe_ix (r := rIxT K) ix_tup (pv 0) pe_int (fun _ _ => rfl))) (pv 1))) (pv 3)))), ?_⟩
    exact st_ret (ed_op (ed_op ed_int (ed_op (ed_op (ed_var rfl (.int y)) (ed_op (ed_var rfl dv) ed_int (rd_ixT (i := 0) rfl)) (rd_I (.inr ⟨by omega, by omega⟩))) (ed_var rfl (.int x)) rd_I0) (rd_I (.inl (by decide)))) (ed_var rfl (.int p)) rd_I0) e q
theorem ed_qat {B : Bg} {G : Hp} {σ : L2.St} {tr : TA} {E : XK} {wd ht x y p : Int} {L g : PyData} (ha : EvA K B tr σ G [.tuple [.int wd, .int ht, L, g], .int x, .int y, .int p]) (hw : 1 ≤ wd ∧ wd ≤ 9) : EvD K B (tCall (sp_quarter_at K) [] E tr) σ G (.int (qAt wd x y p)) :=
  ed_call ha fun vs G2 H2 _ e dv Q q => by
    cases dv with
    | cons h0 a =>
      obtain rfl := dpAll_intsV (bs := [x, y, p]) a
      exact ⟨B, G2, _, wd, ht, L, g, x, y, p, e, rfl, h0, hw, q⟩
/-! leads_of -/
def sp_leads_of (K : Fg) : Sp := fun vs H Q E => ∃ (B : Bg) (G : Hp) (v : V) (w h : Int) (ls : List (List Int)) (g : PyData), Ok K B G H ∧ vs = [v] ∧ Dp K G v (.tuple [.int w, .int h, .tuple (ls.map encT), g]) ∧ (okS w && okS h) = true ∧ ls.length ≤ 1000 ∧ (∀ l ∈ ls, l ≠ []) ∧ RetF K B G H Q ((srtL (ls ++ frameB w h)).map encT)
abbrev N_leads_of : List Str := ["plan"]
theorem sc_leads_of : FnScope N_leads_of ["plan"] (defScope s_leads_of) := ⟨rfl, rfl, rfl, by decide +kernel, rfl, by decide +kernel, by decide +kernel⟩
theorem ok_leads_of (T : Txt K mg) (G_frame : Good P w K mg base (L2N.CX P w) 5 "frame" ["width", "height"] [] (sp_frame K)) : Good P w K mg base (L2N.CX P w) 6 "leads_of" ["plan"] [] (sp_leads_of K) := by
  obtain ⟨fd, F⟩ := T.c.def_ 12 (d := d_leads_of) rfl
  have b : Binds K fd ["plan"] [] := F.bindsN fun _ _ _ _ _ _ us hl => match us, hl with | [_], _ => rfl
  refine ⟨⟨fd, [], F.ok sc_leads_of (fun vs H Q E h => ?_) (fun cdv A outer s H vs Q E hr h => ?_), .nil, b⟩, T.g_leads_of, F.kp⟩
  · obtain ⟨B, G, v, w, h, ls, g, e, rfl, _⟩ := h
    all_goals rfl
  · obtain ⟨B, G, v, wd, ht, ls, g, e, rfl, dv, hz, hl, hn, q⟩ := h
    all_goals refine ⟨_, PSs.nox (pss_one (ps_ret (pe_callB (r := rSortedL K) cr_sortedL (by rfl) T.f_sorted (by decide +kernel) (pa_cons (pe_op op_cat (pe_callTy (r := rListS K) call_list_of (by rfl) T.f_list (by decide +kernel) (pa_cons (pe_ix (r := rIxT K) ix_tup (pv 0) pe_int (fun _ _ => rfl)) pa_nil)) (pe_own G_frame (hr.mono (by decide)) (by rfl) passLN (pa_cons (pe_ix (r := rIxT K) ix_tup (pv 0) pe_int (fun _ _ => rfl)) (pa_cons (pe_ix (r := rIxT K) ix_tup (pv 0) pe_int (fun _ _ => rfl)) pa_nil)))) pa_nil)))), ?_⟩
    obtain ⟨zw, zh⟩ := Bool.and_eq_true_iff.mp hz
    have hw := okS_iff.mp zw
    have hh := okS_iff.mp zh
    have fl : (frameB wd ht).length ≤ 400 := Nat.le_trans (List.length_filter_le _ _) (allB_len wd ht hw.2 hh.2)
    refine st_retF (ef_sorted (ls := ls ++ frameB wd ht) (ed_is (EvF.ed (ef_catF (ed_listOfT (ed_op (ed_var rfl dv) ed_int (rd_ixT rfl))) (ef_frame (ea_cons (ed_op (ed_var rfl dv) ed_int (rd_ixT (i := 0) rfl)) (ea_cons (ed_op (ed_var rfl dv) ed_int (rd_ixT (i := 1) rfl)) ea_nil)) hz) (by rw [List.length_map, List.length_map]; omega))) (by rw [List.map_append])) (fun l hl => ?_)) e q
    rcases mem_or hl with hl | hl
    · exact hn l hl
    · obtain ⟨x, y, t, rfl, _⟩ := allB_mem (by omega) (by omega) (List.mem_filter.mp hl).1
      exact List.cons_ne_nil _ _
theorem ef_leads_of {B : Bg} {G : Hp} {σ : L2.St} {tr : TA} {E : XK} {wd ht : Int} {ls : List (List Int)} {g : PyData} (ha : EvA K B tr σ G [.tuple [.int wd, .int ht, .tuple (ls.map encT), g]]) (hz : (okS wd && okS ht) = true) (hl : ls.length ≤ 1000) (hn : ∀ l ∈ ls, l ≠ []) : EvF K B (tCall (sp_leads_of K) [] E tr) σ G ((srtL (ls ++ frameB wd ht)).map encT) :=
  ef_call ha fun vs G2 H2 _ e dv Q q => by
    cases dv with
    | cons h a =>
      cases a
      exact ⟨B, G2, _, wd, ht, ls, g, e, rfl, h, hz, hl, hn, q⟩
/-! lying -/
def sp_lying (P : Program) (w : World) (K : Fg) : Sp := fun vs H Q E => ∃ (B : Bg) (G : Hp) (v : V) (wd h : Int) (ls : List (List Int)) (g : PyData), Ok K B G H ∧ vs = [v] ∧ Dp K G v (.tuple [.int wd, .int h, .tuple (ls.map encT), g]) ∧ (okS wd && okS h) = true ∧ ls.length ≤ 1000 ∧ (∀ l ∈ ls, l ≠ []) ∧ RetJ K P w B G H Q (srtL (ls ++ frameB wd h))
abbrev N_lying : List Str := ["plan", "name"]
theorem sc_lying : FnScope N_lying ["plan"] (defScope s_lying) := ⟨rfl, rfl, rfl, by decide +kernel, rfl, by decide +kernel, by decide +kernel⟩
theorem ok_lying (T : Txt K mg) (G_leads_of : Good P w K mg base (L2N.CX P w) 6 "leads_of" ["plan"] [] (sp_leads_of K)) : Good P w K mg base (L2N.CX P w) 7 "lying" ["plan"] [] (sp_lying P w K) := by
  obtain ⟨fd, F⟩ := T.c.def_ 13 (d := d_lying) rfl
  have b : Binds K fd ["plan"] [] := F.bindsN fun _ _ _ _ _ _ us hl => match us, hl with | [_], _ => rfl
  refine ⟨⟨fd, [], F.ok sc_lying (fun vs H Q E h => ?_) (fun cdv A outer s H vs Q E hr h => ?_), .nil, b⟩, T.g_lying, F.kp⟩
  · obtain ⟨B, G, v, w, h, ls, g, e, rfl, _⟩ := h
    all_goals rfl
  · obtain ⟨B, G, v, wd, ht, ls, g, e, rfl, dv, hz, hl, hn, q⟩ := h
    all_goals refine ⟨_, PSs.nox (pss_one (ps_ret (pe_dcG (own := [("name", 1)]) (g := gName 1) hr.units0 rfl sc_lying.nd (pi_list (pe_own G_leads_of (hr.mono (by decide)) (by rfl) passLN (pa_cons (pv 0) pa_nil))) (blkOk_by (own := [("name", 1)]) (N := N_lying) (sc := defScope s_lying) (by decide +kernel)) (fun _ _ _ _ _ => (pg_name (i := 1) sc_lying.nd rfl (Or.inl rfl))) (fun _ _ _ _ _ => pts_nil) (fun _ _ _ _ _ => (pv 1)) (fun _ _ _ _ _ => pe_bl)))), ?_⟩
    obtain ⟨zw, zh⟩ := Bool.and_eq_true_iff.mp hz
    have hw := okS_iff.mp zw
    have hh := okS_iff.mp zh
    have fl : (frameB wd ht).length ≤ 400 := Nat.le_trans (List.length_filter_le _ _) (allB_len wd ht hw.2 hh.2)
    refine st_retK (ek_dcL (EvF.ed (ef_leads_of (ea_cons (ed_var rfl dv) ea_nil) hz hl hn)) ?_ (fun _ => rfl)) e q
    rw [(srtL_perm _).length_eq, List.length_append]
    omega
theorem ek_lying {B : Bg} {G : Hp} {σ : L2.St} {tr : TA} {E : XK} {wd ht : Int} {ls : List (List Int)} {g : PyData} (ha : EvA K B tr σ G [.tuple [.int wd, .int ht, .tuple (ls.map encT), g]]) (hz : (okS wd && okS ht) = true) (hl : ls.length ≤ 1000) (hn : ∀ l ∈ ls, l ≠ []) : EvJ K P w B (tCall (sp_lying P w K) [] E tr) σ G (srtL (ls ++ frameB wd ht)) :=
  ek_call ha fun vs G2 H2 _ e dv Q q => by
    cases dv with
    | cons h a =>
      cases a
      exact ⟨B, G2, _, wd, ht, ls, g, e, rfl, h, hz, hl, hn, q⟩
/-! side_lead -/
def sdX (p : Int) : Int := [0, 1, 0, 0].getD p.toNat 0
def sdY (p : Int) : Int := [0, 0, 1, 0].getD p.toNat 0
def sdT (p : Int) : Int := [0, 2, 0, 2].getD p.toNat 0
theorem at_sd {p : Int} (h : 0 ≤ p ∧ p ≤ 3) : atI (([[0, 0, 0], [1, 0, 2], [0, 1, 0], [0, 0, 2]] : List (List Int)).map encT) p = some (encT [sdX p, sdY p, sdT p]) := by
  have : p = 0 ∨ p = 1 ∨ p = 2 ∨ p = 3 := by omega
  rcases this with rfl | rfl | rfl | rfl <;> rfl
def sdB (x y p : Int) : List Int := [x + sdX p, y + sdY p, sdT p]
def sp_side_lead (K : Fg) : Sp := fun vs H Q E => ∃ (B : Bg) (G : Hp) (x y p : Int), Ok K B G H ∧ vs = [.int x, .int y, .int p] ∧ (0 ≤ p ∧ p ≤ 3) ∧ Ret K B G H Q (encT (sdB x y p))
abbrev N_side_lead : List Str := ["x", "y", "part", "right", "down", "turn"]
theorem sc_side_lead : FnScope N_side_lead ["x", "y", "part"] (defScope s_side_lead) := ⟨rfl, rfl, rfl, by decide +kernel, rfl, by decide +kernel, by decide +kernel⟩
theorem ok_side_lead (T : Txt K mg)  : Good P w K mg base (L2N.CX P w) 1 "side_lead" ["x", "y", "part"] [] (sp_side_lead K) := by
  obtain ⟨fd, F⟩ := T.c.def_ 14 (d := d_side_lead) rfl
  have b : Binds K fd ["x", "y", "part"] [] := F.bindsN fun _ _ _ _ _ _ us hl => match us, hl with | [_, _, _], _ => rfl
  refine ⟨⟨fd, [], F.ok sc_side_lead (fun vs H Q E h => ?_) (fun cdv A outer s H vs Q E hr h => ?_), .nil, b⟩, T.g_side_lead, F.kp⟩
  · obtain ⟨B, G, x, y, p, e, rfl, _⟩ := h
    all_goals rfl
  · obtain ⟨B, G, x, y, p, e, rfl, hp, q⟩ := h
    all_goals refine ⟨_, PSs.nox (pss_cons (ps_asg (pe_ix (r := rIxT K) ix_tup (pe_glob (v := .ref (He.ga K "SIDE_LEADS")) (by rfl) T.g_SIDE_LEADS rfl) (pv 2) (fun _ _ => rfl)) (pg_tup rfl (pgs_cons (by exact (pg_name (i := 3) sc_side_lead.nd rfl (Or.inl rfl))) (pgs_cons (by exact (pg_name (i := 4) sc_side_lead.nd rfl (Or.inl rfl))) (pgs_cons (by exact (pg_name (i := 5) sc_side_lead.nd rfl (Or.inl rfl))) pgs_nil))))) (pss_one (ps_ret (pe_tup (pa_cons (pe_op op_add (pv 0) (pv 3)) (pa_cons (pe_op op_add (pv 1) (pv 4)) (pa_cons (pv 5) pa_nil))))))), ?_⟩
    refine sq_unpack (ds := [.int (sdX p), .int (sdY p), .int (sdT p)]) (ed_op (ed_c (T.dp_SIDE_LEADS _)) (ed_var rfl (.int p)) (rd_ixT (at_sd hp))) e rfl (fun vs G2 H2 X dvs => ?_)
    obtain rfl := dpAll_intsV (bs := [sdX p, sdY p, sdT p]) dvs
    refine ⟨_, _, rfl, _, _, rfl, _, _, rfl, rfl, ?_⟩
    exact st_ret (ed_tup (ea_cons (ed_op (ed_var rfl (.int x)) (ed_var rfl (.int _)) rd_I0) (ea_cons (ed_op (ed_var rfl (.int y)) (ed_var rfl (.int _)) rd_I0) (ea_cons (ed_var rfl (.int _)) ea_nil))) (Nat.le_of_ble_eq_true rfl)) X.ok (q.mono X)
theorem ed_side {B : Bg} {G : Hp} {σ : L2.St} {tr : TA} {E : XK} {x y p : Int} (ha : EvA K B tr σ G [.int x, .int y, .int p]) (hp : 0 ≤ p ∧ p ≤ 3) : EvD K B (tCall (sp_side_lead K) [] E tr) σ G (encT (sdB x y p)) :=
  ed_call ha fun vs G2 H2 _ e dv Q q => ⟨B, G2, x, y, p, e, by rw [List.append_nil]; exact dpAll_intsV (bs := [x, y, p]) dv, hp, q⟩
/-! slant_behind -/
def slB (x y p : Int) : List Int := if p = 0 ∨ p = 2 then [x + 1, y, 3] else [x, y, 1]
def sp_slant_behind (K : Fg) : Sp := fun vs H Q E => ∃ (B : Bg) (G : Hp) (x y p : Int), Ok K B G H ∧ vs = [.int x, .int y, .int p] ∧ Ret K B G H Q (encT (slB x y p))
abbrev N_slant_behind : List Str := ["x", "y", "part"]
theorem sc_slant_behind : FnScope N_slant_behind ["x", "y", "part"] (defScope s_slant_behind) := ⟨rfl, rfl, rfl, by decide +kernel, rfl, by decide +kernel, by decide +kernel⟩
theorem ok_slant_behind (T : Txt K mg)  : Good P w K mg base (L2N.CX P w) 1 "slant_behind" ["x", "y", "part"] [] (sp_slant_behind K) := by
  obtain ⟨fd, F⟩ := T.c.def_ 15 (d := d_slant_behind) rfl
  have b : Binds K fd ["x", "y", "part"] [] := F.bindsN fun _ _ _ _ _ _ us hl => match us, hl with | [_, _, _], _ => rfl
  refine ⟨⟨fd, [], F.ok sc_slant_behind (fun vs H Q E h => ?_) (fun cdv A outer s H vs Q E hr h => ?_), .nil, b⟩, T.g_slant_behind, F.kp⟩
  · obtain ⟨B, G, x, y, p, e, rfl, _⟩ := h
    all_goals rfl
  · obtain ⟨B, G, x, y, p, e, rfl, q⟩ := h
    all_goals refine ⟨_, PSs.nox (pss_cons (ps_if (PW.pt (pw_or (pt_cmpR op_eq (pv 2) pe_int (nomark _)) (pw_or1 (pt_cmpR op_eq (pv 2) pe_int (nomark _))))) (pss_one (ps_ret (pe_tup (pa_cons (pe_op op_add (pv 0) pe_int) (pa_cons (pv 1) (pa_cons pe_int pa_nil)))))) pss_nil) (pss_one (ps_ret (pe_tup (pa_cons (pv 0) (pa_cons (pv 1) (pa_cons pe_int pa_nil))))))), ?_⟩
    refine sq_ifN (b := decide (p = 0) || decide (p = 2)) (eb_is (eb_or (eb_test (ed_op (ed_var rfl (.int p)) ed_int (rd_eq rfl))) (fun _ => eb_test (ed_op (ed_var rfl (.int p)) ed_int (rd_eq rfl)))) (by rw [diB, diB])) e (fun c G2 H2 X => ?_) (fun c G2 H2 X => ?_)
    · have z : p = 0 ∨ p = 2 := by simpa using c
      unfold slB at q
      rw [if_pos z] at q
      exact st_ret (ed_tup (ea_cons (ed_op (ed_var rfl (.int x)) ed_int rd_I0) (ea_cons (ed_var rfl (.int y)) (ea_cons ed_int ea_nil))) (Nat.le_of_ble_eq_true rfl)) X.ok (q.mono X)
    · have z : ¬ (p = 0 ∨ p = 2) := by simpa using c
      unfold slB at q
      rw [if_neg z] at q
      exact st_ret (ed_tup (ea_cons (ed_var rfl (.int x)) (ea_cons (ed_var rfl (.int y)) (ea_cons ed_int ea_nil))) (Nat.le_of_ble_eq_true rfl)) X.ok (q.mono X)
theorem ed_slb {B : Bg} {G : Hp} {σ : L2.St} {tr : TA} {E : XK} {x y p : Int} (ha : EvA K B tr σ G [.int x, .int y, .int p]) : EvD K B (tCall (sp_slant_behind K) [] E tr) σ G (encT (slB x y p)) :=
  ed_call ha fun vs G2 H2 _ e dv Q q => ⟨B, G2, x, y, p, e, by rw [List.append_nil]; exact dpAll_intsV (bs := [x, y, p]) dv, q⟩
/-! tied_to -/
def stT (p : Int) : Int := [6, 0, 2, 4].getD p.toNat 0
theorem at_st {p : Int} (h : 0 ≤ p ∧ p ≤ 3) : atI (([6, 0, 2, 4] : List Int).map PyData.int) p = some (.int (stT p)) ∧ okT (stT p) := by
  have : p = 0 ∨ p = 1 ∨ p = 2 ∨ p = 3 := by omega
  rcases this with rfl | rfl | rfl | rfl <;> exact ⟨rfl, by decide⟩
/-- the quarters next to one, by its cell and part -/
def adC (w : Int) (ks : List (List Int)) (x y p : Int) : List Int :=
  ((if slB x y p ∈ ks then [] else [qAt w x y ((p + 1) % 4)]) ++ (if slB x y ((p + 3) % 4) ∈ ks then [] else [qAt w x y ((p + 3) % 4)])) ++ (if sdB x y p ∈ ks then [] else [qAt w (x + 1 * dx (stT p)) (y + 1 * dy (stT p)) ((p + 2) % 4)])
def adI (w : Int) (ks : List (List Int)) (n : Int) : List Int := adC w ks (n / 4 % w) (n / 4 / w) (n % 4)
def sp_tied_to (P : Program) (w : World) (K : Fg) : Sp := fun vs H Q E => ∃ (B : Bg) (G : Hp) (v vt : V) (wd h : Int) (L g : PyData) (n : Int) (ks : List (List Int)), Ok K B G H ∧ vs = [v, vt, .int n] ∧ Dp K G v (.tuple [.int wd, .int h, L, g]) ∧ DpK K P w G vt ks ∧ (1 ≤ wd ∧ wd ≤ 9) ∧ (0 ≤ n ∧ n < 4 * wd * h) ∧ RetF K B G H Q ((adI wd ks n).map PyData.int)
theorem ed_place {B : Bg} {G : Hp} {σ : L2.St} {tr : TA} {E : XK} {wd ht n : Int} {L g : PyData} (ha : EvA K B tr σ G [.tuple [.int wd, .int ht, L, g], .int n]) (hw : 1 ≤ wd ∧ wd ≤ 9) (hn : 0 ≤ n ∧ n < 4 * wd * ht) : EvD K B (tCall (sp_place_of K) [] E tr) σ G (placeD wd n) :=
  ed_call ha fun vs G2 H2 _ e dv Q q => by
    cases dv with
    | cons h0 a =>
      obtain rfl := dpAll_intsV (bs := [n]) a
      exact ⟨B, G2, _, wd, ht, L, g, n, e, rfl, h0, hw, fun _ => q, fun z => absurd hn z⟩
abbrev N_tied_to : List Str := ["plan", "there", "quarter", "x", "y", "part", "after", "before", "across", "found", "far_x", "far_y"]
theorem sc_tied_to : FnScope N_tied_to ["plan", "there", "quarter"] (defScope s_tied_to) := ⟨rfl, rfl, rfl, by decide +kernel, rfl, by decide +kernel, by decide +kernel⟩
theorem ok_tied_to (T : Txt K mg) (G_place_of : Good P w K mg base (L2N.CX P w) 2 "place_of" ["plan", "quarter"] [] (sp_place_of K)) (G_slant_behind : Good P w K mg base (L2N.CX P w) 1 "slant_behind" ["x", "y", "part"] [] (sp_slant_behind K)) (G_quarter_at : Good P w K mg base (L2N.CX P w) 1 "quarter_at" ["plan", "x", "y", "part"] [] (sp_quarter_at K)) (G_side_lead : Good P w K mg base (L2N.CX P w) 1 "side_lead" ["x", "y", "part"] [] (sp_side_lead K)) (G_step_d1 : Good P w K mg base (L2N.CX P w) 2 "step" ["x", "y", "turn", "many"] [.int 1] (sp_step K)) : Good P w K mg base (L2N.CX P w) 3 "tied_to" ["plan", "there", "quarter"] [] (sp_tied_to P w K) := by
  obtain ⟨fd, F⟩ := T.c.def_ 16 (d := d_tied_to) rfl
  have b : Binds K fd ["plan", "there", "quarter"] [] := F.bindsN fun _ _ _ _ _ _ us hl => match us, hl with | [_, _, _], _ => rfl
  refine ⟨⟨fd, [], F.ok sc_tied_to (fun vs H Q E h => ?_) (fun cdv A outer s H vs Q E hr h => ?_), .nil, b⟩, T.g_tied_to, F.kp⟩
  · obtain ⟨B, G, v, vt, w, h, L, g, n, ks, e, rfl, _⟩ := h
    all_goals rfl
  · obtain ⟨B, G, v, vt, wd, ht, L, g, n, ks, e, rfl, dv, dt, hw, hn, q⟩ := h
    all_goals refine ⟨_, PSs.nox (pss_cons (ps_asg (pe_own G_place_of (hr.mono (by decide)) (by rfl) passLN (pa_cons (pv 0) (pa_cons (pv 2) pa_nil))) (pg_tup rfl (pgs_cons (by exact (pg_name (i := 3) sc_tied_to.nd rfl (Or.inl rfl))) (pgs_cons (by exact (pg_name (i := 4) sc_tied_to.nd rfl (Or.inl rfl))) (pgs_cons (by exact (pg_name (i := 5) sc_tied_to.nd rfl (Or.inl rfl))) pgs_nil))))) (pss_cons (ps_par3 (i := 6) (j := 7) (l := 8) (by rfl) sc_tied_to.nd rfl rfl rfl (by decide) (by decide) (by decide) rfl rfl rfl (pa_cons (pe_op op_mod (pe_op op_add (pv 5) pe_int) pe_int) (pa_cons (pe_op op_mod (pe_op op_add (pv 5) pe_int) pe_int) (pa_cons (pe_op op_mod (pe_op op_add (pv 5) pe_int) pe_int) pa_nil))) (by rfl)) (pss_cons (ps_set (i := 9) sc_tied_to.nd rfl (Or.inl rfl) (pe_lst pa_nil)) (pss_cons (ps_if (pt_cmpR (r := rInK K P w true) (op_notInK (hu65 hr)) (pe_own G_slant_behind (hr.mono (by decide)) (by rfl) passLN (pa_cons (pv 3) (pa_cons (pv 4) (pa_cons (pv 5) pa_nil)))) (pv 1) (by rfl)) (pss_one (ps_expr (pe_bm PySem.F.plainAttrs_list PySem.F.slot_list_append PySem.F.type_list_append mt_append (pv 9) (pa_cons (pe_own G_quarter_at (hr.mono (by decide)) (by rfl) passLN (pa_cons (pv 0) (pa_cons (pv 3) (pa_cons (pv 4) (pa_cons (pv 6) pa_nil))))) pa_nil)))) pss_nil) (pss_cons (ps_if (pt_cmpR (r := rInK K P w true) (op_notInK (hu65 hr)) (pe_own G_slant_behind (hr.mono (by decide)) (by rfl) passLN (pa_cons (pv 3) (pa_cons (pv 4) (pa_cons (pv 7) pa_nil)))) (pv 1) (by rfl)) (pss_one (ps_expr (pe_bm PySem.F.plainAttrs_list PySem.F.slot_list_append PySem.F.type_list_append mt_append (pv 9) (pa_cons (pe_own G_quarter_at (hr.mono (by decide)) (by rfl) passLN (pa_cons (pv 0) (pa_cons (pv 3) (pa_cons (pv 4) (pa_cons (pv 7) pa_nil))))) pa_nil)))) pss_nil) (pss_cons (ps_if (pt_cmpR (r := rInK K P w true) (op_notInK (hu65 hr)) (pe_own G_side_lead (hr.mono (by decide)) (by rfl) passLN (pa_cons (pv 3) (pa_cons (pv 4) (pa_cons (pv 5) pa_nil)))) (pv 1) (by rfl)) (pss_cons (ps_asg (pe_own G_step_d1 (hr.mono (by decide)) (by rfl) passLN (pa_cons (pv 3) (pa_cons (pv 4) (pa_cons (pe_ix (r := rIxT K) ix_tup (pe_glob (v := .ref (He.ga K "SIDE_TURNS")) (by rfl) T.g_SIDE_TURNS rfl) (pv 5) (fun _ _ => rfl)) pa_nil)))) (pg_tup rfl (pgs_cons (by exact (pg_name (i := 10) sc_tied_to.nd rfl (Or.inl rfl))) (pgs_cons (by exact (pg_name (i := 11) sc_tied_to.nd rfl (Or.inl rfl))) pgs_nil)))) (pss_one (ps_expr (pe_bm PySem.F.plainAttrs_list PySem.F.slot_list_append PySem.F.type_list_append mt_append (pv 9) (pa_cons (pe_own G_quarter_at (hr.mono (by decide)) (by rfl) passLN (pa_cons (pv 0) (pa_cons (pv 10) (pa_cons (pv 11) (pa_cons (pv 8) pa_nil))))) pa_nil))))) pss_nil) (pss_one (ps_ret (pv 9))))))))), ?_⟩
    refine sq_unpack (ds := [.int (n / 4 % wd), .int (n / 4 / wd), .int (n % 4)]) (ed_place (ea_cons (ed_var rfl dv) (ea_cons (ed_var rfl (.int n)) ea_nil)) hw hn) e rfl (fun vs G1 H1 X1 dvs => ?_)
    obtain rfl := dpAll_intsV (bs := [n / 4 % wd, n / 4 / wd, n % 4]) dvs
    refine ⟨_, _, rfl, _, _, rfl, _, _, rfl, rfl, ?_⟩
    unfold adI adC at q
    have hp : 0 ≤ n % 4 ∧ n % 4 ≤ 3 := by omega
    generalize n / 4 % wd = x at q
    generalize n / 4 / wd = y at q
    generalize n % 4 = p at q hp
    refine sq_par3 (ea_cons (ed_op (ed_op (ed_var rfl (.int p)) ed_int rd_I0) ed_int (rd_I (by decide))) (ea_cons (ed_op (ed_op (ed_var rfl (.int p)) ed_int rd_I0) ed_int (rd_I (by decide))) (ea_cons (ed_op (ed_op (ed_var rfl (.int p)) ed_int rd_I0) ed_int (rd_I (by decide))) ea_nil))) X1.ok (fun G2 H2 X2 => ?_)
    refine sq_setL (ef_lst ea_nil (Nat.le_of_ble_eq_true rfl)) X2.ok (fun f G3 H3 L3 => ?_)
    have Y2 := X1.trans X2
    have q := q.mono Y2
    -- three looks, the list grows
    let Iv : List Int → L2.St → Hp → Prop := fun ds σ' H' => ∃ G' y10 y11, Loo K B G2 H2 G' H' f (ds.map PyData.int) ∧ σ' = [some v, some vt, some (.int n), some (.int x), some (.int y), some (.int p), some (.int ((p + 1) % 4)), some (.int ((p + 3) % 4)), some (.int ((p + 2) % 4)), some (.ref f), y10, y11]
    refine sq_ifJ (b := true ^^ decide (slB x y p ∈ ks)) (Iv (if slB x y p ∈ ks then [] else [qAt wd x y ((p + 1) % 4)])) ?_ (eb_test (ed_inK (ed_slb (ea_cons (ed_var rfl (.int x)) (ea_cons (ed_var rfl (.int y)) (ea_cons (ed_var rfl (.int p)) ea_nil)))) rfl (dpK_mono (Y2.gg.trans L3.x.gg) dt))) L3.x.ok (fun kk c G4 H4 X4 => ?_) (fun c G4 H4 X4 => ?_)
    rotate_left
    · have c : ¬ slB x y p ∈ ks := by simpa using c
      refine st_append rfl (L3.step X4) (ed_qat (ea_cons (ed_var rfl (dp_mono ((Y2.gg.trans L3.x.gg).trans X4.gg) dv)) (ea_cons (ed_var rfl (.int x)) (ea_cons (ed_var rfl (.int y)) (ea_cons (ed_var rfl (.int _)) ea_nil)))) hw) (by decide) (fun G5 H5 L5 e5 => kk _ _ ⟨G5, _, _, ?_, rfl⟩)
      rw [if_neg c]
      exact L5
    · have c : slB x y p ∈ ks := by simpa using c
      refine ⟨G4, _, _, ?_, rfl⟩
      rw [if_pos c]
      exact L3.step X4
    rintro σ4 H4 ⟨G4, y10, y11, L4, rfl⟩
    have l1 : (if slB x y p ∈ ks then [] else [qAt wd x y ((p + 1) % 4)]).length ≤ 1 := by
      split
      · exact Nat.zero_le _
      · exact Nat.le_refl _
    generalize (if slB x y p ∈ ks then [] else [qAt wd x y ((p + 1) % 4)]) = d1 at L4 q l1
    refine sq_ifJ (b := true ^^ decide (slB x y ((p + 3) % 4) ∈ ks)) (Iv (d1 ++ (if slB x y ((p + 3) % 4) ∈ ks then [] else [qAt wd x y ((p + 3) % 4)]))) ?_ (eb_test (ed_inK (ed_slb (ea_cons (ed_var rfl (.int x)) (ea_cons (ed_var rfl (.int y)) (ea_cons (ed_var rfl (.int _)) ea_nil)))) rfl (dpK_mono (Y2.gg.trans L4.x.gg) dt))) L4.x.ok (fun kk c G5 H5 X5 => ?_) (fun c G5 H5 X5 => ?_)
    rotate_left
    · have c : ¬ slB x y ((p + 3) % 4) ∈ ks := by simpa using c
      refine st_append rfl (L4.step X5) (ed_qat (ea_cons (ed_var rfl (dp_mono ((Y2.gg.trans L4.x.gg).trans X5.gg) dv)) (ea_cons (ed_var rfl (.int x)) (ea_cons (ed_var rfl (.int y)) (ea_cons (ed_var rfl (.int _)) ea_nil)))) hw) ?_ (fun G6 H6 L6 e6 => kk _ _ ⟨G6, _, _, ?_, rfl⟩)
      · rw [List.length_map]
        omega
      · rw [if_neg c, List.map_append]
        exact L6
    · have c : slB x y ((p + 3) % 4) ∈ ks := by simpa using c
      refine ⟨G5, _, _, ?_, rfl⟩
      rw [if_pos c, List.append_nil]
      exact L4.step X5
    rintro σ5 H5 ⟨G5, y10', y11', L5, rfl⟩
    have l2 : (d1 ++ (if slB x y ((p + 3) % 4) ∈ ks then [] else [qAt wd x y ((p + 3) % 4)])).length ≤ 2 := by
      rw [List.length_append]
      split
      · show d1.length + 0 ≤ 2
        omega
      · show d1.length + 1 ≤ 2
        omega
    generalize d1 ++ (if slB x y ((p + 3) % 4) ∈ ks then [] else [qAt wd x y ((p + 3) % 4)]) = d2 at L5 q l2
    obtain ⟨as, ot⟩ := at_st hp
    refine sq_ifJ (b := true ^^ decide (sdB x y p ∈ ks)) (Iv (d2 ++ (if sdB x y p ∈ ks then [] else [qAt wd (x + 1 * dx (stT p)) (y + 1 * dy (stT p)) ((p + 2) % 4)]))) ?_ (eb_test (ed_inK (ed_side (ea_cons (ed_var rfl (.int x)) (ea_cons (ed_var rfl (.int y)) (ea_cons (ed_var rfl (.int p)) ea_nil))) hp) rfl (dpK_mono (Y2.gg.trans L5.x.gg) dt))) L5.x.ok (fun kk c G6 H6 X6 => ?_) (fun c G6 H6 X6 => ?_)
    rotate_left
    · have c : ¬ sdB x y p ∈ ks := by simpa using c
      have L6 := L5.step X6
      refine sq_unpack (ds := [.int (x + 1 * dx (stT p)), .int (y + 1 * dy (stT p))]) (ed_step (ea_cons (ed_var rfl (.int x)) (ea_cons (ed_var rfl (.int y)) (ea_cons (ed_op (ed_c (.tup (T.sq_SIDE_TURNS _) (dpAll_ints [6, 0, 2, 4]))) (ed_var rfl (.int p)) (rd_ixT as)) ea_nil))) ot) L6.x.ok rfl (fun vs G7 H7 X7 dvs => ?_)
      obtain rfl := dpAll_intsV (bs := [x + 1 * dx (stT p), y + 1 * dy (stT p)]) dvs
      refine ⟨_, _, rfl, _, _, rfl, rfl, ?_⟩
      have L7 := L6.step X7
      refine st_append rfl L7 (ed_qat (ea_cons (ed_var rfl (dp_mono (Y2.gg.trans L7.x.gg) dv)) (ea_cons (ed_var rfl (.int _)) (ea_cons (ed_var rfl (.int _)) (ea_cons (ed_var rfl (.int _)) ea_nil)))) hw) ?_ (fun G8 H8 L8 e8 => kk _ _ ⟨G8, _, _, ?_, rfl⟩)
      · rw [List.length_map]
        omega
      · rw [if_neg c, List.map_append]
        exact L8
    · have c : sdB x y p ∈ ks := by simpa using c
      refine ⟨G6, _, _, ?_, rfl⟩
      rw [if_pos c, List.append_nil]
      exact L5.step X6
    rintro σ6 H6 ⟨G6, z10, z11, L6, rfl⟩
    obtain ⟨xs, h6, a6⟩ := L6.h
    exact st_retV rfl L6.x L6.h0 L6.g L6.nb h6 a6 q
theorem ef_tied {B : Bg} {G : Hp} {σ : L2.St} {ta tc : TE} {E : XK} {wd ht n : Int} {L g : PyData} {ks : List (List Int)} {i : Nat} {vt : V} (h0 : EvD K B ta σ G (.tuple [.int wd, .int ht, L, g])) (hσ : σ[i]? = some (some vt)) (dt : DpK K P w G vt ks) (h2 : EvD K B tc σ G (.int n)) (hw : 1 ≤ wd ∧ wd ≤ 9) (hn : 0 ≤ n ∧ n < 4 * wd * ht) : EvF K B (tCall (sp_tied_to P w K) [] E (tCons ta (tCons (tVar i) (tCons tc tNil)))) σ G ((adI wd ks n).map PyData.int) := fun H e Q q =>
  h0 H e _ fun v G1 H1 X1 dv => ⟨vt, hσ, h2.mono X1.gg e.c H1 X1.ok _ fun u G2 H2 X2 du => by
    obtain rfl := dp_int du
    exact ⟨B, G2, v, vt, wd, ht, L, g, n, ks, X2.ok, rfl, dp_mono X2.gg dv, dpK_mono (X1.gg.trans X2.gg) dt, hw, hn, q.mono (X1.trans X2)⟩⟩
/-! fill -/
/-- the quarters next to one, by numbers -/
def adN (w : Int) (ks : List (List Int)) (n : Nat) : List Nat := (adI w ks (n : Int)).map Int.toNat
def sp_fill (P : Program) (w : World) (K : Fg) : Sp := fun vs H Q E => ∃ (G : Hp) (vp vt : V) (f : Addr) (wd h : Int) (L g : PyData) (ks : List (List Int)) (F : List Int) (r N : Nat),
  vs = [vp, vt, .ref f, .int (r : Int)] ∧ Ex G H ∧ G f = none ∧ Dp K G vp (.tuple [.int wd, .int h, L, g]) ∧ DpK K P w G vt ks ∧ H f = some (.lst (F.map V.int)) ∧ (1 ≤ wd ∧ wd ≤ 9) ∧ (N : Int) = 4 * wd * h ∧ (Gph N (adN wd ks) ∧ (∀ n : Nat, n < N → ∀ j ∈ adI wd ks (n : Int), 0 ≤ j) ∧ N ≤ 1000) ∧
  Nam N (adN wd ks) r F ∧ r < N ∧ F[r]? = some (-1) ∧ ∀ H' F', (∀ a o, a ≠ f → H a = some o → H' a = some o) → H' f = some (.lst (F'.map V.int)) → Nam N (adN wd ks) (r + 1) F' → Q .non H'
theorem set_map {F : List Int} {j : Nat} {z : Int} : (F.map V.int).set j (.int z) = (F.set j z).map V.int := (List.map_set).symm
theorem ixN_of {n j : Nat} (h : j < n) : ixN n (j : Int) = some j := by
  unfold ixN
  rw [if_pos (by omega), if_pos (by omega), Int.toNat_natCast]
theorem map_pop {ws : List Nat} {q : Nat} : (((ws ++ [q]).map fun i : Nat => V.int (i : Int))[((ws ++ [q]).map fun i : Nat => V.int (i : Int)).length - 1]?) = some (.int (q : Int)) := by
  rw [List.length_map, List.length_append, List.length_singleton, Nat.add_sub_cancel, List.map_append, List.getElem?_append_right (by rw [List.length_map]; exact Nat.le_refl _), List.length_map, Nat.sub_self]
  rfl
abbrev N_fill : List Str := ["plan", "there", "found", "pane", "waiting", "quarter", "near"]
theorem sc_fill : FnScope N_fill ["plan", "there", "found", "pane"] (defScope s_fill) := ⟨rfl, rfl, rfl, by decide +kernel, rfl, by decide +kernel, by decide +kernel⟩
theorem ok_fill (T : Txt K mg) (G_tied_to : Good P w K mg base (L2N.CX P w) 3 "tied_to" ["plan", "there", "quarter"] [] (sp_tied_to P w K)) : Good P w K mg base (L2N.CX P w) 4 "fill" ["plan", "there", "found", "pane"] [] (sp_fill P w K) := by
  obtain ⟨fd, F⟩ := T.c.def_ 17 (d := d_fill) rfl
  have b : Binds K fd ["plan", "there", "found", "pane"] [] := F.bindsN fun _ _ _ _ _ _ us hl => match us, hl with | [_, _, _, _], _ => rfl
  refine ⟨⟨fd, [], F.ok sc_fill (fun vs H Q E h => ?_) (fun cdv A outer s H vs Q E hr h => ?_), .nil, b⟩, T.g_fill, F.kp⟩
  · obtain ⟨G, vp, vt, f, w, h, L, g, ks, F, r, N, rfl, _⟩ := h
    all_goals rfl
  · obtain ⟨G, vp, vt, f, wd, ht, L, g, ks, F0, r, N, rfl, eG, gf, dv, dt, hf, hw, hN, gr, nm, hr', hm, q⟩ := h
    obtain ⟨tk_UNKNOWN, h_UNKNOWN⟩ := T.i_UNKNOWN
    all_goals refine ⟨_, PSs.nox (pss_cons (ps_asg (pv 3) (pg_sub (pv 2) (pv 3) set_list)) (pss_cons (ps_set (i := 4) sc_fill.nd rfl (Or.inl rfl) (pe_lst (pa_cons (pv 3) pa_nil))) (pss_one (ps_while PassesOwn.never (pt_truth (pv 4) (fun _ => rfl)) (pss_cons (ps_set (i := 5) sc_fill.nd rfl (Or.inl rfl) (pe_bm0 PySem.F.plainAttrs_list PySem.F.slot_list_pop PySem.F.type_list_pop mt_pop (pv 4))) (pss_one (ps_for PassesOwn.never rfl (pi_list (pe_own G_tied_to (hr.mono (by decide)) (by rfl) passLN (pa_cons (pv 0) (pa_cons (pv 1) (pa_cons (pv 5) pa_nil))))) (pg_name (i := 6) sc_fill.nd rfl (Or.inl rfl)) (pss_one (ps_if (pt_cmpR op_eq (pe_ix (r := rIxL K) ix_list (pv 2) (pv 6) (fun _ _ => rfl)) (pe_glob (v := .int (-1)) (by rfl) h_UNKNOWN ⟨_, rfl⟩) (nomark _)) (pss_cons (ps_asg (pv 3) (pg_sub (pv 2) (pv 6) set_list)) (pss_one (ps_expr (pe_bm PySem.F.plainAttrs_list PySem.F.slot_list_append PySem.F.type_list_append mt_append (pv 4) (pa_cons (pv 6) pa_nil))))) pss_nil))))))))), ?_⟩
    obtain ⟨gr, pos, n1000⟩ := gr
    have root := nm.root hr' hm
    have ne1 : ((r : Nat) : Int) ≠ -1 := by omega
    -- the first name
    refine ⟨.int (r : Int), rfl, .ref f, rfl, .int (r : Int), rfl, f, _, (r : Int), r, rfl, rfl, hf, ixN_of (by rw [List.length_map, nm.len]; exact hr'), ?_⟩
    rw [set_map]
    have fs0 := Fil.start gr nm hr' hm
    have k1 : ∀ a o, a ≠ f → H a = some o → (upd H f (.lst ((F0.set r (r : Int)).map V.int))) a = some o := fun a o n h => by
      rw [upd_ne n]
      exact h
    have h1 : (upd H f (.lst ((F0.set r (r : Int)).map V.int))) f = some (.lst ((F0.set r (r : Int)).map V.int)) := upd_same
    generalize upd H f (.lst ((F0.set r (r : Int)).map V.int)) = H1 at k1 h1
    -- the pile
    refine ⟨.int (r : Int), rfl, Nat.le_of_ble_eq_true rfl, fun p hp => ?_⟩
    have pf : p ≠ f := fun z => by
      rw [z, h1] at hp
      cases hp
    have Hp0 : H p = none := by
      cases z : H p with
      | none => rfl
      | some o =>
        rw [k1 p o pf z] at hp
        cases hp
    have gp : G p = none := eG.off Hp0
    -- what stands at each turn
    let St : List Int → List Nat → Hp → Prop := fun F ws H' => (∀ a o, a ≠ f → H a = some o → H' a = some o) ∧ H' f = some (.lst (F.map V.int)) ∧ H' p = some (.lst (ws.map fun i : Nat => V.int (i : Int)))
    have up : ∀ {F ws} {H2 H3 : Hp}, St F ws H2 → Ex H2 H3 → St F ws H3 := fun {F ws H2 H3} s e => ⟨fun a o n h => e _ _ (s.1 a o n h), e _ _ s.2.1, e _ _ s.2.2⟩
    have exG : ∀ {F ws} {H2 : Hp}, St F ws H2 → Ex G H2 := fun {F ws H2} s a o h => s.1 a o (ne_of_none h gf) (eG a o h)
    have wlen : ∀ {F : List Int} {ws : List Nat} {q : Nat} {dn : List Nat}, Fil N (adN wd ks) r F0 F ws q dn → ∀ i ∈ ws, i < N := fun f i hi => (f.wk i hi).1
    refine ⟨fun m σ' H' => ∃ F ws q5 y5 y6, σ' = [some vp, some vt, some (.ref f), some (.int (r : Int)), some (.ref p), y5, y6] ∧ St F ws H' ∧ Fil N (adN wd ks) r F0 F ws q5 (adN wd ks q5) ∧ m = 2 * cntM F + ws.length ∧ ws.length + cntM F ≤ 2000, ⟨2 * cntM (F0.set r (r : Int)) + 1, F0.set r (r : Int), [r], N, none, none, rfl, ⟨fun a o n h => ?_, ?_, upd_same⟩, ?_, rfl, ?_⟩, ?_⟩
    · rw [upd_ne (ne_of_none h Hp0)]
      exact k1 a o n h
    · rw [upd_ne (Ne.symm pf)]
      exact h1
    · refine ⟨fs0.len, fs0.ea, fs0.wk, fun i hi e ni j hj d => fs0.pr i hi e ni j hj fun z => ?_, fs0.rt⟩
      omega
    · have c1 : cntM (F0.set r (r : Int)) ≤ (F0.set r (r : Int)).length := cntM_le _
      rw [fs0.len] at c1
      show 1 + cntM (F0.set r (r : Int)) ≤ 2000
      omega
    rintro m σ2 H2 ⟨F, ws, q5, y5, y6, rfl, s2, f2, rfl, lim⟩
    refine ⟨.ref p, rfl, !(ws.map fun i : Nat => V.int (i : Int)).isEmpty, .inl ⟨_, SqL.of s2.2.2, rfl⟩, ?_⟩
    cases hws : ws.reverse with
    | nil =>
      have e0 : ws = [] := List.reverse_eq_nil_iff.mp hws
      subst e0
      exact q H2 F s2.1 s2.2.1 (f2.done gr nm hr' root)
    | cons qn rv =>
      obtain ⟨ws0, rfl⟩ : ∃ ws0, ws = ws0 ++ [qn] := ⟨rv.reverse, by rw [← List.reverse_reverse ws, hws, List.reverse_cons]⟩
      have ne : (!((ws0 ++ [qn]).map fun i : Nat => V.int (i : Int)).isEmpty) = true := by
        cases ws0 <;> rfl
      rw [ne, if_pos rfl]
      have hq := f2.wk qn (List.mem_append_right _ (List.mem_singleton.mpr rfl))
      have f3 := f2.pop
      refine ⟨fun σ' H' => ∃ m', m' < 2 * cntM F + (ws0 ++ [qn]).length ∧ ∃ F ws q5 y5 y6, σ' = [some vp, some vt, some (.ref f), some (.int (r : Int)), some (.ref p), y5, y6] ∧ St F ws H' ∧ Fil N (adN wd ks) r F0 F ws q5 (adN wd ks q5) ∧ m' = 2 * cntM F + ws.length ∧ ws.length + cntM F ≤ 2000, fun _ _ h => h, ?_⟩
      rw [List.length_append, List.length_singleton] at lim ⊢
      -- one off the pile
      refine ⟨.ref p, rfl, .inl ⟨rfl, _, SqL.of s2.2.2⟩, p, _, .int (qn : Int), rfl, rfl, s2.2.2, map_pop, ?_⟩
      have e3 : ((ws0 ++ [qn]).map fun i : Nat => V.int (i : Int)).dropLast = ws0.map fun i : Nat => V.int (i : Int) := by
        rw [List.map_append]
        exact List.dropLast_concat
      rw [e3]
      have s3 : St F ws0 (upd H2 p (.lst (ws0.map fun i : Nat => V.int (i : Int)))) := ⟨fun a o n h => by rw [upd_ne (ne_of_none h Hp0)]; exact s2.1 a o n h, by rw [upd_ne (Ne.symm pf)]; exact s2.2.1, upd_same⟩
      generalize upd H2 p (.lst (ws0.map fun i : Nat => V.int (i : Int))) = H3 at s3
      have dv3 := dp_mono (exG s3) dv
      have dt3 := dpK_mono (exG s3) dt
      -- its neighbours
      refine ef_tied (P := P) (w := w) (ed_var rfl dv3) rfl dt3 (ed_var rfl (.int (qn : Int))) hw ⟨by omega, by have := hq.1; omega⟩ H3 (ok_nil H3) _ (fun l2 xs G4 H4 X4 hl2 _ _ h4 a4 => ?_)
      obtain rfl := dpAll_intsV a4
      have s4 := up s3 X4.nilE
      have l2f : l2 ≠ f := fun z => by rw [z, s3.2.1] at hl2; cases hl2
      have l2p : l2 ≠ p := fun z => by rw [z, s3.2.2] at hl2; cases hl2
      refine ⟨l2, rfl, ⟨_, SqL.of h4⟩, for_list (K := K) (a := l2) (xs := (adI wd ks (qn : Int)).map V.int) (fun j σ' H' => ∃ F' ws' y6', σ' = [some vp, some vt, some (.ref f), some (.int (r : Int)), some (.ref p), some (.int (qn : Int)), y6'] ∧ St F' ws' H' ∧ H' l2 = some (.lst ((adI wd ks (qn : Int)).map V.int)) ∧ Fil N (adN wd ks) r F0 F' ws' qn ((adN wd ks qn).take j) ∧ F'[qn]? = some (r : Int) ∧ 2 * cntM F' + ws'.length ≤ 2 * cntM F + ws0.length ∧ ws'.length + cntM F' ≤ 2000) ⟨F, ws0, y6, rfl, s4, h4, by rw [List.take_zero]; exact f3, hq.2, Nat.le_refl _, by omega⟩ ?_ ?_ ?_⟩
      · rintro j σ' H' _ ⟨F', ws', y6', _, _, hl, _⟩
        exact SqL.of hl
      · rintro j x σ' H' hj ⟨F', ws', y6', rfl, s5, hl5, f5, eq5, me5, lim5⟩
        rw [List.getElem?_map] at hj
        cases hz : (adI wd ks (qn : Int))[j]? with
        | none =>
          rw [hz] at hj
          cases hj
        | some z =>
          rw [hz] at hj
          obtain rfl := (Option.some.inj hj).symm
          have z0 : 0 ≤ z := pos qn hq.1 z (List.mem_of_getElem? hz)
          obtain ⟨k, rfl⟩ : ∃ k : Nat, z = (k : Int) := ⟨z.toNat, by omega⟩
          have ek : (adN wd ks qn)[j]? = some k := by
            unfold adN
            rw [List.getElem?_map, hz]
            rfl
          have mk : k ∈ adN wd ks qn := List.mem_of_getElem? ek
          have kl : k < N := gr.lt qn hq.1 k mk
          have tk : (adN wd ks qn).take (j + 1) = (adN wd ks qn).take j ++ [k] := by
            rw [List.take_add_one, ek]
            rfl
          obtain ⟨fk, hfk⟩ : ∃ fk, F'[k]? = some fk := ⟨F'[k]'(by rw [f5.len]; exact kl), List.getElem?_eq_getElem _⟩
          have df : Dp K H' (.ref f) (.list (F'.map PyData.int)) := .lst (SqL.of s5.2.1) (dpAll_ints F')
          refine st_ifD (K := K) (B := none) (G := H') (b := decide (fk = -1)) (eb_is (eb_test (ed_op (ed_op (ed_var rfl df) (ed_var rfl (.int (k : Int))) (rd_ixL (at_int hfk))) (ed_c (.int (-1))) (rd_eq rfl))) diB) (ok_nil H') (fun c G6 H6 X6 => ?_) (fun c G6 H6 X6 => ?_)
          · have c : fk = -1 := of_decide_eq_true c
            rw [c] at hfk
            have s6 := up s5 X6.nilE
            have hl6 := X6.nilE _ _ hl5
            have f6 := f5.push gr nm hq.1 eq5 mk
            have cn := cntM_set (z := (r : Int)) hfk ne1
            -- it is named
            refine ⟨.int (r : Int), rfl, .ref f, rfl, .int (k : Int), rfl, f, _, (k : Int), k, rfl, rfl, s6.2.1, ixN_of (by rw [List.length_map, f5.len]; exact kl), ?_⟩
            rw [set_map]
            have s7 : St (F'.set k (r : Int)) ws' (upd H6 f (.lst ((F'.set k (r : Int)).map V.int))) := ⟨fun a o n h => by rw [upd_ne n]; exact s6.1 a o n h, upd_same, by rw [upd_ne pf]; exact s6.2.2⟩
            have hl7 : (upd H6 f (.lst ((F'.set k (r : Int)).map V.int))) l2 = some (.lst ((adI wd ks (qn : Int)).map V.int)) := by
              rw [upd_ne l2f]
              exact hl6
            generalize upd H6 f (.lst ((F'.set k (r : Int)).map V.int)) = H7 at s7 hl7
            -- and laid on the pile
            refine ⟨.ref p, rfl, .inl ⟨rfl, _, SqL.of s7.2.2⟩, .int (k : Int), rfl, p, _, .int (k : Int), rfl, rfl, s7.2.2, ?_, ?_⟩
            · rw [List.length_map]
              exact szl (by omega)
            · refine ⟨F'.set k (r : Int), ws' ++ [k], _, rfl, ⟨fun a o n h => by rw [upd_ne (ne_of_none h Hp0)]; exact s7.1 a o n h, by rw [upd_ne (Ne.symm pf)]; exact s7.2.1, ?_⟩, ?_, ?_, ?_, ?_, ?_⟩
              · rw [upd_same, List.map_append]
                rfl
              · rw [upd_ne l2p]
                exact hl7
              · rw [tk]
                exact f6
              · rw [get_set (by rw [f5.len]; exact kl)]
                by_cases ck : qn = k
                · rw [if_pos ck]
                · rw [if_neg ck]
                  exact eq5
              · rw [len_snoc]
                omega
              · rw [len_snoc]
                omega
          · have c : fk ≠ -1 := of_decide_eq_false c
            refine ⟨F', ws', _, rfl, up s5 X6.nilE, X6.nilE _ _ hl5, ?_, eq5, me5, lim5⟩
            rw [tk]
            exact f5.skip gr nm hr' root hq.1 eq5 mk (by rw [hfk]; exact fun z => c (Option.some.inj z))
      · rintro σ' H' ⟨F', ws', y6', rfl, s5, _, f5, _, me5, lim5⟩
        have ln : (adN wd ks qn).length = ((adI wd ks (qn : Int)).map V.int).length := by
          unfold adN
          rw [List.length_map, List.length_map]
        rw [← ln, List.take_length] at f5
        exact ⟨2 * cntM F' + ws'.length, by omega, F', ws', qn, _, _, rfl, s5, f5, rfl, lim5⟩

/-! names -/
def kB (w h : Int) (ls : List (List Int)) : List (List Int) := srtL (ls ++ frameB w h)
noncomputable def labsB (w h : Nat) (ls : List (List Int)) : List Int := labsOf (4 * w * h) (adN w (kB w h ls))
def sp_names (P : Program) (w : World) (K : Fg) : Sp := fun vs H Q E => ∃ (B : Bg) (G : Hp) (v : V) (wn hn : Nat) (ls : List (List Int)) (g : PyData), Ok K B G H ∧ vs = [v] ∧ Dp K G v (.tuple [.int (wn : Int), .int (hn : Int), .tuple (ls.map encT), g]) ∧ (1 ≤ wn ∧ wn ≤ 9) ∧ (1 ≤ hn ∧ hn ≤ 9) ∧ ls.length ≤ 1000 ∧ (∀ l ∈ ls, l ≠ []) ∧ RetF K B G H Q ((labsB wn hn ls).map PyData.int)
/-! quarters by cells and parts -/
theorem fdiv_q {w x y p : Int} (hw : 0 < w) (hx : 0 ≤ x ∧ x < w) (hp : 0 ≤ p ∧ p ≤ 3) : qAt w x y p / 4 % w = x ∧ qAt w x y p / 4 / w = y ∧ qAt w x y p % 4 = p := by
  unfold qAt
  have e1 : (4 * (y * w + x) + p) / 4 = y * w + x := by omega
  have e2 : (4 * (y * w + x) + p) % 4 = p := by omega
  rw [e1, e2]
  refine ⟨?_, ?_, rfl⟩
  · rw [Int.add_comm, Int.add_mul_emod_self_right]
    exact Int.emod_eq_of_lt hx.1 hx.2
  · rw [Int.add_comm, Int.add_mul_ediv_right _ _ (by omega), Int.ediv_eq_zero_of_lt hx.1 hx.2, Int.zero_add]
/-- a quarter's cell and part -/
structure Cel4 (w h n x y p : Int) : Prop where
  cx : 0 ≤ x ∧ x < w
  cy : 0 ≤ y ∧ y < h
  cp : 0 ≤ p ∧ p ≤ 3
  cn : n = qAt w x y p
theorem cel_of {w h n : Int} (hw : 0 < w) (h0 : 0 ≤ n) (h1 : n < 4 * w * h) : Cel4 w h n (n / 4 % w) (n / 4 / w) (n % 4) := by
  refine ⟨⟨Int.emod_nonneg _ (by omega), Int.emod_lt_of_pos _ hw⟩, ⟨Int.ediv_nonneg (by omega) (by omega), ?_⟩, ⟨by omega, by omega⟩, ?_⟩
  · refine Int.ediv_lt_of_lt_mul hw ?_
    have e : 4 * w * h = 4 * (h * w) := by rw [Int.mul_assoc, Int.mul_comm w h]
    omega
  · unfold qAt
    have e := Int.mul_ediv_add_emod (n / 4) w
    rw [Int.mul_comm] at e
    omega
theorem cel_lt {w h n x y p : Int} (c : Cel4 w h n x y p) : 0 ≤ n ∧ n < 4 * w * h := by
  have hx := c.cx
  have hy := c.cy
  have hp := c.cp
  rw [c.cn]
  unfold qAt
  have e : 4 * w * h = 4 * (h * w) := by rw [Int.mul_assoc, Int.mul_comm w h]
  have l1 : 0 ≤ y * w := Int.mul_nonneg hy.1 (by omega)
  have l2 : (y + 1) * w ≤ h * w := Int.mul_le_mul_of_nonneg_right (by omega) (by omega)
  rw [Int.add_mul, Int.one_mul] at l2
  omega
theorem adI_cel {w h n x y p : Int} {ks : List (List Int)} (hw : 0 < w) (c : Cel4 w h n x y p) : adI w ks n = adC w ks x y p := by
  obtain ⟨e1, e2, e3⟩ := fdiv_q (y := y) hw c.cx c.cp
  unfold adI
  rw [c.cn, e1, e2, e3]
theorem ite_mem {c : Prop} [Decidable c] {j a : Int} : (j ∈ if c then [] else [a]) ↔ ¬ c ∧ j = a := by
  by_cases z : c
  · rw [if_pos z]
    exact ⟨(fun h => by cases h), fun h => absurd z h.1⟩
  · rw [if_neg z]
    exact ⟨fun h => ⟨z, List.mem_singleton.mp h⟩, fun h => List.mem_singleton.mpr h.2⟩
theorem adC_mem {w x y p j : Int} {ks : List (List Int)} : j ∈ adC w ks x y p ↔ (slB x y p ∉ ks ∧ j = qAt w x y ((p + 1) % 4)) ∨ (slB x y ((p + 3) % 4) ∉ ks ∧ j = qAt w x y ((p + 3) % 4)) ∨ (sdB x y p ∉ ks ∧ j = qAt w (x + 1 * dx (stT p)) (y + 1 * dy (stT p)) ((p + 2) % 4)) := by
  unfold adC
  rw [List.mem_append, List.mem_append, or_assoc, ite_mem, ite_mem, ite_mem]
/-- the frame lies there -/
def Rimmed (w h : Int) (ks : List (List Int)) : Prop := (∀ x, 0 ≤ x → x < w → [x, 0, 0] ∈ ks ∧ [x, h, 0] ∈ ks) ∧ ∀ y, 0 ≤ y → y < h → [0, y, 2] ∈ ks ∧ [w, y, 2] ∈ ks
/-- a step to a neighbour: its cell and part, and the step back -/
theorem adC_step {w h x y p j : Int} {ks : List (List Int)} (R : Rimmed w h ks) (hx : 0 ≤ x ∧ x < w) (hy : 0 ≤ y ∧ y < h) (hp : 0 ≤ p ∧ p ≤ 3) (hj : j ∈ adC w ks x y p) : ∃ x' y' p', Cel4 w h j x' y' p' ∧ qAt w x y p ∈ adC w ks x' y' p' := by
  rcases adC_mem.mp hj with ⟨a, rfl⟩ | ⟨a, rfl⟩ | ⟨a, rfl⟩
  · refine ⟨x, y, (p + 1) % 4, ⟨hx, hy, ⟨by omega, by omega⟩, rfl⟩, adC_mem.mpr (.inr (.inl ?_))⟩
    have e : ((p + 1) % 4 + 3) % 4 = p := by omega
    rw [e]
    exact ⟨a, rfl⟩
  · refine ⟨x, y, (p + 3) % 4, ⟨hx, hy, ⟨by omega, by omega⟩, rfl⟩, adC_mem.mpr (.inl ?_)⟩
    have e : ((p + 3) % 4 + 1) % 4 = p := by omega
    rw [e]
    exact ⟨a, rfl⟩
  · have : p = 0 ∨ p = 1 ∨ p = 2 ∨ p = 3 := by omega
    rcases this with rfl | rfl | rfl | rfl
    · have a : [x + 0, y + 0, 0] ∉ ks := a
      rw [Int.add_zero, Int.add_zero] at a
      have y0 : y ≠ 0 := fun z => a (by rw [z]; exact (R.1 x hx.1 hx.2).1)
      have e1 : x + 1 * dx (stT 0) = x := by show x + 1 * 0 = x; omega
      have e2 : y + 1 * dy (stT 0) = y - 1 := by show y + 1 * (-1) = y - 1; omega
      rw [e1, e2]
      refine ⟨x, y - 1, 2, ⟨hx, ⟨by omega, by omega⟩, by decide, rfl⟩, adC_mem.mpr (.inr (.inr ⟨?_, ?_⟩))⟩
      · show [x + 0, y - 1 + 1, 0] ∉ ks
        rw [Int.add_zero, Int.sub_add_cancel]
        exact a
      · show qAt w x y 0 = qAt w (x + 1 * 0) (y - 1 + 1 * 1) 0
        rw [show x + 1 * 0 = x by omega, show y - 1 + 1 * 1 = y by omega]
    · have a : [x + 1, y + 0, 2] ∉ ks := a
      rw [Int.add_zero] at a
      have x0 : x + 1 ≠ w := fun z => a (by rw [z]; exact (R.2 y hy.1 hy.2).2)
      have e1 : x + 1 * dx (stT 1) = x + 1 := by show x + 1 * 1 = x + 1; omega
      have e2 : y + 1 * dy (stT 1) = y := by show y + 1 * 0 = y; omega
      rw [e1, e2]
      refine ⟨x + 1, y, 3, ⟨⟨by omega, by omega⟩, hy, by decide, rfl⟩, adC_mem.mpr (.inr (.inr ⟨?_, ?_⟩))⟩
      · show [x + 1 + 0, y + 0, 2] ∉ ks
        rw [Int.add_zero, Int.add_zero]
        exact a
      · show qAt w x y 1 = qAt w (x + 1 + 1 * (-1)) (y + 1 * 0) 1
        rw [show x + 1 + 1 * (-1) = x by omega, show y + 1 * 0 = y by omega]
    · have a : [x + 0, y + 1, 0] ∉ ks := a
      rw [Int.add_zero] at a
      have y0 : y + 1 ≠ h := fun z => a (by rw [z]; exact (R.1 x hx.1 hx.2).2)
      have e1 : x + 1 * dx (stT 2) = x := by show x + 1 * 0 = x; omega
      have e2 : y + 1 * dy (stT 2) = y + 1 := by show y + 1 * 1 = y + 1; omega
      rw [e1, e2]
      refine ⟨x, y + 1, 0, ⟨hx, ⟨by omega, by omega⟩, by decide, rfl⟩, adC_mem.mpr (.inr (.inr ⟨?_, ?_⟩))⟩
      · show [x + 0, y + 1 + 0, 0] ∉ ks
        rw [Int.add_zero, Int.add_zero]
        exact a
      · show qAt w x y 2 = qAt w (x + 1 * 0) (y + 1 + 1 * (-1)) 2
        rw [show x + 1 * 0 = x by omega, show y + 1 + 1 * (-1) = y by omega]
    · have a : [x + 0, y + 0, 2] ∉ ks := a
      rw [Int.add_zero, Int.add_zero] at a
      have x0 : x ≠ 0 := fun z => a (by rw [z]; exact (R.2 y hy.1 hy.2).1)
      have e1 : x + 1 * dx (stT 3) = x - 1 := by show x + 1 * (-1) = x - 1; omega
      have e2 : y + 1 * dy (stT 3) = y := by show y + 1 * 0 = y; omega
      rw [e1, e2]
      refine ⟨x - 1, y, 1, ⟨⟨by omega, by omega⟩, hy, by decide, rfl⟩, adC_mem.mpr (.inr (.inr ⟨?_, ?_⟩))⟩
      · show [x - 1 + 1, y + 0, 2] ∉ ks
        rw [Int.add_zero, Int.sub_add_cancel]
        exact a
      · show qAt w x y 3 = qAt w (x - 1 + 1 * 1) (y + 1 * 0) 3
        rw [show x - 1 + 1 * 1 = x by omega, show y + 1 * 0 = y by omega]
theorem graph_ok {w h : Nat} {ks : List (List Int)} (hw : 1 ≤ w ∧ w ≤ 9) (R : Rimmed (w : Int) (h : Int) ks) : Gph (4 * w * h) (adN w ks) ∧ ∀ n : Nat, n < 4 * w * h → ∀ j ∈ adI w ks (n : Int), 0 ≤ j := by
  have em : ((4 * w * h : Nat) : Int) = 4 * (w : Int) * (h : Int) := by
    rw [Int.natCast_mul, Int.natCast_mul]
    rfl
  have one : ∀ n : Nat, n < 4 * w * h → ∀ j ∈ adI w ks (n : Int), (0 ≤ j ∧ j < 4 * (w : Int) * (h : Int)) ∧ (n : Int) ∈ adI w ks j := fun n hn j hj => by
    have c := cel_of (w := (w : Int)) (h := (h : Int)) (n := (n : Int)) (by omega) (by omega) (by omega)
    rw [adI_cel (by omega) c] at hj
    obtain ⟨x', y', p', c', b⟩ := adC_step R c.cx c.cy c.cp hj
    refine ⟨cel_lt c', ?_⟩
    rw [adI_cel (by omega) c', c.cn]
    exact b
  refine ⟨⟨fun i hi j hj => ?_, fun i hi j hj => ?_⟩, fun n hn j hj => (one n hn j hj).1.1⟩
  · obtain ⟨z, hz, rfl⟩ := List.mem_map.mp hj
    have := (one i hi z hz).1
    omega
  · obtain ⟨z, hz, rfl⟩ := List.mem_map.mp hj
    have o := one i hi z hz
    have ez : ((z.toNat : Nat) : Int) = z := by omega
    refine List.mem_map.mpr ⟨(i : Int), ?_, Int.toNat_natCast i⟩
    rw [ez]
    exact o.2
theorem rim_ok {w h : Int} {ls : List (List Int)} (hw : 1 ≤ w) (hh : 1 ≤ h) : Rimmed w h (kB w h ls) := by
  have fr : ∀ {x y t : Int}, 0 ≤ x → x ≤ w → 0 ≤ y → y ≤ h → 0 ≤ t → t ≤ 3 → stayB w h x y t = true → frB w h x y t = true → [x, y, t] ∈ kB w h ls := fun {x y t} x0 x1 y0 y1 t0 t1 s f => by
    unfold kB
    rw [(srtL_perm _).mem_iff]
    refine List.mem_append_right _ (List.mem_filter.mpr ⟨?_, f⟩)
    unfold allB colB rowB
    refine List.mem_flatMap.mpr ⟨x.toNat, List.mem_range.mpr (by omega), List.mem_flatMap.mpr ⟨y.toNat, List.mem_range.mpr (by omega), List.mem_flatMap.mpr ⟨t.toNat, List.mem_range.mpr (by omega), ?_⟩⟩⟩
    have ex : ((x.toNat : Nat) : Int) = x := by omega
    have ey : ((y.toNat : Nat) : Int) = y := by omega
    have et : ((t.toNat : Nat) : Int) = t := by omega
    rw [ex, ey, et, if_pos s]
    exact List.mem_singleton.mpr rfl
  have d0 : dx 0 = 1 ∧ dy 0 = 0 ∧ dx 2 = 0 ∧ dy 2 = 1 := by decide
  refine ⟨fun x x0 x1 => ⟨fr x0 (by omega) (by omega) (by omega) (by decide) (by decide) ?_ ?_, fr x0 (by omega) (by omega) (by omega) (by decide) (by decide) ?_ ?_⟩, fun y y0 y1 => ⟨fr (by omega) (by omega) y0 (by omega) (by decide) (by decide) ?_ ?_, fr (by omega) (by omega) y0 (by omega) (by decide) (by decide) ?_ ?_⟩⟩
  all_goals first
    | (unfold stayB onB; rw [d0.1, d0.2.1]; simp only [Bool.and_eq_true, decide_eq_true_eq]; omega)
    | (unfold stayB onB; rw [d0.2.2.1, d0.2.2.2]; simp only [Bool.and_eq_true, decide_eq_true_eq]; omega)
    | (unfold frB; simp)
abbrev N_names : List Str := ["plan", "there", "many", "found", "quarter"]
theorem sc_names : FnScope N_names ["plan"] (defScope s_names) := ⟨rfl, rfl, rfl, by decide +kernel, rfl, by decide +kernel, by decide +kernel⟩
theorem ok_names (T : Txt K mg) (G_lying : Good P w K mg base (L2N.CX P w) 7 "lying" ["plan"] [] (sp_lying P w K)) (G_count_quarters : Good P w K mg base (L2N.CX P w) 1 "count_quarters" ["width", "height"] [] (sp_count_quarters K)) (G_fill : Good P w K mg base (L2N.CX P w) 4 "fill" ["plan", "there", "found", "pane"] [] (sp_fill P w K)) : Good P w K mg base (L2N.CX P w) 8 "names" ["plan"] [] (sp_names P w K) := by
  obtain ⟨fd, F⟩ := T.c.def_ 18 (d := d_names) rfl
  have b : Binds K fd ["plan"] [] := F.bindsN fun _ _ _ _ _ _ us hl => match us, hl with | [_], _ => rfl
  refine ⟨⟨fd, [], F.ok sc_names (fun vs H Q E h => ?_) (fun cdv A outer s H vs Q E hr h => ?_), .nil, b⟩, T.g_names, F.kp⟩
  · obtain ⟨B, G, v, w, h, ls, g, e, rfl, _⟩ := h
    all_goals rfl
  · obtain ⟨B, G, v, wn, hn, ls, g, e, rfl, dv, hw, hh, hl, hn3, q⟩ := h
    obtain ⟨tk_UNKNOWN, h_UNKNOWN⟩ := T.i_UNKNOWN
    all_goals refine ⟨_, PSs.nox (pss_cons (ps_set (i := 1) sc_names.nd rfl (Or.inl rfl) (pe_own G_lying (hr.mono (by decide)) (by rfl) passLN (pa_cons (pv 0) pa_nil))) (pss_cons (ps_set (i := 2) sc_names.nd rfl (Or.inl rfl) (pe_own G_count_quarters (hr.mono (by decide)) (by rfl) passLN (pa_cons (pe_ix (r := rIxT K) ix_tup (pv 0) pe_int (fun _ _ => rfl)) (pa_cons (pe_ix (r := rIxT K) ix_tup (pv 0) pe_int (fun _ _ => rfl)) pa_nil)))) (pss_cons (ps_set (i := 3) sc_names.nd rfl (Or.inl rfl) (pe_op op_rep (pe_lst (pa_cons (pe_glob (v := .int (-1)) (by rfl) h_UNKNOWN ⟨_, rfl⟩) pa_nil)) (pv 2))) (pss_cons (ps_for PassesOwn.never rfl (pi_range1 (by rfl) T.f_range (pa_cons (pv 2) pa_nil)) (pg_name (i := 4) sc_names.nd rfl (Or.inl rfl)) (pss_one (ps_if (pt_cmpR op_eq (pe_ix (r := rIxL K) ix_list (pv 3) (pv 4) (fun _ _ => rfl)) (pe_glob (v := .int (-1)) (by rfl) h_UNKNOWN ⟨_, rfl⟩) (nomark _)) (pss_one (ps_expr (pe_own G_fill (hr.mono (by decide)) (by rfl) passLN (pa_cons (pv 0) (pa_cons (pv 1) (pa_cons (pv 3) (pa_cons (pv 4) pa_nil))))))) pss_nil))) (pss_one (ps_ret (pv 3))))))), ?_⟩
    have hw' : 1 ≤ (wn : Int) ∧ (wn : Int) ≤ 9 := by omega
    have hh' : 1 ≤ (hn : Int) ∧ (hn : Int) ≤ 9 := by omega
    have hz : (okS (wn : Int) && okS (hn : Int)) = true := Bool.and_eq_true_iff.mpr ⟨okS_iff.mpr hw', okS_iff.mpr hh'⟩
    have em : ((4 * wn * hn : Nat) : Int) = 4 * (wn : Int) * (hn : Int) := by
      rw [Int.natCast_mul, Int.natCast_mul]
      rfl
    have n1000 : 4 * wn * hn ≤ 1000 := by
      have := Nat.mul_le_mul (Nat.mul_le_mul_left 4 hw.2) hh.2
      omega
    obtain ⟨gr, pos⟩ := graph_ok (ks := kB wn hn ls) hw (rim_ok hw'.1 hh'.1)
    refine sq_setK (ek_lying (P := P) (w := w) (ea_cons (ed_var rfl dv) ea_nil) hz hl hn3) e (fun v1 G1 H1 X1 t1 => ?_)
    have dv1 := dp_mono X1.gg dv
    refine sq_set (d := .int ((4 * wn * hn : Nat) : Int)) (ed_is (ed_count (ea_cons (ed_op (ed_var rfl dv1) ed_int (rd_ixT (i := 0) rfl)) (ea_cons (ed_op (ed_var rfl dv1) ed_int (rd_ixT (i := 1) rfl)) ea_nil)) hw') (by rw [em])) X1.ok (fun v2 G2 H2 X2 d2 => ?_)
    obtain rfl := dp_int d2
    have Y2 := X1.trans X2
    refine sq_setL (ds := (List.replicate (4 * wn * hn) (-1)).map PyData.int) (ed_isF (rd_rep (n := 4 * wn * hn) (by simp; omega) (by omega) (ef_lst (ea_cons (ed_c (.int (-1))) ea_nil) (Nat.le_of_ble_eq_true rfl)) (ed_var rfl (.int _))) ?_) X2.ok (fun f G3 H3 L3 => ?_)
    · rw [List.map_replicate, List.flatten_replicate_singleton]
    refine sq_forR0 (n := 4 * wn * hn) (Pv := fun j σ' H' => ∃ G' F y4, Loo K B G2 H2 G' H' f (F.map PyData.int) ∧ Nam (4 * wn * hn) (adN wn (kB wn hn ls)) j F ∧ σ' = [some v, some v1, some (.int ((4 * wn * hn : Nat) : Int)), some (.ref f), y4]) (ea_cons (ed_var rfl (.int _)) ea_nil) (by omega) L3.x.ok (fun G4 H4 X4 => ⟨G4, _, _, L3.step X4, Nam.begin, rfl⟩) (fun j σ4 H4 hj pv => ?_) (fun σ4 H4 pv => ?_)
    · obtain ⟨G4, F, y4, L4, nm, rfl⟩ := pv
      obtain ⟨fk, hfk⟩ : ∃ fk, F[j]? = some fk := ⟨F[j]'(by rw [nm.len]; exact hj), List.getElem?_eq_getElem _⟩
      refine sq_ifL (w := tNext) L4 (b := decide (fk = -1)) (fun G5 e5 d5 => eb_is (eb_test (ed_op (ed_op (ed_var rfl d5) (ed_var rfl (.int (j : Int))) (rd_ixL (at_int hfk))) (ed_c (.int (-1))) (rd_eq rfl))) diB) (fun c G5 H5 L5 e5 => ?_) (fun c G5 H5 L5 e5 => ?_)
      · have c : fk = -1 := of_decide_eq_true c
        rw [c] at hfk
        obtain ⟨xs, h5, a5⟩ := L5.h
        obtain rfl := dpAll_intsV a5
        have eg := Y2.gg.trans L5.x.gg
        refine ⟨v, rfl, v1, rfl, .ref f, rfl, .int (j : Int), rfl, G5, v, v1, f, (wn : Int), (hn : Int), _, g, kB wn hn ls, F, j, 4 * wn * hn, rfl, L5.x.ok.e, L5.g, dp_mono eg dv, dpK_mono (X2.gg.trans L5.x.gg) t1, h5, hw', em, ⟨gr, pos, n1000⟩, nm, hj, hfk, fun H' F' k' h' n' => ?_⟩
        exact ⟨G5, F', _, L5.hit k' h' (dpAll_ints F'), n', rfl⟩
      · have c : fk ≠ -1 := of_decide_eq_false c
        exact ⟨G5, F, _, L5, nm.next gr hj (by rw [hfk]; exact fun z => c (Option.some.inj z)), rfl⟩
    · obtain ⟨G4, F, y4, L4, nm, rfl⟩ := pv
      rw [nm.all gr] at L4
      obtain ⟨xs, h5, a5⟩ := L4.h
      exact st_retV rfl L4.x L4.h0 L4.g L4.nb h5 a5 (q.mono Y2)
theorem ef_names {B : Bg} {G : Hp} {σ : L2.St} {tr : TA} {E : XK} {wn hn : Nat} {ls : List (List Int)} {g : PyData} (ha : EvA K B tr σ G [.tuple [.int (wn : Int), .int (hn : Int), .tuple (ls.map encT), g]]) (hw : 1 ≤ wn ∧ wn ≤ 9) (hh : 1 ≤ hn ∧ hn ≤ 9) (hl : ls.length ≤ 1000) (hn3 : ∀ l ∈ ls, l ≠ []) : EvF K B (tCall (sp_names P w K) [] E tr) σ G ((labsB wn hn ls).map PyData.int) :=
  ef_call ha fun vs G2 H2 _ e dv Q q => by
    cases dv with
    | cons h a =>
      cases a
      exact ⟨B, G2, _, wn, hn, ls, g, e, rfl, h, hw, hh, hl, hn3, q⟩
/-! check_colour -/
def okC (m : Int) : Prop := 1 ≤ m ∧ m ≤ 9
instance (m : Int) : Decidable (okC m) := inferInstanceAs (Decidable (_ ∧ _))
def sp_check_colour (K : Fg) : Sp := fun vs H Q E => ∃ (B : Bg) (G : Hp) (m : Int), Ok K B G H ∧ vs = [.int m] ∧ (okC m → Ret K B G H Q .none) ∧ (¬ okC m → Rai K B G H E (He.ga K "BadColour"))
abbrev N_check_colour : List Str := ["colour"]
theorem sc_check_colour : FnScope N_check_colour ["colour"] (defScope s_check_colour) := ⟨rfl, rfl, rfl, by decide +kernel, rfl, by decide +kernel, by decide +kernel⟩
theorem ok_check_colour (T : Txt K mg)  : Good P w K mg base (L2N.CX P w) 1 "check_colour" ["colour"] [] (sp_check_colour K) := by
  obtain ⟨fd, F⟩ := T.c.def_ 19 (d := d_check_colour) rfl
  have b : Binds K fd ["colour"] [] := F.bindsN fun _ _ _ _ _ _ us hl => match us, hl with | [_], _ => rfl
  refine ⟨⟨fd, [], F.ok sc_check_colour (fun vs H Q E h => ?_) (fun cdv A outer s H vs Q E hr h => ?_), .nil, b⟩, T.g_check_colour, F.kp⟩
  · obtain ⟨B, G, m, e, rfl, _⟩ := h
    all_goals rfl
  · obtain ⟨B, G, m, e, rfl, q, r⟩ := h
    all_goals refine ⟨_, (pss_one (ps_if (pt_not (pt_chain op_le op_le pe_int (pv 0) pe_int)) (pss_one (L2N.ps_raise rfl (L2N.takes_of rfl rfl rfl rfl) (L2N.pmk_own PySem.F.excBase_ValueError T.x_BadColour T.g_BadColour T.k_BadColour (raises_own T.b_BadColour T.t_BadColour) (by rfl)))) pss_nil)), ?_⟩
    refine st_if (K := K) (B := B) (eb_not (eb_test (ed_chain ed_int (ed_var rfl (.int m)) (fun _ => ed_int) rd_B0 (fun _ => rd_B0)))) e (fun c G2 H2 X => ?_) (fun c G2 H2 X => ?_)
    · refine r (fun z => ?_) G2 H2 X
      rw [decide_eq_true z.1, decide_eq_true z.2] at c
      exact Bool.noConfusion c
    · have z : okC m := by
        simp only [Bool.not_eq_false', Bool.and_eq_true, decide_eq_true_eq] at c
        exact c
      exact q z _ G2 H2 X .non
theorem sq_chkC {B : Bg} {G H : Hp} {σ : L2.St} {D : Ends} {u : TS} {E : XK} {i : Nat} {m : Int} (hσ : σ[i]? = some (some (.int m))) (e : Ok K B G H) (k1 : okC m → ∀ G2 H2, Ext K B G H G2 H2 → u D σ H2) (k2 : ¬ okC m → Rai K B G H E (He.ga K "BadColour")) :
    tSeq (tDrop (tCall (sp_check_colour K) [] E (tCons (tVar i) tNil))) u D σ H := ⟨.int m, hσ, B, G, m, e, rfl, fun z v G2 H2 X _ => k1 z G2 H2 X, k2⟩
/-! coloured -/
theorem labs_bd (wn hn : Nat) (ls : List (List Int)) (hw : 1 ≤ wn ∧ wn ≤ 9) (hh : 1 ≤ hn ∧ hn ≤ 9) : (labsB wn hn ls).length = 4 * wn * hn ∧ (labsB wn hn ls).length ≤ 1000 ∧ ∀ p ∈ labsB wn hn ls, 0 ≤ p ∧ p < ((labsB wn hn ls).length : Int) := by
  have n1000 : 4 * wn * hn ≤ 1000 := by
    have := Nat.mul_le_mul (Nat.mul_le_mul_left 4 hw.2) hh.2
    omega
  have ln : (labsB wn hn ls).length = 4 * wn * hn := by
    unfold labsB labsOf
    rw [len_mr]
  refine ⟨ln, by omega, fun p hp => ?_⟩
  rw [ln]
  unfold labsB labsOf at hp
  obtain ⟨k, hk, rfl⟩ := List.mem_map.mp hp
  have := labOf_self (adj := adN wn (kB wn hn ls)) (i := k)
  have := List.mem_range.mp hk
  omega
theorem int_at {ls : List Int} {k : Nat} {y : PyData} (h : (ls.map PyData.int)[k]? = some y) : k < ls.length ∧ y = .int (ls.getD k 0) := by
  rw [List.getElem?_map] at h
  obtain ⟨z, hz, rfl⟩ := Option.map_eq_some_iff.mp h
  refine ⟨(List.getElem?_eq_some_iff.mp hz).1, ?_⟩
  rw [getD_q, hz]
  rfl
/-- glass with one colour in all quarters of a quarter's pane -/
def dyeB (gl fs : List Int) (k : Nat) (c : Int) : List Int := (List.range fs.length).map fun i => if fs.getD i 0 = fs.getD k 0 then c else gl.getD i 0
noncomputable def dyeP (w h : Nat) (ls : List (List Int)) (gl : List Int) (k : Nat) (c : Int) : PyData := .tuple [.int (w : Int), .int (h : Int), .tuple (ls.map encT), encT (dyeB gl (labsB w h ls) k c)]
def sp_coloured (P : Program) (w : World) (K : Fg) : Sp := fun vs H Q E => ∃ (B : Bg) (G : Hp) (v : V) (wn hn : Nat) (ls : List (List Int)) (gl : List Int) (k : Nat) (c : Int), Ok K B G H ∧ vs = [v, .int (k : Int), .int c] ∧ Dp K G v (.tuple [.int (wn : Int), .int (hn : Int), .tuple (ls.map encT), encT gl]) ∧ (1 ≤ wn ∧ wn ≤ 9) ∧ (1 ≤ hn ∧ hn ≤ 9) ∧ ls.length ≤ 1000 ∧ (∀ l ∈ ls, l ≠ []) ∧ gl.length = 4 * wn * hn ∧ k < 4 * wn * hn ∧ RetW K B G H Q (dyeP wn hn ls gl k c) (Gk K)
theorem dyeB_data (gl fs : List Int) (k : Nat) (c : Int) : ((List.range fs.length).filterMap fun i => some (PyData.int (if fs.getD i 0 = fs.getD k 0 then c else gl.getD i 0))) = (dyeB gl fs k c).map PyData.int := by
  unfold dyeB
  rw [List.map_map, ← List.filterMap_eq_map]
  rfl
abbrev N_coloured : List Str := ["plan", "quarter", "colour", "width", "height", "within", "glass", "found", "kept", "old", "pane"]
theorem sc_coloured : FnScope N_coloured ["plan", "quarter", "colour"] (defScope s_coloured) := ⟨rfl, rfl, rfl, by decide +kernel, rfl, by decide +kernel, by decide +kernel⟩
theorem ok_coloured (T : Txt K mg) (G_names : Good P w K mg base (L2N.CX P w) 8 "names" ["plan"] [] (sp_names P w K)) : Good P w K mg base (L2N.CX P w) 9 "coloured" ["plan", "quarter", "colour"] [] (sp_coloured P w K) := by
  obtain ⟨fd, F⟩ := T.c.def_ 20 (d := d_coloured) rfl
  have b : Binds K fd ["plan", "quarter", "colour"] [] := F.bindsN fun _ _ _ _ _ _ us hl => match us, hl with | [_, _, _], _ => rfl
  refine ⟨⟨fd, [], F.ok sc_coloured (fun vs H Q E h => ?_) (fun cdv A outer s H vs Q E hr h => ?_), .nil, b⟩, T.g_coloured, F.kp⟩
  · obtain ⟨B, G, v, wn, hn, ls, gl, k, c, e, rfl, _⟩ := h
    all_goals rfl
  · obtain ⟨B, G, v, wn, hn, ls, gl, k, c, e, rfl, dv, hw, hh, hl, hn3, hg, hk, q⟩ := h
    all_goals refine ⟨_, PSs.nox (pss_cons (ps_asg (pv 0) (pg_tup rfl (pgs_cons (by exact (pg_name (i := 3) sc_coloured.nd rfl (Or.inl rfl))) (pgs_cons (by exact (pg_name (i := 4) sc_coloured.nd rfl (Or.inl rfl))) (pgs_cons (by exact (pg_name (i := 5) sc_coloured.nd rfl (Or.inl rfl))) (pgs_cons (by exact (pg_name (i := 6) sc_coloured.nd rfl (Or.inl rfl))) pgs_nil)))))) (pss_cons (ps_set (i := 7) sc_coloured.nd rfl (Or.inr rfl) (pe_own G_names (hr.mono (by decide)) (by rfl) passLN (pa_cons (pv 0) pa_nil))) (pss_cons (ps_setLc (i := 8) (own := [("old", 9), ("pane", 10)]) (g := gTup K 2 (gCons (gName 9) (gCons (gName 10) gNil))) rfl sc_coloured.nd rfl rfl (sw_true rfl rfl rfl (by decide +kernel)) (pi_zipK true false (by rfl) T.f_zip (pa_cons (pv 6) (pa_cons (pv 7) pa_nil))) (blkOk_by (own := [("old", 9), ("pane", 10)]) (N := N_coloured) (sc := defScope s_coloured) (by decide +kernel)) (fun _ _ _ _ _ => (pg_tup rfl (pgs_cons (by exact (pg_name (i := 9) sc_coloured.nd rfl (Or.inl rfl))) (pgs_cons (by exact (pg_name (i := 10) sc_coloured.nd rfl (Or.inl rfl))) pgs_nil)))) (fun _ _ _ _ _ => pts_nil) (fun _ _ _ _ _ => (pe_ifExp (pt_cmpR op_eq (pv 10) (pe_ix (r := rIxL K) ix_list (pv 7) (pv 1) (fun _ _ => rfl)) (nomark _)) (pv 2) (pv 9)))) (pss_one (ps_ret (pe_tup (pa_cons (pv 3) (pa_cons (pv 4) (pa_cons (pv 5) (pa_cons (pe_callTy (r := rTupK K) cr_tupK (by rfl) T.f_tuple (by decide +kernel) (pa_cons (pv 8) pa_nil)) pa_nil)))))))))), ?_⟩
    refine sq_unpack (ds := [.int (wn : Int), .int (hn : Int), .tuple (ls.map encT), encT gl]) (ed_var rfl dv) e rfl (fun vs G2 H2 X2 dvs => ?_)
    cases dvs with
    | @cons a1 _ _ _ d1 dvs =>
    cases dvs with
    | @cons a2 _ _ _ d2 dvs =>
    cases dvs with
    | @cons a3 _ _ _ d3 dvs =>
    cases dvs with
    | @cons a4 _ _ _ d4 dvs =>
    cases dvs
    refine ⟨_, _, rfl, _, _, rfl, _, _, rfl, _, _, rfl, rfl, ?_⟩
    refine sq_set (EvF.ed (ef_names (P := P) (w := w) (ea_cons (ed_var rfl (dp_mono X2.gg dv)) ea_nil) hw hh hl hn3)) X2.ok (fun v8 G5 H5 X5 d8 => ?_)
    obtain ⟨l1, l2, l3⟩ := labs_bd wn hn ls hw hh
    have hk' : k < (labsB wn hn ls).length := by omega
    have ek : (labsB wn hn ls)[k]? = some ((labsB wn hn ls).getD k 0) := by
      rw [getD_q, List.getElem?_eq_getElem hk']
      rfl
    refine sq_set (d := .list ((dyeB gl (labsB wn hn ls) k c).map PyData.int)) (ed_is (EvF.ed (ef_lcQ (n := (labsB wn hn ls).length) (as := fun i => (gl.map PyData.int)[i]?) (bs := fun i => ((labsB wn hn ls).map PyData.int)[i]?) (f := fun i => some (PyData.int (if (labsB wn hn ls).getD i 0 = (labsB wn hn ls).getD k 0 then c else gl.getD i 0))) (ep_zipK (k := true) (l := false) (ds := gl.map PyData.int) (es := (labsB wn hn ls).map PyData.int) (ea_cons (ed_var rfl (dp_mono X5.gg d4)) (ea_cons (ed_var rfl d8) ea_nil)) (by rw [List.length_map, List.length_map]; omega)) (by omega) (fun k' x y a b G' hk ex ey e' c' dx dy => ?_) (fun k' x y a b z G' hk ex ey e' c' dx dy ez => ?_))) (by rw [dyeB_data])) X5.ok (fun v10 G7 H7 X7 d10 => ?_)
    · exact eb_yes
    · obtain ⟨_, rfl⟩ := int_at ex
      obtain ⟨_, rfl⟩ := int_at ey
      obtain rfl := Option.some.inj ez
      refine ed_is (ed_if (d := .int (if (labsB wn hn ls).getD k' 0 = (labsB wn hn ls).getD k 0 then c else gl.getD k' 0)) (eb_test (ed_op (ed_var rfl dy) (ed_op (ed_var rfl (dp_mono e' d8)) (ed_var rfl (.int (k : Int))) (rd_ixL (at_int ek))) (rd_eq rfl))) (fun cc => ?_) (fun cc => ?_)) rfl
      · rw [if_pos (by simpa [vOf] using of_decide_eq_true cc)]
        exact ed_var rfl (.int c)
      · rw [if_neg (fun z => of_decide_eq_false cc (by rw [z]))]
        exact ed_var rfl dx
    have m7 := X5.gg.trans X7.gg
    refine st_retW ((ek_tup (eak_cons (ed_var rfl (dp_mono m7 d1)) (eak_cons (ed_var rfl (dp_mono m7 d2)) (eak_cons (ed_var rfl (dp_mono m7 d3)) (eak_last (ek_tupOf (ed_var rfl d10)))))) (fun ds z => ?_)).to fun d z => ?_) X7.ok (q.mono ((X2.trans X5).trans X7))
    · obtain ⟨_, rfl, _, rfl, _, rfl, _, rfl, _⟩ := z
      exact Nat.le_of_ble_eq_true rfl
    · obtain ⟨_, rfl, _, rfl, _, rfl, _, rfl, _, rfl, rfl⟩ := z
      rfl
theorem ekw_coloured {B : Bg} {G : Hp} {σ : L2.St} {tr : TA} {E : XK} {wn hn : Nat} {ls : List (List Int)} {gl : List Int} {k : Nat} {c : Int} (ha : EvA K B tr σ G [.tuple [.int (wn : Int), .int (hn : Int), .tuple (ls.map encT), encT gl], .int (k : Int), .int c]) (hw : 1 ≤ wn ∧ wn ≤ 9) (hh : 1 ≤ hn ∧ hn ≤ 9) (hl : ls.length ≤ 1000) (hn3 : ∀ l ∈ ls, l ≠ []) (hg : gl.length = 4 * wn * hn) (hk : k < 4 * wn * hn) : EvW K B (tCall (sp_coloured P w K) [] E tr) σ G (dyeP wn hn ls gl k c) (Gk K) :=
  ekw_call ha fun vs G2 H2 _ e dv Q q => by
    cases dv with
    | cons h a =>
      obtain rfl := dpAll_intsV (bs := [(k : Int), c]) a
      exact ⟨B, G2, _, wn, hn, ls, gl, k, c, e, rfl, h, hw, hh, hl, hn3, hg, hk, q⟩
/-! glazed -/
def wordG (N : Nat) (gl : List Int) (n c : Int) : Str := if ¬ (0 ≤ n ∧ n < (N : Int)) then "BadQuarter" else if ¬ okC c then "BadColour" else if gl.getD n.toNat 0 ≠ 0 then "Glazed" else ""
def sp_glazed (P : Program) (w : World) (K : Fg) : Sp := fun vs H Q E => ∃ (B : Bg) (G : Hp) (v : V) (wn hn : Nat) (ls : List (List Int)) (gl : List Int) (n c : Int), Ok K B G H ∧ vs = [v, .int n, .int c] ∧ Dp K G v (.tuple [.int (wn : Int), .int (hn : Int), .tuple (ls.map encT), encT gl]) ∧ (1 ≤ wn ∧ wn ≤ 9) ∧ (1 ≤ hn ∧ hn ≤ 9) ∧ ls.length ≤ 1000 ∧ (∀ l ∈ ls, l ≠ []) ∧ gl.length = 4 * wn * hn ∧ (wordG (4 * wn * hn) gl n c ≠ "" → Rai K B G H E (He.ga K (wordG (4 * wn * hn) gl n c))) ∧ (wordG (4 * wn * hn) gl n c = "" → RetW K B G H Q (dyeP wn hn ls gl n.toNat c) (Gk K))
theorem sq_placeQ {B : Bg} {G H : Hp} {σ : L2.St} {D : Ends} {u : TS} {tr : TA} {E : XK} {wn hn : Nat} {L g : PyData} {n : Int} (ha : EvA K B tr σ G [.tuple [.int (wn : Int), .int (hn : Int), L, g], .int n]) (e : Ok K B G H) (hw : 1 ≤ wn ∧ wn ≤ 9) (k1 : 0 ≤ n ∧ n < ((4 * wn * hn : Nat) : Int) → ∀ G2 H2, Ext K B G H G2 H2 → u D σ H2) (k2 : ¬ (0 ≤ n ∧ n < ((4 * wn * hn : Nat) : Int)) → Rai K B G H E (He.ga K "BadQuarter")) : tSeq (tDrop (tCall (sp_place_of K) [] E tr)) u D σ H :=
  ha H e _ fun vs G2 H2 X dv => by
    have em : ((4 * wn * hn : Nat) : Int) = 4 * (wn : Int) * (hn : Int) := by
      rw [Int.natCast_mul, Int.natCast_mul]
      rfl
    rw [em] at k1 k2
    cases dv with
    | cons h a =>
      obtain rfl := dpAll_intsV (bs := [n]) a
      exact ⟨B, G2, _, wn, hn, L, g, n, X.ok, rfl, h, by omega, fun z v G3 H3 X3 _ => k1 z G3 H3 (X.trans X3), fun z => (k2 z).mono X⟩
abbrev N_glazed : List Str := ["plan", "quarter", "colour"]
theorem sc_glazed : FnScope N_glazed ["plan", "quarter", "colour"] (defScope s_glazed) := ⟨rfl, rfl, rfl, by decide +kernel, rfl, by decide +kernel, by decide +kernel⟩
theorem fn_glazed (T : Txt K mg) (G_place_of : Good P w K mg base (L2N.CX P w) 2 "place_of" ["plan", "quarter"] [] (sp_place_of K)) (G_check_colour : Good P w K mg base (L2N.CX P w) 1 "check_colour" ["colour"] [] (sp_check_colour K)) (G_coloured : Good P w K mg base (L2N.CX P w) 9 "coloured" ["plan", "quarter", "colour"] [] (sp_coloured P w K)) {fd : FuncData} (F : FunD K "glazed" "glazed" (defArgs s_glazed) (defBody s_glazed) (defScope s_glazed) [.int 1] [] (He.ga K "glazed") fd) :
    FnOk P w K mg base (L2N.CX P w) 10 (He.ga K "glazed") fd ["plan", "quarter", "colour"] (sp_glazed P w K) := by
  refine F.ok sc_glazed (fun vs H Q E h => ?_) (fun cdv A outer s H vs Q E hr h => ?_)
  · obtain ⟨B, G, v, wn, hn, ls, gl, n, c, e, rfl, _⟩ := h
    rfl
  · obtain ⟨B, G, v, wn, hn, ls, gl, n, c, e, rfl, dv, hw, hh, hl, hn3, hg, r, q⟩ := h
    refine ⟨_, (pss_cons (ps_expr (pe_own G_place_of (hr.mono (by decide)) (by rfl) (L2N.passes_call (L2N.takes_of rfl rfl rfl rfl) (fun _ _ _ _ h => h)) (pa_cons (pv 0) (pa_cons (pv 1) pa_nil)))) (pss_cons (ps_expr (pe_own G_check_colour (hr.mono (by decide)) (by rfl) (L2N.passes_call (L2N.takes_of rfl rfl rfl rfl) (fun _ _ _ _ h => h)) (pa_cons (pv 2) pa_nil))) (pss_cons (ps_if (pt_cmpR op_ne (pe_ix (r := rIxT K) ix_tup (pe_ix (r := rIxT K) ix_tup (pv 0) pe_int (fun _ _ => rfl)) (pv 1) (fun _ _ => rfl)) pe_int (nomark _)) (pss_one (L2N.ps_raise rfl (L2N.takes_of rfl rfl rfl rfl) (L2N.pmk_own PySem.F.excBase_ValueError T.x_Glazed T.g_Glazed T.k_Glazed (raises_own T.b_Glazed T.t_Glazed) (by rfl)))) pss_nil) (pss_one (ps_ret (pe_own G_coloured (hr.mono (by decide)) (by rfl) (L2N.passes_call (L2N.takes_of rfl rfl rfl rfl) (fun _ _ _ _ h => h)) (pa_cons (pv 0) (pa_cons (pv 1) (pa_cons (pv 2) pa_nil))))))))), ?_⟩
    unfold wordG at r q
    refine sq_placeQ (ea_cons (ed_var rfl dv) (ea_cons (ed_var rfl (.int n)) ea_nil)) e hw (fun z G1 H1 X1 => ?_) (fun z => ?_)
    rotate_left
    · rw [if_pos z] at r
      exact r (by decide)
    rw [if_neg (fun y : ¬ _ => y z)] at r q
    refine sq_chkC rfl X1.ok (fun zc G2 H2 X2 => ?_) (fun zc => ?_)
    rotate_left
    · rw [if_pos zc] at r
      exact (r (by decide)).mono X1
    rw [if_neg (fun y : ¬ _ => y zc)] at r q
    have Y := X1.trans X2
    have dv2 := dp_mono Y.gg dv
    have hk : n.toNat < 4 * wn * hn := by omega
    have en : ((n.toNat : Nat) : Int) = n := Int.toNat_of_nonneg z.1
    have eg : gl[n.toNat]? = some (gl.getD n.toNat 0) := by
      rw [getD_q, List.getElem?_eq_getElem (by omega)]
      rfl
    have ex : EvD K B (tOp (rIxT K) (tOp (rIxT K) (tVar 0) (tC (.int 3))) (tVar 1)) [some v, some (.int n), some (.int c)] G2 (.int (gl.getD n.toNat 0)) := ed_op (ed_op (ed_var rfl dv2) ed_int (rd_ixT (i := 3) rfl)) (ed_var rfl (.int n)) (rd_ixT (by rw [← en]; exact at_int eg))
    refine sq_ifN (eb_test (ed_op ex ed_int (rd_ne (x := .int (gl.getD n.toNat 0)) rfl))) X2.ok (fun cc G3 H3 X3 => ?_) (fun cc G3 H3 X3 => ?_)
    · have cc : gl.getD n.toNat 0 ≠ 0 := by simpa [vOf] using cc
      rw [if_pos cc] at r
      exact r (by decide) G3 H3 (Y.trans X3)
    · have cc : ¬ gl.getD n.toNat 0 ≠ 0 := by simpa [vOf] using cc
      rw [if_neg cc] at q
      exact st_retW (ekw_coloured (P := P) (w := w) (ea_cons (ed_var rfl (dp_mono X3.gg dv2)) (ea_cons (ed_var rfl (by rw [en]; exact .int n)) (ea_cons (ed_var rfl (.int c)) ea_nil))) hw hh hl hn3 hg hk) X3.ok ((q rfl).mono (Y.trans X3))
theorem fun_glazed (T : Txt K mg) : ∃ fd, FunD K "glazed" "glazed" (defArgs s_glazed) (defBody s_glazed) (defScope s_glazed) [.int 1] [] (He.ga K "glazed") fd := T.c.def_ 21 (d := d_glazed) rfl
theorem ok_glazed (T : Txt K mg) (G_place_of : Good P w K mg base (L2N.CX P w) 2 "place_of" ["plan", "quarter"] [] (sp_place_of K)) (G_check_colour : Good P w K mg base (L2N.CX P w) 1 "check_colour" ["colour"] [] (sp_check_colour K)) (G_coloured : Good P w K mg base (L2N.CX P w) 9 "coloured" ["plan", "quarter", "colour"] [] (sp_coloured P w K)) : Good P w K mg base (L2N.CX P w) 10 "glazed" ["plan", "quarter", "colour"] [] (sp_glazed P w K) := by
  obtain ⟨fd, F⟩ := fun_glazed T
  obtain ⟨ds, r, b⟩ := F.binds1 (ps := ["plan", "quarter", "colour"]) 3 1 (by simp) rfl fun T' kV doc pm an cdv ct us its l1 l2 => match us, its, l1, l2 with
    | [_, _, _], [_], _, _ => ⟨_, rfl, rfl⟩
  exact ⟨⟨fd, ds, fn_glazed T G_place_of G_check_colour G_coloured F, r, b⟩, T.g_glazed, F.kp⟩
theorem ok_glazed_d1 (T : Txt K mg) (G_place_of : Good P w K mg base (L2N.CX P w) 2 "place_of" ["plan", "quarter"] [] (sp_place_of K)) (G_check_colour : Good P w K mg base (L2N.CX P w) 1 "check_colour" ["colour"] [] (sp_check_colour K)) (G_coloured : Good P w K mg base (L2N.CX P w) 9 "coloured" ["plan", "quarter", "colour"] [] (sp_coloured P w K)) : Good P w K mg base (L2N.CX P w) 10 "glazed" ["plan", "quarter", "colour"] [.int 1] (sp_glazed P w K) := by
  obtain ⟨fd, F⟩ := fun_glazed T
  obtain ⟨ds, r, b⟩ := F.binds1 (ps := ["plan", "quarter", "colour"]) 2 0 (by simp) rfl fun T' kV doc pm an cdv ct us its l1 l2 => match us, its, l1, l2 with
    | [_, _], [_], _, _ => ⟨_, rfl, rfl⟩
  exact ⟨⟨fd, ds, fn_glazed T G_place_of G_check_colour G_coloured F, r, b⟩, T.g_glazed, F.kp⟩
/-! shattered -/
def wordS (N : Nat) (gl : List Int) (n : Int) : Str := if ¬ (0 ≤ n ∧ n < (N : Int)) then "BadQuarter" else if gl.getD n.toNat 0 = 0 then "NoGlass" else ""
def sp_shattered (P : Program) (w : World) (K : Fg) : Sp := fun vs H Q E => ∃ (B : Bg) (G : Hp) (v : V) (wn hn : Nat) (ls : List (List Int)) (gl : List Int) (n : Int), Ok K B G H ∧ vs = [v, .int n] ∧ Dp K G v (.tuple [.int (wn : Int), .int (hn : Int), .tuple (ls.map encT), encT gl]) ∧ (1 ≤ wn ∧ wn ≤ 9) ∧ (1 ≤ hn ∧ hn ≤ 9) ∧ ls.length ≤ 1000 ∧ (∀ l ∈ ls, l ≠ []) ∧ gl.length = 4 * wn * hn ∧ (wordS (4 * wn * hn) gl n ≠ "" → Rai K B G H E (He.ga K (wordS (4 * wn * hn) gl n))) ∧ (wordS (4 * wn * hn) gl n = "" → RetW K B G H Q (dyeP wn hn ls gl n.toNat 0) (Gk K))
abbrev N_shattered : List Str := ["plan", "quarter"]
theorem sc_shattered : FnScope N_shattered ["plan", "quarter"] (defScope s_shattered) := ⟨rfl, rfl, rfl, by decide +kernel, rfl, by decide +kernel, by decide +kernel⟩
theorem ok_shattered (T : Txt K mg) (G_place_of : Good P w K mg base (L2N.CX P w) 2 "place_of" ["plan", "quarter"] [] (sp_place_of K)) (G_coloured : Good P w K mg base (L2N.CX P w) 9 "coloured" ["plan", "quarter", "colour"] [] (sp_coloured P w K)) : Good P w K mg base (L2N.CX P w) 10 "shattered" ["plan", "quarter"] [] (sp_shattered P w K) := by
  obtain ⟨fd, F⟩ := T.c.def_ 22 (d := d_shattered) rfl
  have b : Binds K fd ["plan", "quarter"] [] := F.bindsN fun _ _ _ _ _ _ us hl => match us, hl with | [_, _], _ => rfl
  refine ⟨⟨fd, [], F.ok sc_shattered (fun vs H Q E h => ?_) (fun cdv A outer s H vs Q E hr h => ?_), .nil, b⟩, T.g_shattered, F.kp⟩
  · obtain ⟨B, G, v, wn, hn, ls, gl, n, e, rfl, _⟩ := h
    all_goals rfl
  · obtain ⟨B, G, v, wn, hn, ls, gl, n, e, rfl, dv, hw, hh, hl, hn3, hg, r, q⟩ := h
    all_goals refine ⟨_, (pss_cons (ps_expr (pe_own G_place_of (hr.mono (by decide)) (by rfl) (L2N.passes_call (L2N.takes_of rfl rfl rfl rfl) (fun _ _ _ _ h => h)) (pa_cons (pv 0) (pa_cons (pv 1) pa_nil)))) (pss_cons (ps_if (pt_cmpR op_eq (pe_ix (r := rIxT K) ix_tup (pe_ix (r := rIxT K) ix_tup (pv 0) pe_int (fun _ _ => rfl)) (pv 1) (fun _ _ => rfl)) pe_int (nomark _)) (pss_one (L2N.ps_raise rfl (L2N.takes_of rfl rfl rfl rfl) (L2N.pmk_own PySem.F.excBase_LookupError T.x_NoGlass T.g_NoGlass T.k_NoGlass (raises_own T.b_NoGlass T.t_NoGlass) (by rfl)))) pss_nil) (pss_one (ps_ret (pe_own G_coloured (hr.mono (by decide)) (by rfl) (L2N.passes_call (L2N.takes_of rfl rfl rfl rfl) (fun _ _ _ _ h => h)) (pa_cons (pv 0) (pa_cons (pv 1) (pa_cons pe_int pa_nil)))))))), ?_⟩
    unfold wordS at r q
    refine sq_placeQ (ea_cons (ed_var rfl dv) (ea_cons (ed_var rfl (.int n)) ea_nil)) e hw (fun z G1 H1 X1 => ?_) (fun z => ?_)
    rotate_left
    · rw [if_pos z] at r
      exact r (by decide)
    rw [if_neg (fun y : ¬ _ => y z)] at r q
    have dv2 := dp_mono X1.gg dv
    have hk : n.toNat < 4 * wn * hn := by omega
    have en : ((n.toNat : Nat) : Int) = n := Int.toNat_of_nonneg z.1
    have eg : gl[n.toNat]? = some (gl.getD n.toNat 0) := by
      rw [getD_q, List.getElem?_eq_getElem (by omega)]
      rfl
    have ex : EvD K B (tOp (rIxT K) (tOp (rIxT K) (tVar 0) (tC (.int 3))) (tVar 1)) [some v, some (.int n)] G1 (.int (gl.getD n.toNat 0)) := ed_op (ed_op (ed_var rfl dv2) ed_int (rd_ixT (i := 3) rfl)) (ed_var rfl (.int n)) (rd_ixT (by rw [← en]; exact at_int eg))
    refine sq_ifN (eb_test (ed_op ex ed_int (rd_eq (x := .int (gl.getD n.toNat 0)) rfl))) X1.ok (fun cc G3 H3 X3 => ?_) (fun cc G3 H3 X3 => ?_)
    · have cc : gl.getD n.toNat 0 = 0 := by simpa [vOf] using cc
      rw [if_pos cc] at r
      exact r (by decide) G3 H3 (X1.trans X3)
    · have cc : ¬ gl.getD n.toNat 0 = 0 := by simpa [vOf] using cc
      rw [if_neg cc] at q
      exact st_retW (ekw_coloured (P := P) (w := w) (ea_cons (ed_var rfl (dp_mono X3.gg dv2)) (ea_cons (ed_var rfl (by rw [en]; exact .int n)) (ea_cons ed_int ea_nil))) hw hh hl hn3 hg hk) X3.ok ((q rfl).mono (X1.trans X3))

/-! used -/
/-! how often a number stands in a list of numbers, as data -/
theorem count_ints (ns : List Int) (m : Int) : ((ns.map PyData.int).countP fun z => PyData.eqv z (.int m)) = ns.count m := by
  rw [List.countP_map, List.count]
  refine List.countP_congr fun n _ => ?_
  show PyData.eqv (.int n) (.int m) = true ↔ (n == m) = true
  rw [beq_iff_eq]
  simp [PyData.eqv]
def sp_used (K : Fg) : Sp := fun vs H Q E => ∃ (B : Bg) (G : Hp) (v : V) (a b L : PyData) (gl : List Int) (c : Int), Ok K B G H ∧ vs = [v, .int c] ∧ Dp K G v (.tuple [a, b, L, encT gl]) ∧ Gk K G v (.tuple [a, b, L, encT gl]) ∧ gl.length ≤ 1000 ∧ (¬ okC c → Rai K B G H E (He.ga K "BadColour")) ∧ (okC c → Ret K B G H Q (.int ((gl.count c : Nat) : Int)))
abbrev N_used : List Str := ["plan", "colour"]
theorem sc_used : FnScope N_used ["plan", "colour"] (defScope s_used) := ⟨rfl, rfl, rfl, by decide +kernel, rfl, by decide +kernel, by decide +kernel⟩
theorem ok_used (T : Txt K mg) (G_check_colour : Good P w K mg base (L2N.CX P w) 1 "check_colour" ["colour"] [] (sp_check_colour K)) : Good P w K mg base (L2N.CX P w) 2 "used" ["plan", "colour"] [] (sp_used K) := by
  obtain ⟨fd, F⟩ := T.c.def_ 23 (d := d_used) rfl
  have b : Binds K fd ["plan", "colour"] [] := F.bindsN fun _ _ _ _ _ _ us hl => match us, hl with | [_, _], _ => rfl
  refine ⟨⟨fd, [], F.ok sc_used (fun vs H Q E h => ?_) (fun cdv A outer s H vs Q E hr h => ?_), .nil, b⟩, T.g_used, F.kp⟩
  · obtain ⟨B, G, v, a, b, L, gl, c, e, rfl, _⟩ := h
    all_goals rfl
  · obtain ⟨B, G, v, a, b, L, gl, c, e, rfl, dv, gk, hl, r, q⟩ := h
    all_goals refine ⟨_, (pss_cons (ps_expr (pe_own G_check_colour (hr.mono (by decide)) (by rfl) (L2N.passes_call (L2N.takes_of rfl rfl rfl rfl) (fun _ _ _ _ h => h)) (pa_cons (pv 1) pa_nil))) (pss_one (ps_ret (pe_tcount PySem.F.plainAttrs_tuple PySem.F.slot_tuple_count PySem.F.type_tuple_count (mt_countT (hu65 hr)) (pe_ix (r := rIxT K) ix_tup (pv 0) pe_int (fun _ _ => rfl)) (pa_cons (pv 1) pa_nil))))), ?_⟩
    refine sq_chkC rfl e (fun zc G2 H2 X2 => ?_) (fun zc => r zc)
    exact st_ret (ed_is (ed_tcount (ek_ix (ds := [a, b, L, encT gl]) (n := 3) (d := encT gl) rfl (gk.mono X2.gg) rfl rfl) (ed_var rfl (.int c)) (shp_enc gl) (shp_int c)) (congrArg (fun n : Nat => PyData.int (n : Int)) (count_ints gl c))) X2.ok ((q zc).mono X2)

/-! _law_bag -/
def sp__law_bag (K : Fg) : Sp := fun vs H Q E => ∃ (a : Addr) (ns : List Int), vs = [.ref a] ∧ SqL K H a (ns.map V.int) ∧ ns.length ≤ 63 ∧ ∀ b c G2 H2, Ok K (some (b, c)) G2 H2 → Q (.ref b) H2
theorem ok_none {K : Fg} (H : Hp) : Ok K none H H := ⟨Ex.refl H, fun _ _ z => (by cases z), fun _ _ z => (by cases z)⟩
theorem cut_map (ns : List Int) (lo hi : Option Int) : ∃ ms : List Int, Lw.cutD (ns.map PyData.int) lo hi = ms.map PyData.int ∧ ms.length ≤ ns.length := by
  unfold Lw.cutD
  refine ⟨(ns.drop (HT.sIx (ns.map PyData.int).length 0 lo)).take (HT.sIx (ns.map PyData.int).length (ns.map PyData.int).length hi - HT.sIx (ns.map PyData.int).length 0 lo), ?_, ?_⟩
  · rw [List.map_take, List.map_drop]
  · rw [List.length_take, List.length_drop]
    omega
abbrev N__law_bag : List Str := ["_law_script", "_law_cells", "_law_mark", "_law_cell"]
theorem sc__law_bag : FnScope N__law_bag ["_law_script"] (defScope s__law_bag) := ⟨rfl, rfl, rfl, by decide +kernel, rfl, by decide +kernel, by decide +kernel⟩
theorem ok__law_bag (T : Txt K mg)  : Good P w K mg base (L2N.CX P w) 1 "_law_bag" ["_law_script"] [] (sp__law_bag K) := by
  obtain ⟨fd, F⟩ := T.c.def_ 24 (d := d__law_bag) rfl
  have b : Binds K fd ["_law_script"] [] := F.bindsN fun _ _ _ _ _ _ us hl => match us, hl with | [_], _ => rfl
  refine ⟨⟨fd, [], F.ok sc__law_bag (fun vs H Q E h => ?_) (fun cdv A outer s H vs Q E hr h => ?_), .nil, b⟩, T.g__law_bag, F.kp⟩
  · obtain ⟨a, ns, rfl, _⟩ := h
    all_goals rfl
  · obtain ⟨a, ns, rfl, hS, hl, q⟩ := h
    all_goals refine ⟨_, PSs.nox (pss_cons (ps_set (i := 1) sc__law_bag.nd rfl (Or.inl rfl) (pe_callTy (r := rListS K) call_list_of (by rfl) T.f_list (by decide +kernel) (pa_cons (pe_slice (r := rSlL K) sl_list (pv 0) po_none (po_some pe_int)) pa_nil))) (pss_cons (ps_set (i := 2) sc__law_bag.nd rfl (Or.inl rfl) (pe_op op_add pe_int (pe_callB (r := rLenS K) call_len_seq (by rfl) T.f_len (by decide +kernel) (pa_cons (pv 1) pa_nil)))) (pss_cons (ps_for PassesOwn.never rfl (pi_list (pv 1)) (pg_name (i := 3) sc__law_bag.nd rfl (Or.inl rfl)) (pss_one (ps_set (i := 2) sc__law_bag.nd rfl (Or.inl rfl) (pe_op op_mod (pe_op op_add (pe_op op_mul (pv 2) pe_int) (pv 3)) pe_int)))) (pss_one (ps_ret (pe_lst (pa_cons (pv 1) (pa_cons pe_int (pa_cons pe_int (pa_cons (pv 2) pa_nil)))))))))), ?_⟩
    obtain ⟨ms, em, hm⟩ := cut_map ns none (some 63)
    refine ed_isF (ed_listOf (ed_slL (ed_var rfl (.lst hS (dpAll_ints ns))) eo_none (eo_some ed_int))) em H (ok_none H) _ (fun c xs G1 H2 X1 hp hg nb h2 hx => ?_)
    obtain rfl := dpAll_intsV hx
    have X := X1.freeze hp hg nb h2
    have hc : SqL K (upd G1 c (.lst (ms.map V.int))) c (ms.map V.int) := SqL.of upd_same
    have dv : Dp K (upd G1 c (.lst (ms.map V.int))) (.ref c) (.list (ms.map .int)) := .lst hc (dpAll_ints ms)
    have hcH : (upd G1 c (.lst (ms.map V.int))) c = some (.lst (ms.map V.int)) := upd_same
    refine sq_set (ed_op ed_int (ed_len (ed_var rfl dv) rfl) rd_I0) X.ok (fun v3 G3 H3 X3 d3 => ?_)
    obtain rfl := dp_int d3
    refine sq_forL (Pv := fun _ σ' _ _ => ∃ (m : Int) (y : Option V), σ' = [some (.ref a), some (.ref c), some (.int m), y]) (ed_var rfl (dp_mono X3.gg dv)) X3.ok (fun _ _ _ => ⟨_, none, rfl⟩) (fun G4 H4 X4 j d v5 σ5 G5 H5 hj X5 p d5 => ?_) (fun σ5 G5 H5 X5 p => ?_)
    · obtain ⟨m, y, rfl⟩ := p
      obtain ⟨z, rfl⟩ : ∃ z, d = .int z := by
        rw [List.getElem?_map] at hj
        cases q : ms[j]? with
        | none =>
          rw [q] at hj
          cases hj
        | some z =>
          rw [q] at hj
          exact ⟨z, (Option.some.inj hj).symm⟩
      refine st_set (ed_op (ed_op (ed_op (ed_var rfl (.int m)) ed_int (rd_I (.inr (by decide)))) (ed_var rfl d5) rd_I0) ed_int (rd_I (by decide))) X5.ok (fun v6 G6 H6 X6 d6 => ?_)
      obtain rfl := dp_int d6
      exact ⟨G6, X5.trans X6, _, some v5, rfl⟩
    · obtain ⟨m, y, rfl⟩ := p
      have dc := dp_mono (X3.gg.trans X5.gg) dv
      refine ⟨.ref c, rfl, .int m, rfl, (by show 4 ≤ sizeLine; decide), fun p hp => ?_⟩
      refine q p c G5 _ ⟨X5.ok.e.trans (Ex.new hp), fun b' c' z => ?_, fun b' c' z => ?_⟩
      · obtain ⟨rfl, rfl⟩ := Prod.mk.inj (Option.some.inj z)
        exact ⟨ms, ex_l (X3.gg.trans X5.gg) hc⟩
      · obtain ⟨rfl, rfl⟩ := Prod.mk.inj (Option.some.inj z)
        exact ⟨⟨X5.ok.e.off hp, ne_of_none (X5.ok.e _ _ (X5.gg _ _ (X3.gg _ _ hcH))) hp⟩, 0, 0, m, upd_same, by decide⟩
/-! _law_pull -/
def sp__law_pull (K : Fg) : Sp := fun vs H Q E => ∃ (b c : Addr) (G : Hp) (u : Int), vs = [.ref b, .int u] ∧ Ok K (some (b, c)) G H ∧ 0 < u ∧ u.natAbs.log2 < 9000 ∧ ∀ n G2 H2, 0 ≤ n → n < u → Ext K (some (b, c)) G H G2 H2 → Q (.int n) H2
/-- the bag between two steps of a draw: what was read at first stands, but the bag itself -/
structure BagS (K : Fg) (b c : Addr) (ns : List Int) (G H H2 : Hp) (i r m : Int) : Prop where
  k : ∀ a o, a ≠ b → H a = some o → H2 a = some o
  h : H2 b = some (.lst [.ref c, .int i, .int r, .int m])
  s : SqL K H2 c (ns.map V.int)
  p : 0 ≤ i
theorem BagS.d {b c : Addr} {ns : List Int} {G H H2 : Hp} {i r m : Int} (z : BagS K b c ns G H H2 i r m) : Dp K H2 (.ref b) (.list [.list (ns.map .int), .int i, .int r, .int m]) :=
  .lst (SqL.of z.h) (.cons (.lst z.s (dpAll_ints ns)) (.cons (.int i) (.cons (.int r) (.cons (.int m) .nil))))
theorem BagS.x {b c : Addr} {ns : List Int} {G H H2 G3 H3 : Hp} {i r m : Int} (z : BagS K b c ns G H H2 i r m) (X : Ext K none H2 H2 G3 H3) : BagS K b c ns G H H3 i r m := by
  have k : Ex H2 H3 := fun a o h => X.hh a o (fun ⟨_, q⟩ => by cases q) h
  exact ⟨fun a o n h => k a o (z.k a o n h), k _ _ z.h, ex_l k z.s, z.p⟩
theorem BagS.put {b c : Addr} {ns : List Int} {G H H2 : Hp} {i r m i' r' : Int} (z : BagS K b c ns G H H2 i r m) (hc : c ≠ b) (h : 0 ≤ i') : BagS K b c ns G H (upd H2 b (.lst [.ref c, .int i', .int r', .int m])) i' r' m :=
  ⟨fun a o n h => by rw [upd_ne n]; exact z.k a o n h, upd_same, by
    rcases z.s with (s | ⟨o, s⟩) | s
    · exact .inl (.inl (by rw [upd_ne hc]; exact s))
    · exact .inl (.inr ⟨o, by rw [upd_ne hc]; exact s⟩)
    · exact .inr s, h⟩
theorem BagS.ext {b c : Addr} {ns : List Int} {G H H2 : Hp} {i r m : Int} (z : BagS K b c ns G H H2 i r m) (e : Ok K (some (b, c)) G H) : Ext K (some (b, c)) G H G H2 := by
  have gb := (e.b b c rfl).1.1
  refine ⟨Ex.refl G, fun a o n h => z.k a o (fun w => n ⟨c, by rw [w]⟩) h, fun _ _ _ g => g, ⟨fun a o h => z.k a o (fun w => ?_) (e.e a o h), e.c, fun b' c' w => ?_⟩⟩
  · rw [w, gb] at h
    cases h
  · obtain ⟨rfl, rfl⟩ := Prod.mk.inj (Option.some.inj w)
    exact ⟨⟨gb, (e.b _ _ rfl).1.2⟩, i, r, m, z.h, z.p⟩
abbrev N__law_pull : List Str := ["_law_bag_here", "_law_upto", "_law_seed", "_law_fold", "_law_twist", "_law_drawn"]
theorem sc__law_pull : FnScope N__law_pull ["_law_bag_here", "_law_upto"] (defScope s__law_pull) := ⟨rfl, rfl, rfl, by decide +kernel, rfl, by decide +kernel, by decide +kernel⟩
theorem ok__law_pull (T : Txt K mg)  : Good P w K mg base (L2N.CX P w) 1 "_law_pull" ["_law_bag_here", "_law_upto"] [] (sp__law_pull K) := by
  obtain ⟨fd, F⟩ := T.c.def_ 25 (d := d__law_pull) rfl
  have b : Binds K fd ["_law_bag_here", "_law_upto"] [] := F.bindsN fun _ _ _ _ _ _ us hl => match us, hl with | [_, _], _ => rfl
  refine ⟨⟨fd, [], F.ok sc__law_pull (fun vs H Q E h => ?_) (fun cdv A outer s H vs Q E hr h => ?_), .nil, b⟩, T.g__law_pull, F.kp⟩
  · obtain ⟨b, c, G, u, rfl, _⟩ := h
    all_goals rfl
  · obtain ⟨b, c, G, u, rfl, e, hu, hw, q⟩ := h
    all_goals refine ⟨_, PSs.nox (pss_cons (ps_if (pt_cmpR op_lt (pe_ix (r := rIxL K) ix_list (pv 0) pe_int (fun _ _ => rfl)) pe_int (nomark _)) (pss_cons (ps_asg (pe_op op_add (pe_ix (r := rIxL K) ix_list (pv 0) pe_int (fun _ _ => rfl)) pe_int) (pg_sub (pv 0) pe_int set_list)) (pss_cons (ps_set (i := 2) sc__law_pull.nd rfl (Or.inl rfl) (pe_op op_add (pe_ix (r := rIxL K) ix_list (pv 0) pe_int (fun _ _ => rfl)) (pe_op op_mul (pe_ix (r := rIxL K) ix_list (pv 0) pe_int (fun _ _ => rfl)) pe_int))) (pss_cons (ps_if (pt_cmpR op_le (pe_ix (r := rIxL K) ix_list (pv 0) pe_int (fun _ _ => rfl)) (pe_callB (r := rLenS K) call_len_seq (by rfl) T.f_len (by decide +kernel) (pa_cons (pe_ix (r := rIxL K) ix_list (pv 0) pe_int (fun _ _ => rfl)) pa_nil)) (nomark _)) (pss_one (ps_set (i := 2) sc__law_pull.nd rfl (Or.inl rfl) (pe_ix (r := rIxL K) ix_list (pe_ix (r := rIxL K) ix_list (pv 0) pe_int (fun _ _ => rfl)) (pe_op op_sub (pe_ix (r := rIxL K) ix_list (pv 0) pe_int (fun _ _ => rfl)) pe_int) (fun _ _ => rfl)))) pss_nil) (pss_cons (ps_if (PW.pt (pw_or (pt_cmpR op_gt (pe_ix (r := rIxL K) ix_list (pv 0) pe_int (fun _ _ => rfl)) (pe_callB (r := rLenS K) call_len_seq (by rfl) T.f_len (by decide +kernel) (pa_cons (pe_ix (r := rIxL K) ix_list (pv 0) pe_int (fun _ _ => rfl)) pa_nil)) (nomark _)) (pw_or1 (pt_cmpR op_lt (pv 2) (pe_op op_pow pe_int pe_int) (nomark _))))) (pss_cons (ps_set (i := 3) sc__law_pull.nd rfl (Or.inl rfl) (pe_op op_mod (pe_op op_add (pe_op op_add (pe_op op_mul (pv 2) pe_int) (pe_op op_mul (pe_ix (r := rIxL K) ix_list (pv 0) pe_int (fun _ _ => rfl)) pe_int)) (pe_ix (r := rIxL K) ix_list (pv 0) pe_int (fun _ _ => rfl))) pe_int)) (pss_cons (ps_set (i := 4) sc__law_pull.nd rfl (Or.inl rfl) (pe_op op_mod (pe_op op_add (pe_op op_mul (pv 3) (pv 3)) (pe_ix (r := rIxL K) ix_list (pv 0) pe_int (fun _ _ => rfl))) pe_int)) (pss_one (ps_ret (pe_op op_mod (pe_op op_fdivW (pe_op op_mod (pe_op op_add (pe_op op_mul (pv 4) pe_int) (pv 3)) pe_int) pe_int) (pv 1)))))) pss_nil) (pss_one (ps_asg (pv 2) (pg_sub (pv 0) pe_int set_list))))))) pss_nil) (pss_cons (ps_set (i := 5) sc__law_pull.nd rfl (Or.inl rfl) (pe_op op_mod (pe_ix (r := rIxL K) ix_list (pv 0) pe_int (fun _ _ => rfl)) (pv 1))) (pss_cons (ps_asg (pe_op op_fdivW (pe_ix (r := rIxL K) ix_list (pv 0) pe_int (fun _ _ => rfl)) (pv 1)) (pg_sub (pv 0) pe_int set_list)) (pss_one (ps_ret (pv 5)))))), ?_⟩
    obtain ⟨⟨gb, ncb⟩, i, r, m, hb, hi⟩ := e.b b c rfl
    obtain ⟨ns, hc⟩ := e.c b c rfl
    have S0 : BagS K b c ns G H H i r m := ⟨fun _ _ _ h => h, hb, ex_l e.e hc, hi⟩
    have c31 : CDivW (0 : Int) u := ⟨hu, hw⟩
    have fin : ∀ {i r : Int} {H2 : Hp}, BagS K b c ns G H H2 i r m → ∀ {y2 y3 y4 y5 : Option V}, (tSeq (tAsg (tOp (rI (fun _ j => 0 < j) fun i j => .int (i % j)) (tOp (rIxL K) (tVar 0) (tC (.int 2))) (tVar 1)) (gName 5)) (tSeq (tAsg (tOp (rI CDivW fun i j => .int (i / j)) (tOp (rIxL K) (tVar 0) (tC (.int 2))) (tVar 1)) (gSub (tVar 0) (tC (.int 2)) rSetL)) (tRet (tVar 5)))) { nx := fun _ H' => Q .non H', rt := Q } [some (.ref b), some (.int u), y2, y3, y4, y5] H2 := fun {i r H2} S {y2 y3 y4 y5} => by
      refine sq_set (ed_op (ed_op (ed_var rfl S.d) ed_int (rd_ixL rfl)) (ed_var rfl (.int u)) (rd_I hu)) (ok_none H2) (fun v G3 H3 X3 d3 => ?_)
      obtain rfl := dp_int d3
      have S3 := S.x X3
      refine ed_op (ed_op (ed_var rfl S3.d) ed_int (rd_ixL rfl)) (ed_var rfl (.int u)) (rd_I (C := CDivW) (i := r) ⟨hu, hw⟩) H3 (ok_none H3) _ (fun v G4 H4 X4 d4 => ?_)
      obtain rfl := dp_int d4
      have S4 := S3.x X4
      refine ⟨.ref b, rfl, b, _, 2, 2, rfl, rfl, S4.h, rfl, ?_⟩
      have S5 := S4.put (i' := i) (r' := r / u) ncb S4.p
      exact ⟨_, rfl, q (r % u) G _ (Int.emod_nonneg _ (by omega)) (Int.emod_lt_of_pos _ hu) (S5.ext e)⟩
    refine sq_if (eb_test (ed_op (ed_op (ed_var rfl S0.d) ed_int (rd_ixL rfl)) ed_int rd_B0)) (ok_none H) (fun _ G1 H1 X1 => ?_) (fun _ G1 H1 X1 => fin (S0.x X1))
    have S1 := S0.x X1
    refine ed_op (ed_op (ed_var rfl S1.d) ed_int (rd_ixL rfl)) ed_int rd_I0 H1 (ok_none H1) _ (fun v G2 H2 X2 d2 => ?_)
    obtain rfl := dp_int d2
    have S2 := S1.x X2
    refine ⟨.ref b, rfl, b, _, 1, 1, rfl, rfl, S2.h, rfl, ?_⟩
    have S3 := S2.put (i' := i + 1) (r' := r) ncb (by omega)
    refine sq_set (ed_op (ed_op (ed_var rfl S3.d) ed_int (rd_ixL rfl)) (ed_op (ed_op (ed_var rfl S3.d) ed_int (rd_ixL rfl)) ed_int (rd_I (.inr (by decide)))) rd_I0) (ok_none _) (fun v G4 H4 X4 d4 => ?_)
    obtain rfl := dp_int d4
    have S4 := S3.x X4
    refine sq_if (eb_test (ed_op (ed_op (ed_var rfl S4.d) ed_int (rd_ixL rfl)) (ed_len (ed_op (ed_var rfl S4.d) ed_int (rd_ixL rfl)) rfl) rd_B0)) (ok_none _) (fun k G5 H5 X5 => ?_) (fun k G5 H5 X5 => ?_)
    focus
      have S5 := S4.x X5
      have hk : i + 1 ≤ ((ns.map PyData.int).length : Int) := of_decide_eq_true k
      rw [List.length_map] at hk
      have hj : i.toNat < (ns.map PyData.int).length := by
        rw [List.length_map]
        omega
      have ej : i + 1 - 1 = ((i.toNat : Nat) : Int) := by omega
      obtain ⟨s, es⟩ : ∃ s : Int, atI (ns.map PyData.int) (i + 1 - 1) = some (.int s) := by
        refine ⟨ns[i.toNat]'(by rw [List.length_map] at hj; exact hj), ?_⟩
        rw [ej]
        refine atI_nat ?_
        rw [List.getElem?_map, List.getElem?_eq_getElem (by rw [List.length_map] at hj; exact hj)]
        rfl
      refine st_set (ed_op (ed_op (ed_var rfl S5.d) ed_int (rd_ixL rfl)) (ed_op (ed_op (ed_var rfl S5.d) ed_int (rd_ixL rfl)) ed_int rd_I0) (rd_ixL es)) (ok_none _) (fun v G6 H6 X6 d6 => ?_)
      obtain rfl := dp_int d6
      have S6 := S5.x X6
      clear es ej hj hk k X6 d6 X5 S5
      revert S6
      generalize H6 = Hs
      intro S6
    rotate_left
    focus
      have S6 := S4.x X5
      clear k X5
      revert S6
      generalize H5 = Hs
      generalize m + (i + 1) * 7919 = s
      intro S6
    all_goals
      refine sq_if (eb_or (eb_test (ed_op (ed_op (ed_var rfl S6.d) ed_int (rd_ixL rfl)) (ed_len (ed_op (ed_var rfl S6.d) ed_int (rd_ixL rfl)) rfl) rd_B0)) (fun _ => eb_test (ed_op (ed_var rfl (.int s)) (ed_op ed_int ed_int (rd_I (C := CPow) ⟨by decide, by decide, by decide⟩)) rd_B0))) (ok_none _) (fun _ G7 H7 X7 => ?_) (fun _ G7 H7 X7 => ?_)
      · have S7 := S6.x X7
        refine sq_set (ed_op (ed_op (ed_op (ed_op (ed_var rfl (.int s)) ed_int (rd_I (.inr (by decide)))) (ed_op (ed_op (ed_var rfl S7.d) ed_int (rd_ixL rfl)) ed_int (rd_I (.inr (by decide)))) rd_I0) (ed_op (ed_var rfl S7.d) ed_int (rd_ixL rfl)) rd_I0) ed_int (rd_I (by decide))) (ok_none _) (fun v G8 H8 X8 d8 => ?_)
        obtain rfl := dp_int d8
        have S8 := S7.x X8
        clear d8 X8
        have f0 := Int.emod_nonneg (s * 48271 + (i + 1) * 40692 + m) (show (2147483647 : Int) ≠ 0 by decide)
        have f1 := Int.emod_lt_of_pos (s * 48271 + (i + 1) * 40692 + m) (show (0 : Int) < 2147483647 by decide)
        revert f0 f1
        generalize (s * 48271 + (i + 1) * 40692 + m) % 2147483647 = f
        intro f0 f1
        refine sq_set (ed_op (ed_op (ed_op (ed_var rfl (.int f)) (ed_var rfl (.int f)) (rd_I (.inl ⟨by omega, by omega⟩))) (ed_op (ed_var rfl S8.d) ed_int (rd_ixL rfl)) rd_I0) ed_int (rd_I (by decide))) (ok_none _) (fun v G9 H9 X9 d9 => ?_)
        obtain rfl := dp_int d9
        have S9 := S8.x X9
        refine st_ret (K := K) (ed_op (ed_op (ed_op (ed_op (ed_op (ed_var rfl (.int _)) ed_int (rd_I (.inr (by decide)))) (ed_var rfl (.int f)) rd_I0) ed_int (rd_I (by decide))) ed_int (rd_I (C := CDivW) ⟨by decide, by decide +kernel⟩)) (ed_var rfl (.int u)) (rd_I hu)) (ok_none _) (fun v G10 H10 X10 d10 => ?_)
        obtain rfl := dp_int d10
        exact q _ G _ (Int.emod_nonneg _ (by omega)) (Int.emod_lt_of_pos _ hu) ((S9.x X10).ext e)
      · have S7 := S6.x X7
        refine ⟨_, rfl, .ref b, rfl, b, _, 2, 2, rfl, rfl, S7.h, rfl, ?_⟩
        exact fin (S7.put (i' := i + 1) (r' := s) ncb S7.p)
def isN (u : Int) (d : PyData) : Prop := ∃ n : Int, d = .int n ∧ 0 ≤ n ∧ n < u
theorem es_pull {b c : Addr} {i : Nat} {tb : TE} {σ : L2.St} {G : Hp} {E : XK} {u : Int} (hσ : σ[i]? = some (some (.ref b))) (hu : EvD K (some (b, c)) tb σ G (.int u)) (h0 : 0 < u) (hw : u < 2 ^ 250) :
    EvS K (some (b, c)) (tCall (sp__law_pull K) [] E (tCons (tVar i) (tCons tb tNil))) σ G (isN u) := fun H e Q q =>
  ⟨.ref b, hσ, hu H e _ fun v G2 H2 X dv => ⟨b, c, G2, u, by rw [dp_int dv]; rfl, X.ok, h0, lg h0 hw, fun n G3 H3 h1 h2 X3 => q (.int n) (.int n) G3 H3 ⟨n, rfl, h1, h2⟩ (X.trans X3) (.int n)⟩⟩
theorem es_pullS {b c : Addr} {i : Nat} {tb : TE} {σ : L2.St} {G : Hp} {E : XK} {S : PyData → Prop} {M : Int} (hσ : σ[i]? = some (some (.ref b))) (hu : EvS K (some (b, c)) tb σ G S) (hS : ∀ d, S d → ∃ u : Int, d = .int u ∧ 0 < u ∧ u ≤ M) (hM : M < 2 ^ 250) :
    EvS K (some (b, c)) (tCall (sp__law_pull K) [] E (tCons (tVar i) (tCons tb tNil))) σ G (isN M) := fun H e Q q =>
  ⟨.ref b, hσ, hu H e _ fun d v G2 H2 s X dv => by
    obtain ⟨u, rfl, h0, hu⟩ := hS d s
    exact ⟨b, c, G2, u, by rw [dp_int dv]; rfl, X.ok, h0, lg h0 (by omega), fun n G3 H3 h1 h2 X3 => q (.int n) (.int n) G3 H3 ⟨n, rfl, h1, by omega⟩ (X.trans X3) (.int n)⟩⟩
/-! _law_whole -/
def wholeD : PyData → Bool
  | .int _ => true
  | _ => false
theorem kb_ii : kitB "int" "int" = some true := by decide +kernel
theorem kb_ib : kitB "int" "bool" = some false := by decide +kernel
theorem kb_bi : kitB "bool" "int" = some true := by decide +kernel
theorem kb_bb : kitB "bool" "bool" = some true := by decide +kernel
theorem kb_ni : kitB "NoneType" "int" = some false := by decide +kernel
theorem kb_si : kitB "str" "int" = some false := by decide +kernel
theorem kb_sb : kitB "str" "bool" = some false := by decide +kernel
theorem kb_ss : kitB "str" "str" = some true := by decide +kernel
theorem kb_li : kitB "list" "int" = some false := by decide +kernel
theorem kb_lb : kitB "list" "bool" = some false := by decide +kernel
theorem kb_ls : kitB "list" "str" = some false := by decide +kernel
theorem kb_ll : kitB "list" "list" = some true := by decide +kernel
theorem kb_lt : kitB "list" "tuple" = some false := by decide +kernel
theorem kb_ti : kitB "tuple" "int" = some false := by decide +kernel
theorem kb_tb : kitB "tuple" "bool" = some false := by decide +kernel
theorem kb_ts : kitB "tuple" "str" = some false := by decide +kernel
theorem kb_tl : kitB "tuple" "list" = some false := by decide +kernel
theorem kb_tt : kitB "tuple" "tuple" = some true := by decide +kernel
def sp__law_whole (K : Fg) : Sp := fun vs H Q E => ∃ (B : Bg) (G : Hp) (v : V) (d : PyData), Ok K B G H ∧ vs = [v] ∧ Dp K G v d ∧ Ret K B G H Q (.bool (wholeD d))
abbrev N__law_whole : List Str := ["_law_found"]
theorem sc__law_whole : FnScope N__law_whole ["_law_found"] (defScope s__law_whole) := ⟨rfl, rfl, rfl, by decide +kernel, rfl, by decide +kernel, by decide +kernel⟩
theorem ok__law_whole (T : Txt K mg)  : Good P w K mg base (L2N.CX P w) 1 "_law_whole" ["_law_found"] [] (sp__law_whole K) := by
  obtain ⟨fd, F⟩ := T.c.def_ 26 (d := d__law_whole) rfl
  have b : Binds K fd ["_law_found"] [] := F.bindsN fun _ _ _ _ _ _ us hl => match us, hl with | [_], _ => rfl
  refine ⟨⟨fd, [], F.ok sc__law_whole (fun vs H Q E h => ?_) (fun cdv A outer s H vs Q E hr h => ?_), .nil, b⟩, T.g__law_whole, F.kp⟩
  · obtain ⟨B, G, v, d, e, rfl, _⟩ := h
    all_goals rfl
  · obtain ⟨B, G, v, d, e, rfl, dv, q⟩ := h
    all_goals refine ⟨_, PSs.nox (pss_one (ps_ret (pe_and (pe_callB (r := rIsi K) call_isi (by rfl) T.f_isinstance (by decide +kernel) (pa_cons (pv 0) (pa_cons (pe_bltn (v := .ty "int") (by rfl) T.f_int (by decide +kernel) rfl) pa_nil))) (pe_one (pe_not (pe_callB (r := rIsi K) call_isi (by rfl) T.f_isinstance (by decide +kernel) (pa_cons (pv 0) (pa_cons (pe_bltn (v := .ty "bool") (by rfl) T.f_bool (by decide +kernel) rfl) pa_nil)))))))), ?_⟩
    cases dv with
    | non => exact st_ret (ed_andV (b := false) (c := true) (ed_isi (ed_var rfl .non) kb_ni) (fun z => Bool.noConfusion z)) e q
    | bl x => exact st_ret (ed_andV (b := true) (ed_isi (ed_var rfl (.bl x)) kb_bi) (fun _ => ed_notV (ed_isi (ed_var rfl (.bl x)) kb_bb))) e q
    | int x => exact st_ret (ed_andV (b := true) (ed_isi (ed_var rfl (.int x)) kb_ii) (fun _ => ed_notV (ed_isi (ed_var rfl (.int x)) kb_ib))) e q
    | str x => exact st_ret (ed_andV (b := false) (c := true) (ed_isi (ed_var rfl (.str x)) kb_si) (fun z => Bool.noConfusion z)) e q
    | lst h a => exact st_ret (ed_andV (b := false) (c := true) (ed_isi (ed_var rfl (.lst h a)) kb_li) (fun z => Bool.noConfusion z)) e q
    | tup h a => exact st_ret (ed_andV (b := false) (c := true) (ed_isi (ed_var rfl (.tup h a)) kb_ti) (fun z => Bool.noConfusion z)) e q
theorem ed_whole {B : Bg} {G : Hp} {σ : L2.St} {tr : TA} {E : XK} {d : PyData} (ha : EvA K B tr σ G [d]) : EvD K B (tCall (sp__law_whole K) [] E tr) σ G (.bool (wholeD d)) :=
  ed_call ha fun vs G2 H2 _ e dv Q q => by
    cases dv with
    | cons h a =>
      cases a
      exact ⟨B, G2, _, d, e, rfl, h, q⟩
/-! _law_same -/
/-- data of a depth below n, no list too long -/
def fit : Nat → PyData → Prop
  | 0, _ => False
  | n + 1, .list ds => ds.length ≤ 100000 ∧ ∀ x ∈ ds, fit n x
  | n + 1, .tuple ds => ds.length ≤ 100000 ∧ ∀ x ∈ ds, fit n x
  | _ + 1, .dict _ => False
  | _ + 1, _ => True
theorem fit_int {n : Nat} {i : Int} : fit (n + 1) (.int i) := trivial
theorem fit_str {n : Nat} {i : Str} : fit (n + 1) (.str i) := trivial
theorem fit_none {n : Nat} : fit (n + 1) .none := trivial
theorem fit_tup {n : Nat} {ds : List PyData} (hl : ds.length ≤ 100000) (h : ∀ x ∈ ds, fit n x) : fit (n + 1) (.tuple ds) := ⟨hl, h⟩
theorem fa_nil {n : Nat} : ∀ x ∈ ([] : List PyData), fit n x := fun _ h => by cases h
theorem fa_cons {n : Nat} {d : PyData} {ds : List PyData} (h : fit n d) (h2 : ∀ x ∈ ds, fit n x) : ∀ x ∈ d :: ds, fit n x := fun x hx => by
  cases hx with
  | head => exact h
  | tail _ q => exact h2 x q
def sp_same (n : Nat) (K : Fg) : Sp := fun vs H Q E => ∃ (B : Bg) (G : Hp) (v u : V) (d : PyData), Ok K B G H ∧ vs = [v, u] ∧ Dp K G v d ∧ Dp K G u d ∧ fit n d ∧ Ret K B G H Q (.bool true)
abbrev sp__law_same (K : Fg) : Sp := sp_same 6 K
theorem ed_same {n : Nat} {B : Bg} {G : Hp} {σ : L2.St} {tr : TA} {E : XK} {d : PyData} (ha : EvA K B tr σ G [d, d]) (hf : fit n d) : EvD K B (tCall (sp_same n K) [] E tr) σ G (.bool true) :=
  ed_call ha fun vs G2 H2 _ e dv Q q => by
    cases dv with
    | cons h a =>
      cases a with
      | cons h2 a2 =>
        cases a2
        exact ⟨B, G2, _, _, d, e, rfl, h, h2, hf, q⟩
theorem all_yes (n : Nat) : (List.range n).filterMap (fun j : Nat => (fun _ : Int => some (PyData.bool true)) (j : Int)) = (List.replicate n true).map PyData.bool := by
  induction n with
  | zero => rfl
  | succ n ih =>
    rw [List.range_succ, List.filterMap_append, ih, List.replicate_succ', List.map_append]
    rfl
theorem at_some {ds : List PyData} {j : Nat} (h : j < ds.length) : atI ds (j : Int) = some ds[j] := atI_nat (List.getElem?_eq_getElem h)
abbrev N__law_same : List Str := ["_law_found", "_law_due", "_law_at"]
theorem sc__law_same : FnScope N__law_same ["_law_found", "_law_due"] (defScope s__law_same) := ⟨rfl, rfl, rfl, by decide +kernel, rfl, by decide +kernel, by decide +kernel⟩
theorem same_ok (T : Txt K mg) (G__law_whole : Good P w K mg base (L2N.CX P w) 1 "_law_whole" ["_law_found"] [] (sp__law_whole K)) : ∀ n : Nat, Good P w K mg base (L2N.CX P w) (n + 2) "_law_same" ["_law_found", "_law_due"] [] (sp_same n K)
  | 0 => by
    obtain ⟨fd, F⟩ := T.c.def_ 27 (d := d__law_same) rfl
    have b : Binds K fd ["_law_found", "_law_due"] [] := F.bindsN fun _ _ _ _ _ _ us hl => match us, hl with | [_, _], _ => rfl
    exact ⟨⟨fd, [], ⟨fun vs H Q E h => (by obtain ⟨_, _, _, _, _, _, _, _, _, z, _⟩ := h; exact z.elim), fun A outer s H args us vs Q E hr e0 hb hv h => (by obtain ⟨_, _, _, _, _, _, _, _, _, z, _⟩ := h; exact z.elim)⟩, .nil, b⟩, T.g__law_same, F.kp⟩
  | n + 1 => by
    have G__law_same := same_ok T G__law_whole n
    obtain ⟨fd, F⟩ := T.c.def_ 27 (d := d__law_same) rfl
    have b : Binds K fd ["_law_found", "_law_due"] [] := F.bindsN fun _ _ _ _ _ _ us hl => match us, hl with | [_, _], _ => rfl
    refine ⟨⟨fd, [], F.ok sc__law_same (fun vs H Q E h => ?_) (fun cdv A outer s H vs Q E hr h => ?_), .nil, b⟩, T.g__law_same, F.kp⟩
    · obtain ⟨B, G, v, u, d, e, rfl, _⟩ := h
      rfl
    · obtain ⟨B, G, v, u, d, e, rfl, dv, du, hf, q⟩ := h
      have hr1 : Room 1 _ := hr.mono (Nat.succ_le_succ (Nat.zero_le (n + 1)))
      refine ⟨_, PSs.nox (pss_cons (ps_if (pt_cmpR op_isN (pv 1) pe_non (nomark _)) (pss_one (ps_ret (pe_cmpR op_isN (pv 0) pe_non (nomark _)))) pss_nil) (pss_cons (ps_if (pt_val (pe_callB (r := rIsi K) call_isi (by rfl) T.f_isinstance (by decide +kernel) (pa_cons (pv 1) (pa_cons (pe_bltn (v := .ty "bool") (by rfl) T.f_bool (by decide +kernel) rfl) pa_nil)))) (pss_one (ps_ret (pe_and (pe_callB (r := rIsi K) call_isi (by rfl) T.f_isinstance (by decide +kernel) (pa_cons (pv 0) (pa_cons (pe_bltn (v := .ty "bool") (by rfl) T.f_bool (by decide +kernel) rfl) pa_nil))) (pe_one (pe_cmpR op_eq (pv 0) (pv 1) (nomark _)))))) pss_nil) (pss_cons (ps_if (pt_val (pe_callB (r := rIsi K) call_isi (by rfl) T.f_isinstance (by decide +kernel) (pa_cons (pv 1) (pa_cons (pe_bltn (v := .ty "int") (by rfl) T.f_int (by decide +kernel) rfl) pa_nil)))) (pss_one (ps_ret (pe_and (pe_own G__law_whole hr1 (by rfl) passLN (pa_cons (pv 0) pa_nil)) (pe_one (pe_cmpR op_eq (pv 0) (pv 1) (nomark _)))))) pss_nil) (pss_cons (ps_if (pt_val (pe_callB (r := rIsi K) call_isi (by rfl) T.f_isinstance (by decide +kernel) (pa_cons (pv 1) (pa_cons (pe_bltn (v := .ty "str") (by rfl) T.f_str (by decide +kernel) rfl) pa_nil)))) (pss_one (ps_ret (pe_and (pe_callB (r := rIsi K) call_isi (by rfl) T.f_isinstance (by decide +kernel) (pa_cons (pv 0) (pa_cons (pe_bltn (v := .ty "str") (by rfl) T.f_str (by decide +kernel) rfl) pa_nil))) (pe_one (pe_cmpR op_eq (pv 0) (pv 1) (nomark _)))))) pss_nil) (pss_cons (ps_if (PW.pt (pw_or (pt_cmpR op_ne (pe_callB (r := rIsi K) call_isi (by rfl) T.f_isinstance (by decide +kernel) (pa_cons (pv 1) (pa_cons (pe_bltn (v := .ty "list") (by rfl) T.f_list (by decide +kernel) rfl) pa_nil))) (pe_callB (r := rIsi K) call_isi (by rfl) T.f_isinstance (by decide +kernel) (pa_cons (pv 0) (pa_cons (pe_bltn (v := .ty "list") (by rfl) T.f_list (by decide +kernel) rfl) pa_nil))) (nomark _)) (pw_or1 (pt_cmpR op_ne (pe_callB (r := rIsi K) call_isi (by rfl) T.f_isinstance (by decide +kernel) (pa_cons (pv 1) (pa_cons (pe_bltn (v := .ty "tuple") (by rfl) T.f_tuple (by decide +kernel) rfl) pa_nil))) (pe_callB (r := rIsi K) call_isi (by rfl) T.f_isinstance (by decide +kernel) (pa_cons (pv 0) (pa_cons (pe_bltn (v := .ty "tuple") (by rfl) T.f_tuple (by decide +kernel) rfl) pa_nil))) (nomark _))))) (pss_one (ps_ret pe_bl)) pss_nil) (pss_cons (ps_if (pt_cmpR op_ne (pe_callB (r := rLenS K) call_len_seq (by rfl) T.f_len (by decide +kernel) (pa_cons (pv 0) pa_nil)) (pe_callB (r := rLenS K) call_len_seq (by rfl) T.f_len (by decide +kernel) (pa_cons (pv 1) pa_nil)) (nomark _)) (pss_one (ps_ret pe_bl)) pss_nil) (pss_one (ps_ret (pe_callB (r := rAll K) (cr_all rfl) (by rfl) T.f_all (by decide +kernel) (pa_cons (pe_lc (own := [("_law_at", 2)]) (g := gName 2) rfl sc__law_same.nd (pi_range1 (by rfl) T.f_range (pa_cons (pe_callB (r := rLenS K) call_len_seq (by rfl) T.f_len (by decide +kernel) (pa_cons (pv 1) pa_nil)) pa_nil)) (blkOk_by (own := [("_law_at", 2)]) (N := N__law_same) (sc := defScope s__law_same) (by decide +kernel)) (fun _ _ _ _ _ => (pg_name (i := 2) sc__law_same.nd rfl (Or.inl rfl))) (fun _ _ _ _ _ => pts_nil) (fun _ _ _ _ _ => (pe_own G__law_same hr (by rfl) passLN (pa_cons (pe_ix (r := rIx K) ix_seq (pv 0) (pv 2) (fun _ _ => rfl)) (pa_cons (pe_ix (r := rIx K) ix_seq (pv 1) (pv 2) (fun _ _ => rfl)) pa_nil))))) pa_nil)))))))))), ?_⟩
      refine sq_if (eb_test (ed_op (ed_var rfl du) ed_non rd_isN)) e (fun c G2 H2 X => ?_) (fun c G2 H2 X => ?_)
      · cases d with
        | none => exact st_ret (ed_op (ed_var rfl (dp_mono X.gg dv)) ed_non rd_isN) X.ok (q.mono X)
        | _ => exact Bool.noConfusion c
      replace q := q.mono X
      replace dv := dp_mono X.gg dv
      replace du := dp_mono X.gg du
      have e2 := X.ok
      cases d with
      | none => exact Bool.noConfusion c
      | bool x =>
        refine sq_if (b := true) (eb_B (ed_isi (ed_var rfl du) kb_bb)) e2 (fun _ G3 H3 X3 => ?_) (fun c _ _ _ => Bool.noConfusion c)
        refine st_ret (d := .bool true) (ed_is (ed_andV (b := true) (ed_isi (ed_var rfl (dp_mono X3.gg dv)) kb_bb) (fun _ => ed_op (ed_var rfl (dp_mono X3.gg dv)) (ed_var rfl (dp_mono X3.gg du)) (rd_eq rfl))) ?_) X3.ok (q.mono X3)
        rw [decide_eq_true (rfl : vOf (.bool x) = vOf (.bool x))]
        rfl
      | int x =>
        refine sq_if (b := false) (eb_B (ed_isi (ed_var rfl du) kb_ib)) e2 (fun c _ _ _ => Bool.noConfusion c) (fun _ G3 H3 X3 => ?_)
        refine sq_if (b := true) (eb_B (ed_isi (ed_var rfl (dp_mono X3.gg du)) kb_ii)) X3.ok (fun _ G4 H4 X4 => ?_) (fun c _ _ _ => Bool.noConfusion c)
        have g := X3.gg.trans X4.gg
        refine st_ret (d := .bool true) (ed_is (ed_andV (b := true) (ed_whole (ea_cons (ed_var rfl (dp_mono g dv)) ea_nil)) (fun _ => ed_op (ed_var rfl (dp_mono g dv)) (ed_var rfl (dp_mono g du)) (rd_eq rfl))) ?_) X4.ok (q.mono (X3.trans X4))
        rw [decide_eq_true (rfl : vOf (.int x) = vOf (.int x))]
        rfl
      | str x =>
        refine sq_if (b := false) (eb_B (ed_isi (ed_var rfl du) kb_sb)) e2 (fun c _ _ _ => Bool.noConfusion c) (fun _ G3 H3 X3 => ?_)
        refine sq_if (b := false) (eb_B (ed_isi (ed_var rfl (dp_mono X3.gg du)) kb_si)) X3.ok (fun c _ _ _ => Bool.noConfusion c) (fun _ G4 H4 X4 => ?_)
        refine sq_if (b := true) (eb_B (ed_isi (ed_var rfl (dp_mono (X3.gg.trans X4.gg) du)) kb_ss)) X4.ok (fun _ G5 H5 X5 => ?_) (fun c _ _ _ => Bool.noConfusion c)
        have g := (X3.gg.trans X4.gg).trans X5.gg
        refine st_ret (d := .bool true) (ed_is (ed_andV (b := true) (ed_isi (ed_var rfl (dp_mono g dv)) kb_ss) (fun _ => ed_op (ed_var rfl (dp_mono g dv)) (ed_var rfl (dp_mono g du)) (rd_eq rfl))) ?_) X5.ok (q.mono ((X3.trans X4).trans X5))
        rw [decide_eq_true (rfl : vOf (.str x) = vOf (.str x))]
        rfl
      | list ds =>
        refine sq_if (b := false) (eb_B (ed_isi (ed_var rfl du) kb_lb)) e2 (fun c _ _ _ => Bool.noConfusion c) (fun _ G3 H3 X3 => ?_)
        refine sq_if (b := false) (eb_B (ed_isi (ed_var rfl (dp_mono X3.gg du)) kb_li)) X3.ok (fun c _ _ _ => Bool.noConfusion c) (fun _ G4 H4 X4 => ?_)
        refine sq_if (b := false) (eb_B (ed_isi (ed_var rfl (dp_mono (X3.gg.trans X4.gg) du)) kb_ls)) X4.ok (fun c _ _ _ => Bool.noConfusion c) (fun _ G5 H5 X5 => ?_)
        have g := (X3.gg.trans X4.gg).trans X5.gg
        replace q := q.mono ((X3.trans X4).trans X5)
        replace dv := dp_mono g dv
        replace du := dp_mono g du
        refine sq_if (b := false) (eb_or (b := false) (eb_test (ed_op (ed_isi (ed_var rfl du) kb_ll) (ed_isi (ed_var rfl dv) kb_ll) (rd_ne rfl))) (fun _ => eb_test (ed_op (ed_isi (ed_var rfl du) kb_lt) (ed_isi (ed_var rfl dv) kb_lt) (rd_ne rfl)))) X5.ok (fun c _ _ _ => Bool.noConfusion c) (fun _ G6 H6 X6 => ?_)
        refine sq_if (b := false) (eb_is (eb_test (ed_op (ed_len (ed_var rfl (dp_mono X6.gg dv)) rfl) (ed_len (ed_var rfl (dp_mono X6.gg du)) rfl) (rd_ne rfl))) (by rw [decide_eq_true (rfl : vOf (.int (ds.length : Int)) = vOf (.int (ds.length : Int)))]; rfl)) X6.ok (fun c _ _ _ => Bool.noConfusion c) (fun _ G7 H7 X7 => ?_)
        have g7 := X6.gg.trans X7.gg
        refine st_ret (d := .bool true) (ed_is (ed_all (bs := List.replicate ds.length true) (EvF.ed (ed_isF (ef_lcR (n := ds.length) (f := fun _ => some (.bool true)) (ea_cons (ed_len (ed_var rfl (dp_mono g7 du)) rfl) ea_nil) hf.1 (fun j _ => eb_yes) (fun j d hj hd => ?_)) (all_yes _)))) (by simp)) X7.ok (q.mono (X6.trans X7))
        obtain rfl := Option.some.inj hd
        exact ed_same (d := ds[j]) (ea_cons (ed_op (ed_var rfl (dp_mono g7 dv)) (ed_var rfl (.int _)) (rd_ixSL (at_some hj))) (ea_cons (ed_op (ed_var rfl (dp_mono g7 du)) (ed_var rfl (.int _)) (rd_ixSL (at_some hj))) ea_nil)) (hf.2 _ (List.getElem_mem hj))
      | tuple ds =>
        refine sq_if (b := false) (eb_B (ed_isi (ed_var rfl du) kb_tb)) e2 (fun c _ _ _ => Bool.noConfusion c) (fun _ G3 H3 X3 => ?_)
        refine sq_if (b := false) (eb_B (ed_isi (ed_var rfl (dp_mono X3.gg du)) kb_ti)) X3.ok (fun c _ _ _ => Bool.noConfusion c) (fun _ G4 H4 X4 => ?_)
        refine sq_if (b := false) (eb_B (ed_isi (ed_var rfl (dp_mono (X3.gg.trans X4.gg) du)) kb_ts)) X4.ok (fun c _ _ _ => Bool.noConfusion c) (fun _ G5 H5 X5 => ?_)
        have g := (X3.gg.trans X4.gg).trans X5.gg
        replace q := q.mono ((X3.trans X4).trans X5)
        replace dv := dp_mono g dv
        replace du := dp_mono g du
        refine sq_if (b := false) (eb_or (b := false) (eb_test (ed_op (ed_isi (ed_var rfl du) kb_tl) (ed_isi (ed_var rfl dv) kb_tl) (rd_ne rfl))) (fun _ => eb_test (ed_op (ed_isi (ed_var rfl du) kb_tt) (ed_isi (ed_var rfl dv) kb_tt) (rd_ne rfl)))) X5.ok (fun c _ _ _ => Bool.noConfusion c) (fun _ G6 H6 X6 => ?_)
        refine sq_if (b := false) (eb_is (eb_test (ed_op (ed_len (ed_var rfl (dp_mono X6.gg dv)) rfl) (ed_len (ed_var rfl (dp_mono X6.gg du)) rfl) (rd_ne rfl))) (by rw [decide_eq_true (rfl : vOf (.int (ds.length : Int)) = vOf (.int (ds.length : Int)))]; rfl)) X6.ok (fun c _ _ _ => Bool.noConfusion c) (fun _ G7 H7 X7 => ?_)
        have g7 := X6.gg.trans X7.gg
        refine st_ret (d := .bool true) (ed_is (ed_all (bs := List.replicate ds.length true) (EvF.ed (ed_isF (ef_lcR (n := ds.length) (f := fun _ => some (.bool true)) (ea_cons (ed_len (ed_var rfl (dp_mono g7 du)) rfl) ea_nil) hf.1 (fun j _ => eb_yes) (fun j d hj hd => ?_)) (all_yes _)))) (by simp)) X7.ok (q.mono (X6.trans X7))
        obtain rfl := Option.some.inj hd
        exact ed_same (d := ds[j]) (ea_cons (ed_op (ed_var rfl (dp_mono g7 dv)) (ed_var rfl (.int _)) (rd_ixST (at_some hj))) (ea_cons (ed_op (ed_var rfl (dp_mono g7 du)) (ed_var rfl (.int _)) (rd_ixST (at_some hj))) ea_nil)) (hf.2 _ (List.getElem_mem hj))
      | dict kvs => exact hf.elim
theorem ok__law_same (T : Txt K mg) (G__law_whole : Good P w K mg base (L2N.CX P w) 1 "_law_whole" ["_law_found"] [] (sp__law_whole K)) : Good P w K mg base (L2N.CX P w) 8 "_law_same" ["_law_found", "_law_due"] [] (sp_same 6 K) := same_ok T G__law_whole 6
/-! _law_go -/
def okL (t : Int) : Prop := 0 ≤ t ∧ t ≤ 7
def dxL (t : Int) : Int := [1, 1, 0, -1, -1, -1, 0, 1].getD t.toNat 0
def dyL (t : Int) : Int := [0, 1, 1, 1, 0, -1, -1, -1].getD t.toNat 0
theorem lt8L {t : Int} (h : okL t) : ∃ n : Nat, t = (n : Int) ∧ n < 8 := by
  obtain ⟨h1, h2⟩ := h
  exact ⟨t.toNat, by omega, by omega⟩
theorem at_dxL {t : Int} (h : okL t) : atI ([.int 1, .int 1, .int 0, .int (0 - 1), .int (0 - 1), .int (0 - 1), .int 0, .int 1] : List PyData) t = some (.int (dxL t)) := by
  obtain ⟨n, rfl, hn⟩ := lt8L h
  refine atI_nat ?_
  match n, hn with
  | 0, _ | 1, _ | 2, _ | 3, _ | 4, _ | 5, _ | 6, _ | 7, _ => rfl
theorem at_dyL {t : Int} (h : okL t) : atI ([.int 0, .int 1, .int 1, .int 1, .int 0, .int (0 - 1), .int (0 - 1), .int (0 - 1)] : List PyData) t = some (.int (dyL t)) := by
  obtain ⟨n, rfl, hn⟩ := lt8L h
  refine atI_nat ?_
  match n, hn with
  | 0, _ | 1, _ | 2, _ | 3, _ | 4, _ | 5, _ | 6, _ | 7, _ => rfl
def goL (x y t : Int) : PyData := .tuple [.int (x + dxL t), .int (y + dyL t)]
def sp__law_go (K : Fg) : Sp := fun vs H Q E => ∃ (B : Bg) (G : Hp) (x y t : Int), Ok K B G H ∧ vs = [.int x, .int y, .int t] ∧ okL t ∧ Ret K B G H Q (goL x y t)
abbrev N__law_go : List Str := ["_law_here", "_law_low", "_law_pick", "_law_there"]
theorem sc__law_go : FnScope N__law_go ["_law_here", "_law_low", "_law_pick"] (defScope s__law_go) := ⟨rfl, rfl, rfl, by decide +kernel, rfl, by decide +kernel, by decide +kernel⟩
theorem ok__law_go (T : Txt K mg)  : Good P w K mg base (L2N.CX P w) 1 "_law_go" ["_law_here", "_law_low", "_law_pick"] [] (sp__law_go K) := by
  obtain ⟨fd, F⟩ := T.c.def_ 28 (d := d__law_go) rfl
  have b : Binds K fd ["_law_here", "_law_low", "_law_pick"] [] := F.bindsN fun _ _ _ _ _ _ us hl => match us, hl with | [_, _, _], _ => rfl
  refine ⟨⟨fd, [], F.ok sc__law_go (fun vs H Q E h => ?_) (fun cdv A outer s H vs Q E hr h => ?_), .nil, b⟩, T.g__law_go, F.kp⟩
  · obtain ⟨B, G, x, y, t, e, rfl, _⟩ := h
    all_goals rfl
  · obtain ⟨B, G, x, y, t, e, rfl, z, q⟩ := h
    all_goals refine ⟨_, PSs.nox (pss_cons (ps_set (i := 3) sc__law_go.nd rfl (Or.inl rfl) (pe_op op_add (pv 0) (pe_ix (r := rIxL K) ix_list (pe_lst (pa_cons pe_int (pa_cons pe_int (pa_cons pe_int (pa_cons (pe_op op_sub pe_int pe_int) (pa_cons (pe_op op_sub pe_int pe_int) (pa_cons (pe_op op_sub pe_int pe_int) (pa_cons pe_int (pa_cons pe_int pa_nil))))))))) (pv 2) (fun _ _ => rfl)))) (pss_one (ps_ret (pe_tup (pa_cons (pv 3) (pa_cons (pe_op op_add (pv 1) (pe_ix (r := rIxL K) ix_list (pe_lst (pa_cons pe_int (pa_cons pe_int (pa_cons pe_int (pa_cons pe_int (pa_cons pe_int (pa_cons (pe_op op_sub pe_int pe_int) (pa_cons (pe_op op_sub pe_int pe_int) (pa_cons (pe_op op_sub pe_int pe_int) pa_nil))))))))) (pv 2) (fun _ _ => rfl))) pa_nil)))))), ?_⟩
    refine sq_set (ed_op (ed_var rfl (.int x)) (ed_op (ed_lst (ea_cons ed_int (ea_cons ed_int (ea_cons ed_int (ea_cons (ed_op ed_int ed_int rd_I0) (ea_cons (ed_op ed_int ed_int rd_I0) (ea_cons (ed_op ed_int ed_int rd_I0) (ea_cons ed_int (ea_cons ed_int ea_nil)))))))) (Nat.le_of_ble_eq_true rfl)) (ed_var rfl (.int t)) (rd_ixL (at_dxL z))) rd_I0) e (fun v G2 H2 X dv => ?_)
    obtain rfl := dp_int dv
    exact st_ret (ed_tup (ea_cons (ed_var rfl (.int _)) (ea_cons (ed_op (ed_var rfl (.int y)) (ed_op (ed_lst (ea_cons ed_int (ea_cons ed_int (ea_cons ed_int (ea_cons ed_int (ea_cons ed_int (ea_cons (ed_op ed_int ed_int rd_I0) (ea_cons (ed_op ed_int ed_int rd_I0) (ea_cons (ed_op ed_int ed_int rd_I0) ea_nil)))))))) (Nat.le_of_ble_eq_true rfl)) (ed_var rfl (.int t)) (rd_ixL (at_dyL z))) rd_I0) ea_nil)) (Nat.le_of_ble_eq_true rfl)) X.ok (q.mono X)
theorem ed_go {B : Bg} {G : Hp} {σ : L2.St} {tr : TA} {E : XK} {x y t : Int} (ha : EvA K B tr σ G [.int x, .int y, .int t]) (ht : okL t) : EvD K B (tCall (sp__law_go K) [] E tr) σ G (goL x y t) :=
  ed_call ha fun vs G2 H2 _ e dv Q q => ⟨B, G2, x, y, t, e, by rw [List.append_nil]; exact dpAll_intsV (bs := [x, y, t]) dv, ht, q⟩
/-! _law_name -/
/-- the law's own: the name of a lead -/
def nameN (x y t : Int) : List Int := if t < 4 then [x, y, t] else [x + dxL t, y + dyL t, t - 4]
def sp__law_name (K : Fg) : Sp := fun vs H Q E => ∃ (B : Bg) (G : Hp) (x y t : Int), Ok K B G H ∧ vs = [.int x, .int y, .int t] ∧ okL t ∧ Ret K B G H Q (encT (nameN x y t))
abbrev N__law_name : List Str := ["_law_here", "_law_low", "_law_pick"]
theorem sc__law_name : FnScope N__law_name ["_law_here", "_law_low", "_law_pick"] (defScope s__law_name) := ⟨rfl, rfl, rfl, by decide +kernel, rfl, by decide +kernel, by decide +kernel⟩
theorem ok__law_name (T : Txt K mg) (G__law_go : Good P w K mg base (L2N.CX P w) 1 "_law_go" ["_law_here", "_law_low", "_law_pick"] [] (sp__law_go K)) : Good P w K mg base (L2N.CX P w) 2 "_law_name" ["_law_here", "_law_low", "_law_pick"] [] (sp__law_name K) := by
  obtain ⟨fd, F⟩ := T.c.def_ 29 (d := d__law_name) rfl
  have b : Binds K fd ["_law_here", "_law_low", "_law_pick"] [] := F.bindsN fun _ _ _ _ _ _ us hl => match us, hl with | [_, _, _], _ => rfl
  refine ⟨⟨fd, [], F.ok sc__law_name (fun vs H Q E h => ?_) (fun cdv A outer s H vs Q E hr h => ?_), .nil, b⟩, T.g__law_name, F.kp⟩
  · obtain ⟨B, G, x, y, t, e, rfl, _⟩ := h
    all_goals rfl
  · obtain ⟨B, G, x, y, t, e, rfl, z, q⟩ := h
    all_goals refine ⟨_, PSs.nox (pss_cons (ps_if (pt_cmpR op_lt (pv 2) pe_int (nomark _)) (pss_one (ps_ret (pe_tup (pa_cons (pv 0) (pa_cons (pv 1) (pa_cons (pv 2) pa_nil)))))) pss_nil) (pss_one (ps_ret (pe_op (r := rCatT K) op_catT (pe_own G__law_go (hr.mono (by decide)) (by rfl) passLN (pa_cons (pv 0) (pa_cons (pv 1) (pa_cons (pv 2) pa_nil)))) (pe_tup (pa_cons (pe_op op_sub (pv 2) pe_int) pa_nil)))))), ?_⟩
    unfold nameN at q
    refine sq_ifN (b := decide (t < 4)) (eb_test (ed_op (ed_var rfl (.int t)) ed_int rd_B0)) e (fun c G2 H2 X => ?_) (fun c G2 H2 X => ?_)
    · rw [if_pos (of_decide_eq_true c)] at q
      exact st_ret (ed_tup (ea_cons (ed_var rfl (.int x)) (ea_cons (ed_var rfl (.int y)) (ea_cons (ed_var rfl (.int t)) ea_nil))) (Nat.le_of_ble_eq_true rfl)) X.ok (q.mono X)
    · rw [if_neg (of_decide_eq_false c)] at q
      exact st_ret (ed_op (ed_go (ea_cons (ed_var rfl (.int x)) (ea_cons (ed_var rfl (.int y)) (ea_cons (ed_var rfl (.int t)) ea_nil))) z) (ed_tup (ea_cons (ed_op (ed_var rfl (.int t)) ed_int rd_I0) ea_nil) (Nat.le_of_ble_eq_true rfl)) (rd_catT (by intro z; cases z) (by intro z; cases z) (Nat.le_of_ble_eq_true rfl))) X.ok (q.mono X)
theorem ed_lname {B : Bg} {G : Hp} {σ : L2.St} {tr : TA} {E : XK} {x y t : Int} (ha : EvA K B tr σ G [.int x, .int y, .int t]) (z : okL t) : EvD K B (tCall (sp__law_name K) [] E tr) σ G (encT (nameN x y t)) :=
  ed_call ha fun vs G2 H2 _ e dv Q q => ⟨B, G2, x, y, t, e, by rw [List.append_nil]; exact dpAll_intsV (bs := [x, y, t]) dv, z, q⟩
/-! _law_tips -/
def tipsL (x y t : Int) : PyData := .tuple [.tuple [.int x, .int y], goL x y t]
def sp__law_tips (K : Fg) : Sp := fun vs H Q E => ∃ (B : Bg) (G : Hp) (v : V) (x y t : Int), Ok K B G H ∧ vs = [v] ∧ Dp K G v (.tuple [.int x, .int y, .int t]) ∧ okL t ∧ Ret K B G H Q (tipsL x y t)
abbrev N__law_tips : List Str := ["_law_name_here"]
theorem sc__law_tips : FnScope N__law_tips ["_law_name_here"] (defScope s__law_tips) := ⟨rfl, rfl, rfl, by decide +kernel, rfl, by decide +kernel, by decide +kernel⟩
theorem ok__law_tips (T : Txt K mg) (G__law_go : Good P w K mg base (L2N.CX P w) 1 "_law_go" ["_law_here", "_law_low", "_law_pick"] [] (sp__law_go K)) : Good P w K mg base (L2N.CX P w) 2 "_law_tips" ["_law_name_here"] [] (sp__law_tips K) := by
  obtain ⟨fd, F⟩ := T.c.def_ 30 (d := d__law_tips) rfl
  have b : Binds K fd ["_law_name_here"] [] := F.bindsN fun _ _ _ _ _ _ us hl => match us, hl with | [_], _ => rfl
  refine ⟨⟨fd, [], F.ok sc__law_tips (fun vs H Q E h => ?_) (fun cdv A outer s H vs Q E hr h => ?_), .nil, b⟩, T.g__law_tips, F.kp⟩
  · obtain ⟨B, G, v, x, y, t, e, rfl, _⟩ := h
    all_goals rfl
  · obtain ⟨B, G, v, x, y, t, e, rfl, dv, z, q⟩ := h
    all_goals refine ⟨_, PSs.nox (pss_one (ps_ret (pe_tup (pa_cons (pe_slice (r := rSlT K) sl_tup (pv 0) po_none (po_some pe_int)) (pa_cons (pe_own G__law_go (hr.mono (by decide)) (by rfl) passLN (pa_cons (pe_ix (r := rIxT K) ix_tup (pv 0) pe_int (fun _ _ => rfl)) (pa_cons (pe_ix (r := rIxT K) ix_tup (pv 0) pe_int (fun _ _ => rfl)) (pa_cons (pe_ix (r := rIxT K) ix_tup (pv 0) pe_int (fun _ _ => rfl)) pa_nil)))) pa_nil))))), ?_⟩
    exact st_ret (ed_tup (ea_cons (ed_slT (ed_var rfl dv) eo_none (eo_some ed_int) (fun h => absurd h.2 (by show ¬ HT.sIx 3 3 (some 2) = 3; decide))) (ea_cons (ed_go (ea_cons (ed_op (ed_var rfl dv) ed_int (rd_ixT rfl)) (ea_cons (ed_op (ed_var rfl dv) ed_int (rd_ixT rfl)) (ea_cons (ed_op (ed_var rfl dv) ed_int (rd_ixT rfl)) ea_nil))) z) ea_nil)) (Nat.le_of_ble_eq_true rfl)) e q
theorem ed_tips {B : Bg} {G : Hp} {σ : L2.St} {tr : TA} {E : XK} {x y t : Int} (ha : EvA K B tr σ G [.tuple [.int x, .int y, .int t]]) (ht : okL t) : EvD K B (tCall (sp__law_tips K) [] E tr) σ G (tipsL x y t) :=
  ed_call ha fun vs G2 H2 _ e dv Q q => by
    cases dv with
    | cons h a =>
      cases a
      exact ⟨B, G2, _, x, y, t, e, rfl, h, ht, q⟩
/-! _law_on -/
def onL (w h x y : Int) : Bool := (decide (0 ≤ x) && decide (x ≤ w)) && (decide (0 ≤ y) && decide (y ≤ h))
def sp__law_on (K : Fg) : Sp := fun vs H Q E => ∃ (B : Bg) (G : Hp) (v u : V) (w h : Int) (L g : PyData) (x y : Int), Ok K B G H ∧ vs = [v, u] ∧ Dp K G v (.tuple [.int w, .int h, L, g]) ∧ Dp K G u (.tuple [.int x, .int y]) ∧ Ret K B G H Q (.bool (onL w h x y))
abbrev N__law_on : List Str := ["_law_plan_here", "_law_point"]
theorem sc__law_on : FnScope N__law_on ["_law_plan_here", "_law_point"] (defScope s__law_on) := ⟨rfl, rfl, rfl, by decide +kernel, rfl, by decide +kernel, by decide +kernel⟩
theorem ok__law_on (T : Txt K mg)  : Good P w K mg base (L2N.CX P w) 1 "_law_on" ["_law_plan_here", "_law_point"] [] (sp__law_on K) := by
  obtain ⟨fd, F⟩ := T.c.def_ 31 (d := d__law_on) rfl
  have b : Binds K fd ["_law_plan_here", "_law_point"] [] := F.bindsN fun _ _ _ _ _ _ us hl => match us, hl with | [_, _], _ => rfl
  refine ⟨⟨fd, [], F.ok sc__law_on (fun vs H Q E h => ?_) (fun cdv A outer s H vs Q E hr h => ?_), .nil, b⟩, T.g__law_on, F.kp⟩
  · obtain ⟨B, G, v, u, w, h, L, g, x, y, e, rfl, _⟩ := h
    all_goals rfl
  · obtain ⟨B, G, v, u, wd, ht, L, g, x, y, e, rfl, dv, du, q⟩ := h
    all_goals refine ⟨_, PSs.nox (pss_one (ps_ret (pe_and (pe_chain op_le op_le pe_int (pe_ix (r := rIxT K) ix_tup (pv 1) pe_int (fun _ _ => rfl)) (pe_ix (r := rIxT K) ix_tup (pv 0) pe_int (fun _ _ => rfl))) (pe_one (pe_chain op_le op_le pe_int (pe_ix (r := rIxT K) ix_tup (pv 1) pe_int (fun _ _ => rfl)) (pe_ix (r := rIxT K) ix_tup (pv 0) pe_int (fun _ _ => rfl))))))), ?_⟩
    exact st_ret (ed_andV (ed_chain ed_int (ed_op (ed_var rfl du) ed_int (rd_ixT rfl)) (fun _ => ed_op (ed_var rfl dv) ed_int (rd_ixT rfl)) rd_B0 (fun _ => rd_B0)) (fun _ => ed_chain ed_int (ed_op (ed_var rfl du) ed_int (rd_ixT rfl)) (fun _ => ed_op (ed_var rfl dv) ed_int (rd_ixT rfl)) rd_B0 (fun _ => rd_B0))) e q
theorem ed_on {B : Bg} {G : Hp} {σ : L2.St} {tr : TA} {E : XK} {wd ht x y : Int} {L g : PyData} (ha : EvA K B tr σ G [.tuple [.int wd, .int ht, L, g], .tuple [.int x, .int y]]) : EvD K B (tCall (sp__law_on K) [] E tr) σ G (.bool (onL wd ht x y)) :=
  ed_call ha fun vs G2 H2 _ e dv Q q => by
    cases dv with
    | cons h a =>
      cases a with
      | cons h2 a2 =>
        cases a2
        exact ⟨B, G2, _, _, wd, ht, L, g, x, y, e, rfl, h, h2, q⟩
/-! _law_rim -/
def rimL (w h x y t : Int) : Bool := if t = 0 then decide (y = 0) || decide (y = h) else decide (t = 2) && (decide (x = 0) || decide (x = w))
theorem di {a b : Int} : decide (vOf (.int a) = vOf (.int b)) = decide (a = b) := decide_eq_decide.mpr ⟨fun h => V.int.inj h, fun h => congrArg V.int h⟩
def sp__law_rim (K : Fg) : Sp := fun vs H Q E => ∃ (B : Bg) (G : Hp) (v u : V) (w h : Int) (L g : PyData) (x y t : Int), Ok K B G H ∧ vs = [v, u] ∧ Dp K G v (.tuple [.int w, .int h, L, g]) ∧ Dp K G u (encT [x, y, t]) ∧ okL t ∧ Ret K B G H Q (.bool (rimL w h x y t))
abbrev N__law_rim : List Str := ["_law_plan_here", "_law_name_here", "_law_one", "_law_other"]
theorem sc__law_rim : FnScope N__law_rim ["_law_plan_here", "_law_name_here"] (defScope s__law_rim) := ⟨rfl, rfl, rfl, by decide +kernel, rfl, by decide +kernel, by decide +kernel⟩
theorem ok__law_rim (T : Txt K mg) (G__law_tips : Good P w K mg base (L2N.CX P w) 2 "_law_tips" ["_law_name_here"] [] (sp__law_tips K)) : Good P w K mg base (L2N.CX P w) 3 "_law_rim" ["_law_plan_here", "_law_name_here"] [] (sp__law_rim K) := by
  obtain ⟨fd, F⟩ := T.c.def_ 32 (d := d__law_rim) rfl
  have b : Binds K fd ["_law_plan_here", "_law_name_here"] [] := F.bindsN fun _ _ _ _ _ _ us hl => match us, hl with | [_, _], _ => rfl
  refine ⟨⟨fd, [], F.ok sc__law_rim (fun vs H Q E h => ?_) (fun cdv A outer s H vs Q E hr h => ?_), .nil, b⟩, T.g__law_rim, F.kp⟩
  · obtain ⟨B, G, v, u, w, h, L, g, x, y, t, e, rfl, _⟩ := h
    all_goals rfl
  · obtain ⟨B, G, v, u, wd, ht, L, g, x, y, t, e, rfl, dv, du, z, q⟩ := h
    all_goals refine ⟨_, PSs.nox (pss_cons (ps_asg (pe_own G__law_tips (hr.mono (by decide)) (by rfl) passLN (pa_cons (pv 1) pa_nil)) (pg_tup rfl (pgs_cons (by exact (pg_name (i := 2) sc__law_rim.nd rfl (Or.inl rfl))) (pgs_cons (by exact (pg_name (i := 3) sc__law_rim.nd rfl (Or.inl rfl))) pgs_nil)))) (pss_cons (ps_if (pt_cmpR op_eq (pe_ix (r := rIxT K) ix_tup (pv 1) pe_int (fun _ _ => rfl)) pe_int (nomark _)) (pss_one (ps_ret (pe_or (pe_cmpR op_eq (pe_ix (r := rIxT K) ix_tup (pv 2) pe_int (fun _ _ => rfl)) pe_int (nomark _)) (pe_one (pe_cmpR op_eq (pe_ix (r := rIxT K) ix_tup (pv 2) pe_int (fun _ _ => rfl)) (pe_ix (r := rIxT K) ix_tup (pv 0) pe_int (fun _ _ => rfl)) (nomark _)))))) pss_nil) (pss_one (ps_ret (pe_and (pe_cmpR op_eq (pe_ix (r := rIxT K) ix_tup (pv 1) pe_int (fun _ _ => rfl)) pe_int (nomark _)) (pe_one (pe_or (pe_cmpR op_eq (pe_ix (r := rIxT K) ix_tup (pv 2) pe_int (fun _ _ => rfl)) pe_int (nomark _)) (pe_one (pe_cmpR op_eq (pe_ix (r := rIxT K) ix_tup (pv 2) pe_int (fun _ _ => rfl)) (pe_ix (r := rIxT K) ix_tup (pv 0) pe_int (fun _ _ => rfl)) (nomark _)))))))))), ?_⟩
    refine sq_unpack (ed_tips (ea_cons (ed_var rfl du) ea_nil) z) e rfl (fun vs G2 H2 X dvs => ?_)
    cases dvs with
    | cons h1 a1 =>
      cases a1 with
      | cons h2 a2 =>
        cases a2
        refine ⟨_, _, rfl, _, _, rfl, rfl, ?_⟩
        replace dv := dp_mono X.gg dv
        replace du := dp_mono X.gg du
        unfold rimL at q
        refine sq_ifN (b := decide (t = 0)) (eb_is (eb_test (ed_op (ed_op (ed_var rfl du) ed_int (rd_ixT rfl)) ed_int (rd_eq rfl))) di) X.ok (fun c G3 H3 X3 => ?_) (fun c G3 H3 X3 => ?_)
        · rw [if_pos (of_decide_eq_true c)] at q
          exact st_ret (ed_is (ed_orV (ed_op (ed_op (ed_var rfl (dp_mono X3.gg h1)) ed_int (rd_ixT rfl)) ed_int (rd_eq rfl)) (fun _ => ed_op (ed_op (ed_var rfl (dp_mono X3.gg h1)) ed_int (rd_ixT rfl)) (ed_op (ed_var rfl (dp_mono X3.gg dv)) ed_int (rd_ixT rfl)) (rd_eq rfl))) (by rw [di, di])) X3.ok ((q.mono X).mono X3)
        · rw [if_neg (of_decide_eq_false c)] at q
          exact st_ret (ed_is (ed_andV (ed_op (ed_op (ed_var rfl (dp_mono X3.gg du)) ed_int (rd_ixT rfl)) ed_int (rd_eq rfl)) (fun _ => ed_orV (ed_op (ed_op (ed_var rfl (dp_mono X3.gg h1)) ed_int (rd_ixT rfl)) ed_int (rd_eq rfl)) (fun _ => ed_op (ed_op (ed_var rfl (dp_mono X3.gg h1)) ed_int (rd_ixT rfl)) (ed_op (ed_var rfl (dp_mono X3.gg dv)) ed_int (rd_ixT rfl)) (rd_eq rfl)))) (by rw [di, di, di])) X3.ok ((q.mono X).mono X3)
theorem ed_rim {B : Bg} {G : Hp} {σ : L2.St} {tr : TA} {E : XK} {wd ht x y t : Int} {L g : PyData} (ha : EvA K B tr σ G [.tuple [.int wd, .int ht, L, g], encT [x, y, t]]) (z : okL t) : EvD K B (tCall (sp__law_rim K) [] E tr) σ G (.bool (rimL wd ht x y t)) :=
  ed_call ha fun vs G2 H2 _ e dv Q q => by
    cases dv with
    | cons h a =>
      cases a with
      | cons h2 a2 =>
        cases a2
        exact ⟨B, G2, _, _, wd, ht, L, g, x, y, t, e, rfl, h, h2, z, q⟩
/-! _law_all -/
def rowL (w h x y : Int) : List (List Int) := (List.range 4).filterMap fun t : Nat => if onL w h (x + dxL t) (y + dyL t) then some [x, y, (t : Int)] else none
def colL (w h x : Int) (n : Nat) : List (List Int) := (List.range n).flatMap fun y : Nat => rowL w h x (y : Int)
def allN (w h : Int) (m : Nat) : List (List Int) := (List.range m).flatMap fun x : Nat => colL w h (x : Int) (h.toNat + 1)
def allL (w h : Int) : List (List Int) := allN w h (w.toNat + 1)
theorem rowL_len (w h x y : Int) : (rowL w h x y).length ≤ 4 := List.length_filterMap_le _ _
theorem colL_succ (w h x : Int) (n : Nat) : colL w h x (n + 1) = colL w h x n ++ rowL w h x n := by
  unfold colL
  rw [List.range_succ, List.flatMap_append]
  simp
theorem allN_succ (w h : Int) (n : Nat) : allN w h (n + 1) = allN w h n ++ colL w h n (h.toNat + 1) := by
  unfold allN
  rw [List.range_succ, List.flatMap_append]
  simp
theorem colL_len (w h x : Int) : ∀ n, (colL w h x n).length ≤ 4 * n
  | 0 => Nat.le_refl _
  | n + 1 => by
    rw [colL_succ, List.length_append]
    have := colL_len w h x n
    have := rowL_len w h x n
    omega
theorem allN_len (w h : Int) (hh : h ≤ 9) : ∀ n, (allN w h n).length ≤ 40 * n
  | 0 => Nat.le_refl _
  | n + 1 => by
    rw [allN_succ, List.length_append]
    have := allN_len w h hh n
    have := colL_len w h n (h.toNat + 1)
    omega
theorem row_enc (w h x y : Int) : (List.range 4).filterMap (fun t : Nat => (fun t : Int => if onL w h (x + dxL t) (y + dyL t) then some (encT [x, y, t]) else none) (t : Int)) = (rowL w h x y).map encT := by
  unfold rowL
  rw [List.map_filterMap]
  congr 1
  funext t
  show (if onL w h (x + dxL t) (y + dyL t) then some (encT [x, y, t]) else none) = Option.map encT (if onL w h (x + dxL t) (y + dyL t) then some [x, y, (t : Int)] else none)
  split <;> rfl
def planD (w h : Int) (L g : PyData) : PyData := .tuple [.int w, .int h, L, g]
def sp__law_all (K : Fg) : Sp := fun vs H Q E => ∃ (B : Bg) (G : Hp) (v : V) (w h : Int) (L g : PyData), Ok K B G H ∧ vs = [v] ∧ Dp K G v (planD w h L g) ∧ (1 ≤ w ∧ w ≤ 9) ∧ (1 ≤ h ∧ h ≤ 9) ∧ Ret K B G H Q (.list ((allL w h).map encT))
abbrev N__law_all : List Str := ["_law_plan_here", "_law_found", "_law_x", "_law_y", "_law_turn"]
theorem sc__law_all : FnScope N__law_all ["_law_plan_here"] (defScope s__law_all) := ⟨rfl, rfl, rfl, by decide +kernel, rfl, by decide +kernel, by decide +kernel⟩
theorem ok__law_all (T : Txt K mg) (G__law_on : Good P w K mg base (L2N.CX P w) 1 "_law_on" ["_law_plan_here", "_law_point"] [] (sp__law_on K)) (G__law_go : Good P w K mg base (L2N.CX P w) 1 "_law_go" ["_law_here", "_law_low", "_law_pick"] [] (sp__law_go K)) : Good P w K mg base (L2N.CX P w) 2 "_law_all" ["_law_plan_here"] [] (sp__law_all K) := by
  obtain ⟨fd, F⟩ := T.c.def_ 33 (d := d__law_all) rfl
  have b : Binds K fd ["_law_plan_here"] [] := F.bindsN fun _ _ _ _ _ _ us hl => match us, hl with | [_], _ => rfl
  refine ⟨⟨fd, [], F.ok sc__law_all (fun vs H Q E h => ?_) (fun cdv A outer s H vs Q E hr h => ?_), .nil, b⟩, T.g__law_all, F.kp⟩
  · obtain ⟨B, G, v, w, h, L, g, e, rfl, _⟩ := h
    all_goals rfl
  · obtain ⟨B, G, v, wd, ht, L, g, e, rfl, dv, hw, hh, q⟩ := h
    all_goals refine ⟨_, PSs.nox (pss_cons (ps_set (i := 1) sc__law_all.nd rfl (Or.inl rfl) (pe_lst pa_nil)) (pss_cons (ps_for PassesOwn.never rfl (pi_range1 (by rfl) T.f_range (pa_cons (pe_op op_add (pe_ix (r := rIxT K) ix_tup (pv 0) pe_int (fun _ _ => rfl)) pe_int) pa_nil)) (pg_name (i := 2) sc__law_all.nd rfl (Or.inr rfl)) (pss_one (ps_for PassesOwn.never rfl (pi_range1 (by rfl) T.f_range (pa_cons (pe_op op_add (pe_ix (r := rIxT K) ix_tup (pv 0) pe_int (fun _ _ => rfl)) pe_int) pa_nil)) (pg_name (i := 3) sc__law_all.nd rfl (Or.inr rfl)) (pss_one (ps_set (i := 1) sc__law_all.nd rfl (Or.inl rfl) (pe_op op_cat (pv 1) (pe_lc (own := [("_law_turn", 4)]) (g := gName 4) rfl sc__law_all.nd (pi_range1 (by rfl) T.f_range (pa_cons pe_int pa_nil)) (blkOk_by (own := [("_law_turn", 4)]) (N := N__law_all) (sc := defScope s__law_all) (by decide +kernel)) (fun _ _ _ _ _ => (pg_name (i := 4) sc__law_all.nd rfl (Or.inl rfl))) (fun _ _ _ _ _ => (pts_one (pt_val (pe_own G__law_on (hr.mono (by decide)) (by rfl) passLN (pa_cons (pv 0) (pa_cons (pe_own G__law_go (hr.mono (by decide)) (by rfl) passLN (pa_cons (pv 2) (pa_cons (pv 3) (pa_cons (pv 4) pa_nil)))) pa_nil)))))) (fun _ _ _ _ _ => (pe_tup (pa_cons (pv 2) (pa_cons (pv 3) (pa_cons (pv 4) pa_nil)))))))))))) (pss_one (ps_ret (pv 1))))), ?_⟩
    refine sq_setZ (ef_lst ea_nil (Nat.le_of_ble_eq_true rfl)) e (fun p xs G2 H2 X hp hx => ?_)
    have ew : ((wd.toNat + 1 : Nat) : Int) = wd + 1 := by omega
    have eh : ((ht.toNat + 1 : Nat) : Int) = ht + 1 := by omega
    refine sq_forR (n := wd.toNat + 1) (Pv := fun j σ' G' H' => ∃ p xs y2 y3 y4, σ' = [some v, some (.ref p), y2, y3, y4] ∧ G' p = some (.lst xs) ∧ DpAll K G' xs ((allN wd ht j).map encT)) (ea_cons (ed_is (ed_op (ed_op (ed_var rfl (dp_mono X.gg dv)) ed_int (rd_ixT (d := .int wd) rfl)) ed_int rd_I0) (by rw [ew])) ea_nil) (by omega) X.ok (fun G3 H3 X3 => ⟨p, xs, none, none, none, rfl, X3.gg _ _ hp, dpAll_mono X3.gg hx⟩) (fun G3 H3 X3 j σ4 G4 H4 hj X4 P4 => ?_) (fun σ4 G4 H4 X4 P4 => ?_)
    · obtain ⟨p, xs, y2, y3, y4, rfl, hp, hx⟩ := P4
      have dv4 := dp_mono (X.gg.trans (X3.gg.trans X4.gg)) dv
      have al := allN_len wd ht hh.2 j
      refine st_forR (n := ht.toNat + 1) (Pv := fun k σ' G' H' => ∃ p xs y3 y4, σ' = [some v, some (.ref p), some (.int (j : Int)), y3, y4] ∧ G' p = some (.lst xs) ∧ DpAll K G' xs ((allN wd ht j ++ colL wd ht j k).map encT)) (ea_cons (ed_is (ed_op (ed_op (ed_var rfl dv4) ed_int (rd_ixT (d := .int ht) rfl)) ed_int rd_I0) (by rw [eh])) ea_nil) (by omega) X4.ok (fun G5 H5 X5 => ⟨p, xs, y3, y4, rfl, X5.gg _ _ hp, ?_⟩) (fun G5 H5 X5 k σ6 G6 H6 hk X6 P6 => ?_) (fun σ6 G6 H6 X6 P6 => ?_)
      · rw [show colL wd ht j 0 = [] from rfl, List.append_nil]
        exact dpAll_mono X5.gg hx
      · obtain ⟨p, xs, y3, y4, rfl, hp, hx⟩ := P6
        have dv6 := dp_mono (X5.gg.trans X6.gg) dv4
        have cl := colL_len wd ht j k
        have rl := rowL_len wd ht j k
        refine st_setZ (ef_catV rfl hp hx (ed_isF (ef_lcR (n := 4) (f := fun t : Int => if onL wd ht ((j : Int) + dxL t) ((k : Int) + dyL t) then some (encT [(j : Int), (k : Int), t]) else none) (ea_cons ed_int ea_nil) (by decide) (fun t ht' => ?_) (fun t d ht' hd => ?_)) (row_enc wd ht j k)) ?_) X6.ok (fun p2 xs2 G7 H7 X7 hp7 hx7 => ⟨G7, X6.trans X7, p2, xs2, _, _, rfl, hp7, ?_⟩)
        · have zt : okL (t : Int) := ⟨by omega, by omega⟩
          refine eb_is (eb_B (ed_on (L := L) (g := g) (ea_cons (ed_var rfl dv6) (ea_cons (ed_go (ea_cons (ed_var rfl (.int _)) (ea_cons (ed_var rfl (.int _)) (ea_cons (ed_var rfl (.int _)) ea_nil))) zt) ea_nil)))) ?_
          cases onL wd ht ((j : Int) + dxL t) ((k : Int) + dyL t) <;> rfl
        · have e0 : d = encT [(j : Int), (k : Int), (t : Int)] := by
            revert hd
            cases onL wd ht ((j : Int) + dxL t) ((k : Int) + dyL t) with
            | true => exact fun h => (Option.some.inj h).symm
            | false => exact fun h => by cases h
          subst e0
          exact ed_tup (ea_cons (ed_var rfl (.int _)) (ea_cons (ed_var rfl (.int _)) (ea_cons (ed_var rfl (.int _)) ea_nil))) (Nat.le_of_ble_eq_true rfl)
        · rw [List.length_map, List.length_map, List.length_append]
          omega
        · rw [colL_succ, ← List.append_assoc, List.map_append]
          exact hx7
      · obtain ⟨p, xs, y3, y4, rfl, hp, hx⟩ := P6
        refine ⟨G6, X4.trans X6, p, xs, _, _, _, rfl, hp, ?_⟩
        rw [allN_succ]
        exact hx
    · obtain ⟨p, xs, y2, y3, y4, rfl, hp, hx⟩ := P4
      exact ⟨.ref p, rfl, q _ G4 H4 (X.trans X4) (.lst (SqL.of hp) hx)⟩
theorem ed_all_ {B : Bg} {G : Hp} {σ : L2.St} {tr : TA} {E : XK} {wd ht : Int} {L g : PyData} (ha : EvA K B tr σ G [planD wd ht L g]) (hw : 1 ≤ wd ∧ wd ≤ 9) (hh : 1 ≤ ht ∧ ht ≤ 9) : EvD K B (tCall (sp__law_all K) [] E tr) σ G (.list ((allL wd ht).map encT)) :=
  ed_call ha fun vs G2 H2 _ e dv Q q => by
    cases dv with
    | cons h a =>
      cases a
      exact ⟨B, G2, _, wd, ht, L, g, e, rfl, h, hw, hh, q⟩
/-! _law_within -/
def rimN (w h : Int) : List Int → Bool
  | [x, y, t] => rimL w h x y t
  | _ => false
def rimD (w h : Int) : PyData → Bool
  | .tuple [.int x, .int y, .int t] => rimL w h x y t
  | _ => false
def withinL (w h : Int) : List (List Int) := (allL w h).filter fun l => !rimN w h l
theorem rowL_mem {w h x y : Int} {l : List Int} (hl : l ∈ rowL w h x y) : ∃ t : Int, l = [x, y, t] ∧ 0 ≤ t ∧ t ≤ 3 ∧ onL w h (x + dxL t) (y + dyL t) = true := by
  unfold rowL at hl
  obtain ⟨t, ht, e⟩ := List.mem_filterMap.mp hl
  have h4 := List.mem_range.mp ht
  by_cases c : onL w h (x + dxL t) (y + dyL t) = true
  · rw [if_pos c] at e
    exact ⟨(t : Int), (Option.some.inj e).symm, by omega, by omega, c⟩
  · rw [if_neg c] at e
    cases e
theorem allL_mem {w h : Int} {l : List Int} (hw : 0 ≤ w) (hh : 0 ≤ h) (hl : l ∈ allL w h) : ∃ x y t : Int, l = [x, y, t] ∧ (0 ≤ x ∧ x ≤ w) ∧ (0 ≤ y ∧ y ≤ h) ∧ (0 ≤ t ∧ t ≤ 3) ∧ onL w h (x + dxL t) (y + dyL t) = true := by
  unfold allL allN colL at hl
  obtain ⟨x, hx, hl⟩ := List.mem_flatMap.mp hl
  obtain ⟨y, hy, hl⟩ := List.mem_flatMap.mp hl
  obtain ⟨t, e, h1, h2, h3⟩ := rowL_mem hl
  have := List.mem_range.mp hx
  have := List.mem_range.mp hy
  exact ⟨x, y, t, e, ⟨by omega, by omega⟩, ⟨by omega, by omega⟩, ⟨h1, h2⟩, h3⟩
theorem filter_enc {p : List Int → Bool} {f : PyData → Option PyData} : ∀ {ls : List (List Int)}, (∀ l ∈ ls, f (encT l) = if p l then some (encT l) else none) → (ls.map encT).filterMap f = (ls.filter p).map encT
  | [], _ => rfl
  | l :: ls, h => by
    have ih := filter_enc (ls := ls) fun k hk => h k (List.mem_cons_of_mem _ hk)
    have h0 := h l List.mem_cons_self
    rw [List.map_cons, List.filterMap_cons, h0, ih, List.filter_cons]
    by_cases c : p l = true
    · simp only [c, if_true, List.map_cons]
    · simp only [c, if_false, Bool.false_eq_true]
theorem allL_len {w h : Int} (hw : 1 ≤ w ∧ w ≤ 9) (hh : 1 ≤ h ∧ h ≤ 9) : (allL w h).length ≤ 400 := by
  have := allN_len w h hh.2 (w.toNat + 1)
  unfold allL
  omega
def sp__law_within (K : Fg) : Sp := fun vs H Q E => ∃ (B : Bg) (G : Hp) (v : V) (w h : Int) (L g : PyData), Ok K B G H ∧ vs = [v] ∧ Dp K G v (planD w h L g) ∧ (1 ≤ w ∧ w ≤ 9) ∧ (1 ≤ h ∧ h ≤ 9) ∧ RetF K B G H Q ((withinL w h).map encT)
abbrev N__law_within : List Str := ["_law_plan_here", "_law_name_here"]
theorem sc__law_within : FnScope N__law_within ["_law_plan_here"] (defScope s__law_within) := ⟨rfl, rfl, rfl, by decide +kernel, rfl, by decide +kernel, by decide +kernel⟩
theorem ok__law_within (T : Txt K mg) (G__law_all : Good P w K mg base (L2N.CX P w) 2 "_law_all" ["_law_plan_here"] [] (sp__law_all K)) (G__law_rim : Good P w K mg base (L2N.CX P w) 3 "_law_rim" ["_law_plan_here", "_law_name_here"] [] (sp__law_rim K)) : Good P w K mg base (L2N.CX P w) 4 "_law_within" ["_law_plan_here"] [] (sp__law_within K) := by
  obtain ⟨fd, F⟩ := T.c.def_ 34 (d := d__law_within) rfl
  have b : Binds K fd ["_law_plan_here"] [] := F.bindsN fun _ _ _ _ _ _ us hl => match us, hl with | [_], _ => rfl
  refine ⟨⟨fd, [], F.ok sc__law_within (fun vs H Q E h => ?_) (fun cdv A outer s H vs Q E hr h => ?_), .nil, b⟩, T.g__law_within, F.kp⟩
  · obtain ⟨B, G, v, w, h, L, g, e, rfl, _⟩ := h
    all_goals rfl
  · obtain ⟨B, G, v, wd, ht, L, g, e, rfl, dv, hw, hh, q⟩ := h
    all_goals refine ⟨_, PSs.nox (pss_one (ps_ret (pe_lc (own := [("_law_name_here", 1)]) (g := gName 1) rfl sc__law_within.nd (pi_list (pe_own G__law_all (hr.mono (by decide)) (by rfl) passLN (pa_cons (pv 0) pa_nil))) (blkOk_by (own := [("_law_name_here", 1)]) (N := N__law_within) (sc := defScope s__law_within) (by decide +kernel)) (fun _ _ _ _ _ => (pg_name (i := 1) sc__law_within.nd rfl (Or.inl rfl))) (fun _ _ _ _ _ => (pts_one (pt_not (pt_val (pe_own G__law_rim (hr.mono (by decide)) (by rfl) passLN (pa_cons (pv 0) (pa_cons (pv 1) pa_nil))))))) (fun _ _ _ _ _ => (pv 1))))), ?_⟩
    have al := allL_len hw hh
    refine st_retF (ed_isF (ef_lcL (f := fun d => if rimD wd ht d then none else some d) (ed_all_ (ea_cons (ed_var rfl dv) ea_nil) hw hh) (by rw [List.length_map]; omega) (fun d u G' md eg cg du => ?_) (fun d u y G' md eg cg du ey => ?_)) (filter_enc (p := fun l => !rimN wd ht l) fun l hl => ?_)) e q
    · obtain ⟨l, hl, rfl⟩ := List.mem_map.mp md
      obtain ⟨x, y, t, rfl, hx, hy, htt, _⟩ := allL_mem (by omega) (by omega) hl
      refine eb_is (eb_not (eb_B (ed_rim (L := L) (g := g) (ea_cons (ed_var rfl (dp_mono eg dv)) (ea_cons (ed_var rfl du) ea_nil)) ⟨by omega, by omega⟩))) ?_
      show (!rimL wd ht x y t) = (if rimL wd ht x y t then none else some (encT [x, y, t])).isSome
      cases rimL wd ht x y t <;> rfl
    · have e0 : y = d := by
        revert ey
        cases rimD wd ht d with
        | true => exact fun h => by cases h
        | false => exact fun h => (Option.some.inj h).symm
      subst e0
      exact ed_var rfl du
    · obtain ⟨x, y, t, rfl, _⟩ := allL_mem (by omega) (by omega) hl
      show (if rimL wd ht x y t then none else some (encT [x, y, t])) = if (!rimL wd ht x y t) = true then some (encT [x, y, t]) else none
      cases rimL wd ht x y t <;> rfl
theorem ef_within {B : Bg} {G : Hp} {σ : L2.St} {tr : TA} {E : XK} {wd ht : Int} {L g : PyData} (ha : EvA K B tr σ G [planD wd ht L g]) (hw : 1 ≤ wd ∧ wd ≤ 9) (hh : 1 ≤ ht ∧ ht ≤ 9) : EvF K B (tCall (sp__law_within K) [] E tr) σ G ((withinL wd ht).map encT) :=
  ef_call ha fun vs G2 H2 _ e dv Q q => by
    cases dv with
    | cons h a =>
      cases a
      exact ⟨B, G2, _, wd, ht, L, g, e, rfl, h, hw, hh, q⟩
theorem ed_within {B : Bg} {G : Hp} {σ : L2.St} {tr : TA} {E : XK} {wd ht : Int} {L g : PyData} (ha : EvA K B tr σ G [planD wd ht L g]) (hw : 1 ≤ wd ∧ wd ≤ 9) (hh : 1 ≤ ht ∧ ht ≤ 9) : EvD K B (tCall (sp__law_within K) [] E tr) σ G (.list ((withinL wd ht).map encT)) := EvF.ed (ef_within ha hw hh)
/-! _law_over -/
def overL (x y t : Int) : PyData := if t % 2 = 0 then .none else encT [x + 2 - t, y, 4 - t]
def sp__law_over (K : Fg) : Sp := fun vs H Q E => ∃ (B : Bg) (G : Hp) (v : V) (x y t : Int), Ok K B G H ∧ vs = [v] ∧ Dp K G v (encT [x, y, t]) ∧ Ret K B G H Q (overL x y t)
abbrev N__law_over : List Str := ["_law_name_here"]
theorem sc__law_over : FnScope N__law_over ["_law_name_here"] (defScope s__law_over) := ⟨rfl, rfl, rfl, by decide +kernel, rfl, by decide +kernel, by decide +kernel⟩
theorem ok__law_over (T : Txt K mg)  : Good P w K mg base (L2N.CX P w) 1 "_law_over" ["_law_name_here"] [] (sp__law_over K) := by
  obtain ⟨fd, F⟩ := T.c.def_ 35 (d := d__law_over) rfl
  have b : Binds K fd ["_law_name_here"] [] := F.bindsN fun _ _ _ _ _ _ us hl => match us, hl with | [_], _ => rfl
  refine ⟨⟨fd, [], F.ok sc__law_over (fun vs H Q E h => ?_) (fun cdv A outer s H vs Q E hr h => ?_), .nil, b⟩, T.g__law_over, F.kp⟩
  · obtain ⟨B, G, v, x, y, t, e, rfl, _⟩ := h
    all_goals rfl
  · obtain ⟨B, G, v, x, y, t, e, rfl, dv, q⟩ := h
    all_goals refine ⟨_, PSs.nox (pss_cons (ps_if (pt_cmpR op_eq (pe_op op_mod (pe_ix (r := rIxT K) ix_tup (pv 0) pe_int (fun _ _ => rfl)) pe_int) pe_int (nomark _)) (pss_one (ps_ret pe_non)) pss_nil) (pss_one (ps_ret (pe_tup (pa_cons (pe_op op_sub (pe_op op_add (pe_ix (r := rIxT K) ix_tup (pv 0) pe_int (fun _ _ => rfl)) pe_int) (pe_ix (r := rIxT K) ix_tup (pv 0) pe_int (fun _ _ => rfl))) (pa_cons (pe_ix (r := rIxT K) ix_tup (pv 0) pe_int (fun _ _ => rfl)) (pa_cons (pe_op op_sub pe_int (pe_ix (r := rIxT K) ix_tup (pv 0) pe_int (fun _ _ => rfl))) pa_nil))))))), ?_⟩
    unfold overL at q
    refine sq_ifN (b := decide (t % 2 = 0)) (eb_is (eb_test (ed_op (ed_op (ed_op (ed_var rfl dv) ed_int (rd_ixT rfl)) ed_int (rd_I (by decide))) ed_int (rd_eq rfl))) di) e (fun c G3 H3 X3 => ?_) (fun c G3 H3 X3 => ?_)
    · rw [if_pos (of_decide_eq_true c)] at q
      exact st_ret ed_non X3.ok (q.mono X3)
    · rw [if_neg (of_decide_eq_false c)] at q
      replace dv := dp_mono X3.gg dv
      exact st_ret (ed_tup (ea_cons (ed_op (ed_op (ed_op (ed_var rfl dv) ed_int (rd_ixT rfl)) ed_int rd_I0) (ed_op (ed_var rfl dv) ed_int (rd_ixT rfl)) rd_I0) (ea_cons (ed_op (ed_var rfl dv) ed_int (rd_ixT rfl)) (ea_cons (ed_op ed_int (ed_op (ed_var rfl dv) ed_int (rd_ixT rfl)) rd_I0) ea_nil))) (Nat.le_of_ble_eq_true rfl)) X3.ok (q.mono X3)
theorem ed_over {B : Bg} {G : Hp} {σ : L2.St} {tr : TA} {E : XK} {x y t : Int} (ha : EvA K B tr σ G [encT [x, y, t]]) : EvD K B (tCall (sp__law_over K) [] E tr) σ G (overL x y t) :=
  ed_call ha fun vs G2 H2 _ e dv Q q => by
    cases dv with
    | cons h a =>
      cases a
      exact ⟨B, G2, _, x, y, t, e, rfl, h, q⟩
/-! _law_joined -/
def encP (p : Nat × Nat) : PyData := encT [(p.1 : Int), (p.2 : Int)]
def joinS (ls : List Int) (p : Nat × Nat) : List Int :=
  if min (ls.getD p.1 0) (ls.getD p.2 0) = max (ls.getD p.1 0) (ls.getD p.2 0) then ls else ls.map fun m => if m = max (ls.getD p.1 0) (ls.getD p.2 0) then min (ls.getD p.1 0) (ls.getD p.2 0) else m
def range0 (n : Nat) : List Int := (List.range n).map fun i : Nat => (i : Int)
def joinedL (n : Nat) (ps : List (Nat × Nat)) : List Int := ps.foldl joinS (range0 n)
theorem joinS_len (ls : List Int) (p : Nat × Nat) : (joinS ls p).length = ls.length := by
  unfold joinS
  split
  · rfl
  · rw [List.length_map]
theorem joined_len (n : Nat) (ps : List (Nat × Nat)) : (joinedL n ps).length = n := by
  unfold joinedL
  have : ∀ (ps : List (Nat × Nat)) (ls : List Int), (ps.foldl joinS ls).length = ls.length := fun ps => by
    induction ps with
    | nil => exact fun _ => rfl
    | cons p ps ih => exact fun ls => by rw [List.foldl_cons, ih, joinS_len]
  rw [this]
  unfold range0
  rw [len_mr]
theorem at_int {ls : List Int} {j : Nat} (h : j < ls.length) : atI (ls.map PyData.int) (j : Int) = some (.int (ls.getD j 0)) := by
  refine atI_nat ?_
  rw [List.getElem?_map, getD_q, List.getElem?_eq_getElem h]
  rfl
theorem relab (ls : List Int) (lo hi : Int) : (ls.map PyData.int).filterMap (fun d => match d with | .int m => some (.int (if m = hi then lo else m)) | _ => none) = (ls.map fun m => if m = hi then lo else m).map PyData.int := by
  induction ls with
  | nil => rfl
  | cons l ls ih => rw [List.map_cons, List.filterMap_cons, ih]; rfl
def sp__law_joined (K : Fg) : Sp := fun vs H Q E => ∃ (B : Bg) (G : Hp) (v : V) (n : Nat) (ps : List (Nat × Nat)), Ok K B G H ∧ vs = [.int (n : Int), v] ∧ Dp K G v (.list (ps.map encP)) ∧ n ≤ 10000 ∧ ps.length ≤ 10000 ∧ (∀ p ∈ ps, p.1 < n ∧ p.2 < n) ∧ Ret K B G H Q (.list ((joinedL n ps).map .int))
abbrev N__law_joined : List Str := ["_law_many", "_law_pairs", "_law_labels", "_law_one", "_law_other", "_law_low", "_law_high", "_law_mark"]
theorem sc__law_joined : FnScope N__law_joined ["_law_many", "_law_pairs"] (defScope s__law_joined) := ⟨rfl, rfl, rfl, by decide +kernel, rfl, by decide +kernel, by decide +kernel⟩
theorem ok__law_joined (T : Txt K mg)  : Good P w K mg base (L2N.CX P w) 1 "_law_joined" ["_law_many", "_law_pairs"] [] (sp__law_joined K) := by
  obtain ⟨fd, F⟩ := T.c.def_ 36 (d := d__law_joined) rfl
  have b : Binds K fd ["_law_many", "_law_pairs"] [] := F.bindsN fun _ _ _ _ _ _ us hl => match us, hl with | [_, _], _ => rfl
  refine ⟨⟨fd, [], F.ok sc__law_joined (fun vs H Q E h => ?_) (fun cdv A outer s H vs Q E hr h => ?_), .nil, b⟩, T.g__law_joined, F.kp⟩
  · obtain ⟨B, G, v, n, ps, e, rfl, _⟩ := h
    all_goals rfl
  · obtain ⟨B, G, v, n, ps, e, rfl, dv, hn, hl, hp, q⟩ := h
    all_goals refine ⟨_, PSs.nox (pss_cons (ps_set (i := 2) sc__law_joined.nd rfl (Or.inl rfl) (pe_listRg rfl (by rfl) T.f_list (prg_1 (by rfl) T.f_range (pv 0)))) (pss_cons (ps_for PassesOwn.never rfl (pi_list (pv 1)) (pg_tup rfl (pgs_cons (by exact (pg_name (i := 3) sc__law_joined.nd rfl (Or.inl rfl))) (pgs_cons (by exact (pg_name (i := 4) sc__law_joined.nd rfl (Or.inl rfl))) pgs_nil))) (pss_cons (ps_set (i := 5) sc__law_joined.nd rfl (Or.inr rfl) (pe_callB (call_min2 rfl) (by rfl) T.f_min (by decide +kernel) (pa_cons (pe_ix (r := rIxL K) ix_list (pv 2) (pv 3) (fun _ _ => rfl)) (pa_cons (pe_ix (r := rIxL K) ix_list (pv 2) (pv 4) (fun _ _ => rfl)) pa_nil)))) (pss_cons (ps_set (i := 6) sc__law_joined.nd rfl (Or.inr rfl) (pe_callB (call_max2 rfl) (by rfl) T.f_max (by decide +kernel) (pa_cons (pe_ix (r := rIxL K) ix_list (pv 2) (pv 3) (fun _ _ => rfl)) (pa_cons (pe_ix (r := rIxL K) ix_list (pv 2) (pv 4) (fun _ _ => rfl)) pa_nil)))) (pss_one (ps_if (pt_cmpR op_ne (pv 5) (pv 6) (nomark _)) (pss_one (ps_setLc (i := 2) (own := [("_law_mark", 7)]) (g := gName 7) rfl sc__law_joined.nd rfl rfl (sw_true rfl rfl rfl (by decide +kernel)) (pi_list (pv 2)) (blkOk_by (own := [("_law_mark", 7)]) (N := N__law_joined) (sc := defScope s__law_joined) (by decide +kernel)) (fun _ _ _ _ _ => (pg_name (i := 7) sc__law_joined.nd rfl (Or.inl rfl))) (fun _ _ _ _ _ => pts_nil) (fun _ _ _ _ _ => (pe_ifExp (pt_cmpR op_eq (pv 7) (pv 6) (nomark _)) (pv 5) (pv 7))))) pss_nil))))) (pss_one (ps_ret (pv 2))))), ?_⟩
    have er : (List.range n).map (fun i : Nat => PyData.int (i : Int)) = (range0 n).map .int := by
      unfold range0
      rw [List.map_map]
      rfl
    refine sq_set (EvF.ed (ed_isF (ef_range (ed_var rfl (.int _)) (by omega)) er)) e (fun v2 G2 H2 X d2 => ?_)
    refine sq_forG (Pv := fun j σ' G' H' => ∃ u y3 y4 y5 y6 y7, σ' = [some (.int (n : Int)), some v, some u, y3, y4, y5, y6, y7] ∧ Dp K G' u (.list ((joinedL n (ps.take j)).map .int))) (ed_var rfl (dp_mono X.gg dv)) X.ok (fun G3 H3 X3 => ⟨v2, none, none, none, none, none, rfl, dp_mono X3.gg d2⟩) (fun G3 H3 X3 j d w σ4 G4 H4 hj X4 P4 dw => ?_) (fun σ4 G4 H4 X4 P4 => ?_)
    · obtain ⟨u, y3, y4, y5, y6, y7, rfl, du⟩ := P4
      rw [List.getElem?_map] at hj
      cases ej : ps[j]? with
      | none =>
        rw [ej] at hj
        cases hj
      | some pr =>
        rw [ej] at hj
        obtain rfl := Option.some.inj hj
        have hpp := hp pr (List.mem_of_getElem? ej)
        have es : joinedL n (ps.take (j + 1)) = joinS (joinedL n (ps.take j)) pr := by
          unfold joinedL
          rw [List.take_add_one, ej, List.foldl_append]
          rfl
        have len := joined_len n (ps.take j)
        generalize joinedL n (ps.take j) = ls at es du len
        obtain ⟨a, rfl, ha⟩ := dp_enc dw
        refine ⟨a, _, rfl, ex_t X4.ok.e ha, rfl, _, _, rfl, _, _, rfl, rfl, ?_⟩
        have a1 := at_int (ls := ls) (j := pr.1) (by omega)
        have a2 := at_int (ls := ls) (j := pr.2) (by omega)
        refine sq_set (ed_min (ea_cons (ed_op (ed_var rfl du) (ed_var rfl (.int _)) (rd_ixL a1)) (ea_cons (ed_op (ed_var rfl du) (ed_var rfl (.int _)) (rd_ixL a2)) ea_nil))) X4.ok (fun v5 G5 H5 X5 d5 => ?_)
        obtain rfl := dp_int d5
        replace du := dp_mono X5.gg du
        refine sq_set (ed_max (ea_cons (ed_op (ed_var rfl du) (ed_var rfl (.int _)) (rd_ixL a1)) (ea_cons (ed_op (ed_var rfl du) (ed_var rfl (.int _)) (rd_ixL a2)) ea_nil))) X5.ok (fun v6 G6 H6 X6 d6 => ?_)
        obtain rfl := dp_int d6
        replace du := dp_mono X6.gg du
        unfold joinS at es
        have Y := (X4.trans X5).trans X6
        generalize min (ls.getD pr.1 0) (ls.getD pr.2 0) = lo at es
        generalize max (ls.getD pr.1 0) (ls.getD pr.2 0) = hi at es
        refine st_ifD (b := !decide (lo = hi)) (eb_is (eb_test (ed_op (ed_var rfl (.int lo)) (ed_var rfl (.int hi)) (rd_ne rfl))) (by rw [di])) X6.ok (fun c G7 H7 X7 => ?_) (fun c G7 H7 X7 => ?_)
        · have c' : ¬ lo = hi := by
            rw [Bool.not_eq_true'] at c
            exact of_decide_eq_false c
          rw [if_neg c'] at es
          replace du := dp_mono X7.gg du
          refine st_set (EvF.ed (ed_isF (ef_lcL (f := fun d => match d with | .int m => some (.int (if m = hi then lo else m)) | _ => none) (ed_var rfl du) (by rw [List.length_map]; omega) (fun d u G' md eg cg du => ?_) (fun d u y G' md eg cg du ey => ?_)) (relab ls lo hi))) X7.ok (fun v8 G8 H8 X8 d8 => ⟨G8, Y.trans (X7.trans X8), v8, _, _, _, _, _, rfl, by rw [es]; exact d8⟩)
          · obtain ⟨m, _, rfl⟩ := List.mem_map.mp md
            exact eb_yes
          · obtain ⟨m, _, rfl⟩ := List.mem_map.mp md
            obtain rfl := Option.some.inj ey
            refine ed_if (b := decide (m = hi)) (eb_is (eb_test (ed_op (ed_var rfl du) (ed_var rfl (.int hi)) (rd_eq rfl))) di) (fun c => ?_) (fun c => ?_)
            · rw [if_pos (of_decide_eq_true c)]
              exact ed_var rfl (.int lo)
            · rw [if_neg (of_decide_eq_false c)]
              exact ed_var rfl du
        · have c' : lo = hi := by
            rw [Bool.not_eq_false'] at c
            exact of_decide_eq_true c
          rw [if_pos c'] at es
          exact ⟨G7, Y.trans X7, u, _, _, _, _, _, rfl, by rw [es]; exact dp_mono X7.gg du⟩
    · obtain ⟨u, y3, y4, y5, y6, y7, rfl, du⟩ := P4
      rw [List.length_map, List.take_length] at du
      exact st_ret (ed_var rfl du) X4.ok (q.mono (X.trans X4))
theorem ed_joined {B : Bg} {G : Hp} {σ : L2.St} {tr : TA} {E : XK} {n : Nat} {ps : List (Nat × Nat)} (ha : EvA K B tr σ G [.int (n : Int), .list (ps.map encP)]) (hn : n ≤ 10000) (hl : ps.length ≤ 10000) (hp : ∀ p ∈ ps, p.1 < n ∧ p.2 < n) : EvD K B (tCall (sp__law_joined K) [] E tr) σ G (.list ((joinedL n ps).map .int)) :=
  ed_call ha fun vs G2 H2 _ e dv Q q => by
    cases dv with
    | cons h a =>
      cases a with
      | cons h2 a2 =>
        cases a2
        exact ⟨B, G2, _, n, ps, e, by rw [dp_int h]; rfl, h2, hn, hl, hp, q⟩
/-! _law_slant -/
def slantL (ls : List (List Int)) (x y : Int) : Int := if [x, y, 1] ∈ ls then 1 else 3 * (if [x + 1, y, 3] ∈ ls then 1 else 0)
def sp__law_slant (K : Fg) : Sp := fun vs H Q E => ∃ (B : Bg) (G : Hp) (v : V) (w h : Int) (ls : List (List Int)) (g : PyData) (x y : Int), Ok K B G H ∧ vs = [v, .int x, .int y] ∧ Dp K G v (planD w h (.tuple (ls.map encT)) g) ∧ Ret K B G H Q (.int (slantL ls x y))
abbrev N__law_slant : List Str := ["_law_plan_here", "_law_x", "_law_y"]
theorem sc__law_slant : FnScope N__law_slant ["_law_plan_here", "_law_x", "_law_y"] (defScope s__law_slant) := ⟨rfl, rfl, rfl, by decide +kernel, rfl, by decide +kernel, by decide +kernel⟩
theorem ok__law_slant (T : Txt K mg)  : Good P w K mg base (L2N.CX P w) 1 "_law_slant" ["_law_plan_here", "_law_x", "_law_y"] [] (sp__law_slant K) := by
  obtain ⟨fd, F⟩ := T.c.def_ 37 (d := d__law_slant) rfl
  have b : Binds K fd ["_law_plan_here", "_law_x", "_law_y"] [] := F.bindsN fun _ _ _ _ _ _ us hl => match us, hl with | [_, _, _], _ => rfl
  refine ⟨⟨fd, [], F.ok sc__law_slant (fun vs H Q E h => ?_) (fun cdv A outer s H vs Q E hr h => ?_), .nil, b⟩, T.g__law_slant, F.kp⟩
  · obtain ⟨B, G, v, w, h, ls, g, x, y, e, rfl, _⟩ := h
    all_goals rfl
  · obtain ⟨B, G, v, wd, ht, ls, g, x, y, e, rfl, dv, q⟩ := h
    all_goals refine ⟨_, PSs.nox (pss_cons (ps_if (pt_cmpR (r := rInTD K) (op_inTD (hu65 hr)) (pe_tup (pa_cons (pv 1) (pa_cons (pv 2) (pa_cons pe_int pa_nil)))) (pe_ix (r := rIxT K) ix_tup (pv 0) pe_int (fun _ _ => rfl)) (by rfl)) (pss_one (ps_ret pe_int)) pss_nil) (pss_one (ps_ret (pe_op op_mul pe_int (pe_callTy (r := rInt1) call_int1 (by rfl) T.f_int (by decide +kernel) (pa_cons (pe_cmpR (r := rInTD K) (op_inTD (hu65 hr)) (pe_tup (pa_cons (pe_op op_add (pv 1) pe_int) (pa_cons (pv 2) (pa_cons pe_int pa_nil)))) (pe_ix (r := rIxT K) ix_tup (pv 0) pe_int (fun _ _ => rfl)) (by rfl)) pa_nil)))))), ?_⟩
    unfold slantL at q
    refine sq_ifN (b := decide ([x, y, 1] ∈ ls)) (eb_test (ed_op (ed_tup (ea_cons (ed_var rfl (.int x)) (ea_cons (ed_var rfl (.int y)) (ea_cons ed_int ea_nil))) (Nat.le_of_ble_eq_true rfl)) (ed_op (ed_var rfl dv) ed_int (rd_ixT rfl)) (rd_inT (a := [x, y, 1])))) e (fun c G2 H2 X => ?_) (fun c G2 H2 X => ?_)
    · rw [if_pos (of_decide_eq_true c)] at q
      exact st_ret ed_int X.ok (q.mono X)
    · rw [if_neg (of_decide_eq_false c)] at q
      refine st_ret (ed_is (ed_op ed_int (ed_intB (b := decide ([x + 1, y, 3] ∈ ls)) (ed_op (ed_tup (ea_cons (ed_op (ed_var rfl (.int x)) ed_int rd_I0) (ea_cons (ed_var rfl (.int y)) (ea_cons ed_int ea_nil))) (Nat.le_of_ble_eq_true rfl)) (ed_op (ed_var rfl (dp_mono X.gg dv)) ed_int (rd_ixT rfl)) (rd_inT (a := [x + 1, y, 3])))) (rd_I (.inl (by decide)))) ?_) X.ok (q.mono X)
      by_cases c2 : [x + 1, y, 3] ∈ ls
      · rw [if_pos c2, decide_eq_true c2]
        rfl
      · rw [if_neg c2, decide_eq_false c2]
        rfl
theorem ed_slant {B : Bg} {G : Hp} {σ : L2.St} {tr : TA} {E : XK} {wd ht x y : Int} {ls : List (List Int)} {g : PyData} (ha : EvA K B tr σ G [planD wd ht (.tuple (ls.map encT)) g, .int x, .int y]) : EvD K B (tCall (sp__law_slant K) [] E tr) σ G (.int (slantL ls x y)) :=
  ed_call ha fun vs G2 H2 _ e dv Q q => by
    cases dv with
    | cons h a => exact ⟨B, G2, _, wd, ht, ls, g, x, y, e, by rw [dpAll_intsV (bs := [x, y]) a]; rfl, h, q⟩
/-! _law_cell_pairs -/
def hereN (w x y : Nat) : Nat := 4 * (y * w + x)
def partsL (s : Int) : List (Nat × Nat) := if s = 0 then [(0, 1), (1, 2), (2, 3), (0, 3)] else if s = 1 then [(0, 1), (2, 3)] else [(0, 3), (1, 2)]
def shiftP (n : Nat) (p : Nat × Nat) : Nat × Nat := (n + p.1, n + p.2)
def cpL (ls : List (List Int)) (w x y : Nat) : List (Nat × Nat) := (partsL (slantL ls x y)).map (shiftP (hereN w x y))
def shiftD (n : Nat) : PyData → Option PyData
  | .tuple [.int a, .int b] => some (.tuple [.int ((n : Int) + a), .int ((n : Int) + b)])
  | _ => none
theorem shift_enc (n : Nat) (p : Nat × Nat) : shiftD n (encP p) = some (encP (shiftP n p)) := by
  show some (PyData.tuple [.int ((n : Int) + (p.1 : Int)), .int ((n : Int) + (p.2 : Int))]) = some (.tuple [.int ((n + p.1 : Nat) : Int), .int ((n + p.2 : Nat) : Int)])
  rw [Int.natCast_add, Int.natCast_add]
theorem shift_all (n : Nat) : ∀ ps : List (Nat × Nat), (ps.map encP).filterMap (shiftD n) = (ps.map (shiftP n)).map encP
  | [] => rfl
  | p :: ps => by rw [List.map_cons, List.filterMap_cons, shift_enc, shift_all n ps]; rfl
theorem slant_cases (ls : List (List Int)) (x y : Int) : slantL ls x y = 0 ∨ slantL ls x y = 1 ∨ slantL ls x y = 3 := by
  unfold slantL
  split
  · exact .inr (.inl rfl)
  · split
    · exact .inr (.inr rfl)
    · exact .inl rfl
theorem here_eq (w x y : Nat) : (4 : Int) * ((y : Int) * (w : Int) + (x : Int)) = ((hereN w x y : Nat) : Int) := by
  unfold hereN
  rw [Int.natCast_mul, Int.natCast_add, Int.natCast_mul]
  rfl
def sp__law_cell_pairs (K : Fg) : Sp := fun vs H Q E => ∃ (B : Bg) (G : Hp) (v : V) (w h : Nat) (ls : List (List Int)) (g : PyData) (x y : Nat), Ok K B G H ∧ vs = [v, .int (x : Int), .int (y : Int)] ∧ Dp K G v (planD (w : Int) (h : Int) (.tuple (ls.map encT)) g) ∧ w ≤ 9 ∧ RetF K B G H Q ((cpL ls w x y).map encP)
abbrev N__law_cell_pairs : List Str := ["_law_plan_here", "_law_x", "_law_y", "_law_here", "_law_slant_here", "_law_parts", "_law_one", "_law_other"]
theorem sc__law_cell_pairs : FnScope N__law_cell_pairs ["_law_plan_here", "_law_x", "_law_y"] (defScope s__law_cell_pairs) := ⟨rfl, rfl, rfl, by decide +kernel, rfl, by decide +kernel, by decide +kernel⟩
theorem ok__law_cell_pairs (T : Txt K mg) (G__law_slant : Good P w K mg base (L2N.CX P w) 1 "_law_slant" ["_law_plan_here", "_law_x", "_law_y"] [] (sp__law_slant K)) : Good P w K mg base (L2N.CX P w) 2 "_law_cell_pairs" ["_law_plan_here", "_law_x", "_law_y"] [] (sp__law_cell_pairs K) := by
  obtain ⟨fd, F⟩ := T.c.def_ 38 (d := d__law_cell_pairs) rfl
  have b : Binds K fd ["_law_plan_here", "_law_x", "_law_y"] [] := F.bindsN fun _ _ _ _ _ _ us hl => match us, hl with | [_, _, _], _ => rfl
  refine ⟨⟨fd, [], F.ok sc__law_cell_pairs (fun vs H Q E h => ?_) (fun cdv A outer s H vs Q E hr h => ?_), .nil, b⟩, T.g__law_cell_pairs, F.kp⟩
  · obtain ⟨B, G, v, w, h, ls, g, x, y, e, rfl, _⟩ := h
    all_goals rfl
  · obtain ⟨B, G, v, wn, hn, ls, g, x, y, e, rfl, dv, hw, q⟩ := h
    all_goals refine ⟨_, PSs.nox (pss_cons (ps_set (i := 3) sc__law_cell_pairs.nd rfl (Or.inr rfl) (pe_op op_mul pe_int (pe_op op_add (pe_op op_mul (pv 2) (pe_ix (r := rIxT K) ix_tup (pv 0) pe_int (fun _ _ => rfl))) (pv 1)))) (pss_cons (ps_set (i := 4) sc__law_cell_pairs.nd rfl (Or.inl rfl) (pe_own G__law_slant (hr.mono (by decide)) (by rfl) passLN (pa_cons (pv 0) (pa_cons (pv 1) (pa_cons (pv 2) pa_nil))))) (pss_cons (ps_set (i := 5) sc__law_cell_pairs.nd rfl (Or.inl rfl) (pe_dget (hu_of hr) (pe_disp (pps_cons pe_int (pe_lst (pa_cons (pe_tup (pa_cons pe_int (pa_cons pe_int pa_nil))) (pa_cons (pe_tup (pa_cons pe_int (pa_cons pe_int pa_nil))) (pa_cons (pe_tup (pa_cons pe_int (pa_cons pe_int pa_nil))) (pa_cons (pe_tup (pa_cons pe_int (pa_cons pe_int pa_nil))) pa_nil))))) (pps_cons pe_int (pe_lst (pa_cons (pe_tup (pa_cons pe_int (pa_cons pe_int pa_nil))) (pa_cons (pe_tup (pa_cons pe_int (pa_cons pe_int pa_nil))) pa_nil))) (pps_cons pe_int (pe_lst (pa_cons (pe_tup (pa_cons pe_int (pa_cons pe_int pa_nil))) (pa_cons (pe_tup (pa_cons pe_int (pa_cons pe_int pa_nil))) pa_nil))) pps_nil))) (by rfl) (by rfl) (fun z => by cases z) (by decide)) (pv 4) (fun _ _ => rfl))) (pss_one (ps_ret (pe_lc (own := [("_law_one", 6), ("_law_other", 7)]) (g := gTup K 2 (gCons (gName 6) (gCons (gName 7) gNil))) rfl sc__law_cell_pairs.nd (pi_list (pv 5)) (blkOk_by (own := [("_law_one", 6), ("_law_other", 7)]) (N := N__law_cell_pairs) (sc := defScope s__law_cell_pairs) (by decide +kernel)) (fun _ _ _ _ _ => (pg_tup rfl (pgs_cons (by exact (pg_name (i := 6) sc__law_cell_pairs.nd rfl (Or.inl rfl))) (pgs_cons (by exact (pg_name (i := 7) sc__law_cell_pairs.nd rfl (Or.inl rfl))) pgs_nil)))) (fun _ _ _ _ _ => pts_nil) (fun _ _ _ _ _ => (pe_tup (pa_cons (pe_op op_add (pv 3) (pv 6)) (pa_cons (pe_op op_add (pv 3) (pv 7)) pa_nil)))))))))), ?_⟩
    refine sq_set (ed_is (ed_op ed_int (ed_op (ed_op (ed_var rfl (.int (y : Int))) (ed_op (ed_var rfl dv) ed_int (rd_ixT (d := .int (wn : Int)) rfl)) (rd_I (.inr ⟨by omega, by omega⟩))) (ed_var rfl (.int (x : Int))) rd_I0) (rd_I (.inl (by decide)))) (by rw [here_eq])) e (fun v2 G2 H2 X d2 => ?_)
    obtain rfl := dp_int d2
    replace dv := dp_mono X.gg dv
    refine sq_set (ed_slant (ea_cons (ed_var rfl dv) (ea_cons (ed_var rfl (.int (x : Int))) (ea_cons (ed_var rfl (.int (y : Int))) ea_nil)))) X.ok (fun v3 G3 H3 X3 d3 => ?_)
    obtain rfl := dp_int d3
    have sc := slant_cases ls x y
    have qq : RetF K B G H Q ((partsL (slantL ls x y)).map (shiftP (hereN wn x y)) |>.map encP) := q
    generalize slantL ls x y = s at sc qq
    have pr : ∀ {σ : L2.St} {G : Hp} (a b : Int), EvD K B (tTup (tCons (tC (.int a)) (tCons (tC (.int b)) tNil))) σ G (.tuple [.int a, .int b]) := fun a b => ed_tup (ea_cons ed_int (ea_cons ed_int ea_nil)) (Nat.le_of_ble_eq_true rfl)
    refine sq_set (d := .list ((partsL s).map encP)) (ed_dispGet (ks := [0, 1, 3]) (k := s) (ds := [.list [.tuple [.int 0, .int 1], .tuple [.int 1, .int 2], .tuple [.int 2, .int 3], .tuple [.int 0, .int 3]], .list [.tuple [.int 0, .int 1], .tuple [.int 2, .int 3]], .list [.tuple [.int 0, .int 3], .tuple [.int 1, .int 2]]])
      (ek_cons (ed_lst (ea_cons (pr _ _) (ea_cons (pr _ _) (ea_cons (pr _ _) (ea_cons (pr _ _) ea_nil)))) (Nat.le_of_ble_eq_true rfl)) (ek_cons (ed_lst (ea_cons (pr _ _) (ea_cons (pr _ _) ea_nil)) (Nat.le_of_ble_eq_true rfl)) (ek_cons (ed_lst (ea_cons (pr _ _) (ea_cons (pr _ _) ea_nil)) (Nat.le_of_ble_eq_true rfl)) ek_nil))) (ed_var rfl (.int s)) (by decide) (fun Gx vs hvs => ?_)) X3.ok (fun v4 G4 H4 X4 d4 => ?_)
    · cases hvs with
      | cons k0 r0 =>
        cases r0 with
        | cons k1 r1 =>
          cases r1 with
          | cons k2 r2 =>
            cases r2
            rcases sc with rfl | rfl | rfl
            · exact ⟨_, rfl, k0⟩
            · exact ⟨_, rfl, k1⟩
            · exact ⟨_, rfl, k2⟩
    · have Y := (X.trans X3).trans X4
      refine st_retF (ed_isF (ef_lcP (f := shiftD (hereN wn x y)) (ed_var rfl d4) (by rw [List.length_map]; unfold partsL; split; decide; split <;> decide) (fun d md => ?_) (fun a b v w G' md eg cg dv dw => ?_) (fun a b v w y' G' md eg cg dv dw ey => ?_) (fun v w => rfl)) (shift_all _ _)) X4.ok (qq.mono Y)
      · obtain ⟨p, _, rfl⟩ := List.mem_map.mp md
        exact ⟨_, _, rfl⟩
      · obtain ⟨p, _, ep⟩ := List.mem_map.mp md
        rw [← ep, shift_enc]
        exact eb_yes
      · obtain ⟨p, _, ep⟩ := List.mem_map.mp md
        obtain ⟨e1, e2⟩ : PyData.int (p.1 : Int) = a ∧ PyData.int (p.2 : Int) = b := by
          have := PyData.tuple.inj ep
          exact ⟨(List.cons.inj this).1, (List.cons.inj (List.cons.inj this).2).1⟩
        subst e1
        subst e2
        rw [show shiftD (hereN wn x y) (.tuple [.int (p.1 : Int), .int (p.2 : Int)]) = some (.tuple [.int ((hereN wn x y : Int) + (p.1 : Int)), .int ((hereN wn x y : Int) + (p.2 : Int))]) from rfl] at ey
        obtain rfl := Option.some.inj ey
        exact ed_tup (ea_cons (ed_op (ed_var rfl (.int _)) (ed_var rfl dv) rd_I0) (ea_cons (ed_op (ed_var rfl (.int _)) (ed_var rfl dw) rd_I0) ea_nil)) (Nat.le_of_ble_eq_true rfl)
theorem ef_cells {B : Bg} {G : Hp} {σ : L2.St} {tr : TA} {E : XK} {wn hn x y : Nat} {ls : List (List Int)} {g : PyData} (ha : EvA K B tr σ G [planD (wn : Int) (hn : Int) (.tuple (ls.map encT)) g, .int (x : Int), .int (y : Int)]) (hw : wn ≤ 9) : EvF K B (tCall (sp__law_cell_pairs K) [] E tr) σ G ((cpL ls wn x y).map encP) := fun H e Q q =>
  ha H e _ fun vs G2 H2 X dv => by
    cases dv with
    | cons h a => exact ⟨B, G2, _, wn, hn, ls, g, x, y, X.ok, by rw [dpAll_intsV (bs := [(x : Int), (y : Int)]) a]; rfl, h, hw, q.mono X⟩
/-! _law_panes -/
def rgtL (ls : List (List Int)) (w x y : Nat) : List (Nat × Nat) := if x + 1 < w ∧ ¬ [(x : Int) + 1, (y : Int), 2] ∈ ls then [(hereN w x y + 1, hereN w x y + 4 + 3)] else []
def belL (ls : List (List Int)) (w h x y : Nat) : List (Nat × Nat) := if y + 1 < h ∧ ¬ [(x : Int), (y : Int) + 1, 0] ∈ ls then [(hereN w x y + 2, hereN w x y + 4 * w)] else []
def cellN (ls : List (List Int)) (w h x y : Nat) : List (Nat × Nat) := cpL ls w x y ++ rgtL ls w x y ++ belL ls w h x y
def rowP (ls : List (List Int)) (w h y n : Nat) : List (Nat × Nat) := (List.range n).flatMap fun x => cellN ls w h x y
def pairsN (ls : List (List Int)) (w h m : Nat) : List (Nat × Nat) := (List.range m).flatMap fun y => rowP ls w h y w
def panesL (ls : List (List Int)) (w h : Nat) : List Int := joinedL (4 * w * h) (pairsN ls w h h)
theorem rowP_succ (ls : List (List Int)) (w h y n : Nat) : rowP ls w h y (n + 1) = rowP ls w h y n ++ cellN ls w h n y := by
  unfold rowP
  rw [List.range_succ, List.flatMap_append]
  simp
theorem pairsN_succ (ls : List (List Int)) (w h n : Nat) : pairsN ls w h (n + 1) = pairsN ls w h n ++ rowP ls w h n w := by
  unfold pairsN
  rw [List.range_succ, List.flatMap_append]
  simp
theorem parts_len (s : Int) : (partsL s).length ≤ 4 := by
  unfold partsL
  split
  · decide
  · split <;> decide
theorem cellN_len (ls : List (List Int)) (w h x y : Nat) : (cellN ls w h x y).length ≤ 6 := by
  unfold cellN cpL rgtL belL
  rw [List.length_append, List.length_append, List.length_map]
  have := parts_len (slantL ls x y)
  split <;> split <;> simp only [List.length_cons, List.length_nil] <;> omega
theorem rowP_len (ls : List (List Int)) (w h y : Nat) : ∀ n, (rowP ls w h y n).length ≤ 6 * n
  | 0 => Nat.le_refl _
  | n + 1 => by
    rw [rowP_succ, List.length_append]
    have := rowP_len ls w h y n
    have := cellN_len ls w h n y
    omega
theorem pairsN_len (ls : List (List Int)) (w h : Nat) (hw : w ≤ 9) : ∀ n, (pairsN ls w h n).length ≤ 54 * n
  | 0 => Nat.le_refl _
  | n + 1 => by
    rw [pairsN_succ, List.length_append]
    have := pairsN_len ls w h hw n
    have := rowP_len ls w h n w
    omega
theorem parts_lt (s : Int) : ∀ p ∈ partsL s, p.1 < 4 ∧ p.2 < 4 := by
  unfold partsL
  split
  · decide
  · split <;> decide
theorem cell_lt {w h x y : Nat} (hx : x < w) (hy : y < h) : y * w + x + 1 ≤ w * h := by
  have a := Nat.mul_le_mul_right w (show y + 1 ≤ h from hy)
  rw [Nat.add_mul, Nat.one_mul, Nat.mul_comm h w] at a
  omega
theorem cellN_lt {ls : List (List Int)} {w h x y : Nat} (hx : x < w) (hy : y < h) : ∀ p ∈ cellN ls w h x y, p.1 < 4 * w * h ∧ p.2 < 4 * w * h := fun p hp => by
  have c := cell_lt hx hy
  have e4 : 4 * w * h = 4 * (w * h) := Nat.mul_assoc 4 w h
  unfold cellN at hp
  rcases mem_or hp with hp | hp
  · rcases mem_or hp with hp | hp
    · unfold cpL at hp
      obtain ⟨p0, h0, rfl⟩ := List.mem_map.mp hp
      have := parts_lt _ p0 h0
      unfold shiftP hereN
      constructor <;> (dsimp only; omega)
    · unfold rgtL at hp
      split at hp
      · next k =>
        obtain rfl := mem_1 hp
        have c2 := cell_lt (x := x + 1) k.1 hy
        unfold hereN
        constructor <;> (dsimp only; omega)
      · cases hp
  · unfold belL at hp
    split at hp
    · next k =>
      obtain rfl := mem_1 hp
      have c2 := cell_lt (y := y + 1) hx k.1
      rw [Nat.add_mul, Nat.one_mul] at c2
      unfold hereN
      constructor <;> (dsimp only; omega)
    · cases hp
theorem pairsN_lt {ls : List (List Int)} {w h : Nat} : ∀ p ∈ pairsN ls w h h, p.1 < 4 * w * h ∧ p.2 < 4 * w * h := fun p hp => by
  unfold pairsN rowP at hp
  obtain ⟨y, hy, hp⟩ := List.mem_flatMap.mp hp
  obtain ⟨x, hx, hp⟩ := List.mem_flatMap.mp hp
  exact cellN_lt (List.mem_range.mp hx) (List.mem_range.mp hy) p hp
def sp__law_panes (K : Fg) : Sp := fun vs H Q E => ∃ (B : Bg) (G : Hp) (v : V) (w h : Nat) (ls : List (List Int)) (g : PyData), Ok K B G H ∧ vs = [v] ∧ Dp K G v (planD (w : Int) (h : Int) (.tuple (ls.map encT)) g) ∧ w ≤ 9 ∧ h ≤ 9 ∧ Ret K B G H Q (.list ((panesL ls w h).map .int))
abbrev N__law_panes : List Str := ["_law_plan_here", "_law_pairs", "_law_y", "_law_x", "_law_here"]
theorem sc__law_panes : FnScope N__law_panes ["_law_plan_here"] (defScope s__law_panes) := ⟨rfl, rfl, rfl, by decide +kernel, rfl, by decide +kernel, by decide +kernel⟩
theorem ok__law_panes (T : Txt K mg) (G__law_cell_pairs : Good P w K mg base (L2N.CX P w) 2 "_law_cell_pairs" ["_law_plan_here", "_law_x", "_law_y"] [] (sp__law_cell_pairs K)) (G__law_joined : Good P w K mg base (L2N.CX P w) 1 "_law_joined" ["_law_many", "_law_pairs"] [] (sp__law_joined K)) : Good P w K mg base (L2N.CX P w) 3 "_law_panes" ["_law_plan_here"] [] (sp__law_panes K) := by
  obtain ⟨fd, F⟩ := T.c.def_ 39 (d := d__law_panes) rfl
  have b : Binds K fd ["_law_plan_here"] [] := F.bindsN fun _ _ _ _ _ _ us hl => match us, hl with | [_], _ => rfl
  refine ⟨⟨fd, [], F.ok sc__law_panes (fun vs H Q E h => ?_) (fun cdv A outer s H vs Q E hr h => ?_), .nil, b⟩, T.g__law_panes, F.kp⟩
  · obtain ⟨B, G, v, w, h, ls, g, e, rfl, _⟩ := h
    all_goals rfl
  · obtain ⟨B, G, v, wn, hn, ls, g, e, rfl, dv, hw, hh, q⟩ := h
    all_goals refine ⟨_, PSs.nox (pss_cons (ps_set (i := 1) sc__law_panes.nd rfl (Or.inl rfl) (pe_lst pa_nil)) (pss_cons (ps_for PassesOwn.never rfl (pi_range1 (by rfl) T.f_range (pa_cons (pe_ix (r := rIxT K) ix_tup (pv 0) pe_int (fun _ _ => rfl)) pa_nil)) (pg_name (i := 2) sc__law_panes.nd rfl (Or.inl rfl)) (pss_one (ps_for PassesOwn.never rfl (pi_range1 (by rfl) T.f_range (pa_cons (pe_ix (r := rIxT K) ix_tup (pv 0) pe_int (fun _ _ => rfl)) pa_nil)) (pg_name (i := 3) sc__law_panes.nd rfl (Or.inl rfl)) (pss_cons (ps_set (i := 4) sc__law_panes.nd rfl (Or.inl rfl) (pe_op op_mul pe_int (pe_op op_add (pe_op op_mul (pv 2) (pe_ix (r := rIxT K) ix_tup (pv 0) pe_int (fun _ _ => rfl))) (pv 3)))) (pss_cons (ps_set (i := 1) sc__law_panes.nd rfl (Or.inl rfl) (pe_op op_cat (pv 1) (pe_own G__law_cell_pairs (hr.mono (by decide)) (by rfl) passLN (pa_cons (pv 0) (pa_cons (pv 3) (pa_cons (pv 2) pa_nil)))))) (pss_cons (ps_if (PW.pt (pw_and (pt_cmpR op_lt (pe_op op_add (pv 3) pe_int) (pe_ix (r := rIxT K) ix_tup (pv 0) pe_int (fun _ _ => rfl)) (nomark _)) (pw_and1 (pt_cmpR (r := rNotInTD K) (op_notInTD (hu65 hr)) (pe_tup (pa_cons (pe_op op_add (pv 3) pe_int) (pa_cons (pv 2) (pa_cons pe_int pa_nil)))) (pe_ix (r := rIxT K) ix_tup (pv 0) pe_int (fun _ _ => rfl)) (by rfl))))) (pss_one (ps_expr (pe_bm PySem.F.plainAttrs_list PySem.F.slot_list_append PySem.F.type_list_append mt_append (pv 1) (pa_cons (pe_tup (pa_cons (pe_op op_add (pv 4) pe_int) (pa_cons (pe_op op_add (pe_op op_add (pv 4) pe_int) pe_int) pa_nil))) pa_nil)))) pss_nil) (pss_one (ps_if (PW.pt (pw_and (pt_cmpR op_lt (pe_op op_add (pv 2) pe_int) (pe_ix (r := rIxT K) ix_tup (pv 0) pe_int (fun _ _ => rfl)) (nomark _)) (pw_and1 (pt_cmpR (r := rNotInTD K) (op_notInTD (hu65 hr)) (pe_tup (pa_cons (pv 3) (pa_cons (pe_op op_add (pv 2) pe_int) (pa_cons pe_int pa_nil)))) (pe_ix (r := rIxT K) ix_tup (pv 0) pe_int (fun _ _ => rfl)) (by rfl))))) (pss_one (ps_expr (pe_bm PySem.F.plainAttrs_list PySem.F.slot_list_append PySem.F.type_list_append mt_append (pv 1) (pa_cons (pe_tup (pa_cons (pe_op op_add (pv 4) pe_int) (pa_cons (pe_op op_add (pv 4) (pe_op op_mul pe_int (pe_ix (r := rIxT K) ix_tup (pv 0) pe_int (fun _ _ => rfl)))) pa_nil))) pa_nil)))) pss_nil)))))))) (pss_one (ps_ret (pe_own G__law_joined (hr.mono (by decide)) (by rfl) passLN (pa_cons (pe_op op_mul (pe_op op_mul pe_int (pe_ix (r := rIxT K) ix_tup (pv 0) pe_int (fun _ _ => rfl))) (pe_ix (r := rIxT K) ix_tup (pv 0) pe_int (fun _ _ => rfl))) (pa_cons (pv 1) pa_nil))))))), ?_⟩
    refine sq_setZ (ef_lst ea_nil (Nat.le_of_ble_eq_true rfl)) e (fun p xs G2 H2 X hp hx => ?_)
    refine sq_forR (n := hn) (Pv := fun j σ' G' H' => ∃ p xs y2 y3 y4, σ' = [some v, some (.ref p), y2, y3, y4] ∧ G' p = some (.lst xs) ∧ DpAll K G' xs ((pairsN ls wn hn j).map encP)) (ea_cons (ed_op (ed_var rfl (dp_mono X.gg dv)) ed_int (rd_ixT (d := .int (hn : Int)) rfl)) ea_nil) (by omega) X.ok (fun G3 H3 X3 => ⟨p, xs, none, none, none, rfl, X3.gg _ _ hp, dpAll_mono X3.gg hx⟩) (fun G3 H3 X3 j σ4 G4 H4 hj X4 P4 => ?_) (fun σ4 G4 H4 X4 P4 => ?_)
    · obtain ⟨p, xs, y2, y3, y4, rfl, hp, hx⟩ := P4
      have dv4 := dp_mono (X.gg.trans (X3.gg.trans X4.gg)) dv
      have al := pairsN_len ls wn hn hw j
      refine st_forR (n := wn) (Pv := fun k σ' G' H' => ∃ p xs y3 y4, σ' = [some v, some (.ref p), some (.int (j : Int)), y3, y4] ∧ G' p = some (.lst xs) ∧ DpAll K G' xs ((pairsN ls wn hn j ++ rowP ls wn hn j k).map encP)) (ea_cons (ed_op (ed_var rfl dv4) ed_int (rd_ixT (d := .int (wn : Int)) rfl)) ea_nil) (by omega) X4.ok (fun G5 H5 X5 => ⟨p, xs, y3, y4, rfl, X5.gg _ _ hp, ?_⟩) (fun G5 H5 X5 k σ6 G6 H6 hk X6 P6 => ?_) (fun σ6 G6 H6 X6 P6 => ?_)
      · rw [show rowP ls wn hn j 0 = [] from rfl, List.append_nil]
        exact dpAll_mono X5.gg hx
      · obtain ⟨p, xs, y3, y4, rfl, hp, hx⟩ := P6
        have dv6 := dp_mono (X5.gg.trans X6.gg) dv4
        have rl := rowP_len ls wn hn j k
        have cl : (cpL ls wn k j).length ≤ 4 := by
          unfold cpL
          rw [List.length_map]
          exact parts_len _
        refine sq_set (ed_is (ed_op ed_int (ed_op (ed_op (ed_var rfl (.int (j : Int))) (ed_op (ed_var rfl dv6) ed_int (rd_ixT (d := .int (wn : Int)) rfl)) (rd_I (.inr ⟨by omega, by omega⟩))) (ed_var rfl (.int (k : Int))) rd_I0) (rd_I (.inl (by decide)))) (by rw [here_eq])) X6.ok (fun v7 G7 H7 X7 d7 => ?_)
        obtain rfl := dp_int d7
        replace hp := X7.gg _ _ hp
        replace hx := dpAll_mono X7.gg hx
        replace dv6 := dp_mono X7.gg dv6
        refine sq_setL (ef_catV rfl hp hx (ef_cells (ea_cons (ed_var rfl dv6) (ea_cons (ed_var rfl (.int (k : Int))) (ea_cons (ed_var rfl (.int (j : Int))) ea_nil))) hw) (by rw [List.length_map, List.length_map, List.length_append]; omega)) X7.ok (fun p8 G8 H8 L8 => ?_)
        have dv8 := dp_mono L8.x.gg dv6
        rw [← List.map_append] at L8
        have er : rgtL ls wn k j = if (decide ((k : Int) + 1 < (wn : Int)) && !decide ([(k : Int) + 1, (j : Int), 2] ∈ ls)) = true then [(hereN wn k j + 1, hereN wn k j + 4 + 3)] else [] := by
          unfold rgtL
          by_cases c1 : k + 1 < wn
          · by_cases c2 : [(k : Int) + 1, (j : Int), 2] ∈ ls
            · rw [if_neg (fun z => z.2 c2), decide_eq_true c2, Bool.not_true, Bool.and_false]
              rfl
            · rw [if_pos ⟨c1, c2⟩, decide_eq_false c2, decide_eq_true (show (k : Int) + 1 < (wn : Int) by omega)]
              rfl
          · rw [if_neg (fun z => c1 z.1), decide_eq_false (show ¬ (k : Int) + 1 < (wn : Int) by omega)]
            rfl
        have eb : belL ls wn hn k j = if (decide ((j : Int) + 1 < (hn : Int)) && !decide ([(k : Int), (j : Int) + 1, 0] ∈ ls)) = true then [(hereN wn k j + 2, hereN wn k j + 4 * wn)] else [] := by
          unfold belL
          by_cases c1 : j + 1 < hn
          · by_cases c2 : [(k : Int), (j : Int) + 1, 0] ∈ ls
            · rw [if_neg (fun z => z.2 c2), decide_eq_true c2, Bool.not_true, Bool.and_false]
              rfl
            · rw [if_pos ⟨c1, c2⟩, decide_eq_false c2, decide_eq_true (show (j : Int) + 1 < (hn : Int) by omega)]
              rfl
          · rw [if_neg (fun z => c1 z.1), decide_eq_false (show ¬ (j : Int) + 1 < (hn : Int) by omega)]
            rfl
        have eB : PyData.tuple [.int (((hereN wn k j : Nat) : Int) + 2), .int (((hereN wn k j : Nat) : Int) + 4 * (wn : Int))] = encP (hereN wn k j + 2, hereN wn k j + 4 * wn) := by
          show _ = PyData.tuple [.int ((hereN wn k j + 2 : Nat) : Int), .int ((hereN wn k j + 4 * wn : Nat) : Int)]
          rw [Int.natCast_add, Int.natCast_add, Int.natCast_mul]
          rfl
        have Y7 := X6.trans X7
        -- to the right
        refine sq_ifN (eb_and (eb_test (ed_op (ed_op (ed_var rfl (.int (k : Int))) ed_int rd_I0) (ed_op (ed_var rfl dv8) ed_int (rd_ixT (d := .int (wn : Int)) rfl)) rd_B0)) (fun _ => eb_test (ed_op (ed_tup (ea_cons (ed_op (ed_var rfl (.int (k : Int))) ed_int rd_I0) (ea_cons (ed_var rfl (.int (j : Int))) (ea_cons ed_int ea_nil))) (Nat.le_of_ble_eq_true rfl)) (ed_op (ed_var rfl dv8) ed_int (rd_ixT rfl)) (rd_notInT (a := [(k : Int) + 1, (j : Int), 2]))))) L8.x.ok (fun c9 G9 H9 X9 => ?_) (fun c9 G9 H9 X9 => ?_)
        focus
          rw [if_pos c9] at er
          have L9 := L8.step X9
          refine st_append rfl L9 (ed_is (ed_tup (ea_cons (ed_op (ed_var rfl (.int _)) ed_int rd_I0) (ea_cons (ed_op (ed_op (ed_var rfl (.int _)) ed_int rd_I0) ed_int rd_I0) ea_nil)) (Nat.le_of_ble_eq_true rfl)) (rfl : _ = encP (hereN wn k j + 1, hereN wn k j + 4 + 3))) (by rw [List.length_map, List.length_append, List.length_append]; omega) (fun GA HA LA _ => ?_)
          have dvA := dp_mono (LA.x.gg) dv6
          rw [show [encP (hereN wn k j + 1, hereN wn k j + 4 + 3)] = (rgtL ls wn k j).map encP by rw [er]; rfl, ← List.map_append] at LA
          have rgl : (rgtL ls wn k j).length ≤ 1 := by rw [er]; exact Nat.le_of_ble_eq_true rfl
          clear L9 X9 c9 er L8 dv8
        rotate_left
        focus
          rw [if_neg (by rw [c9]; exact Bool.false_ne_true)] at er
          have LA := L8.step X9
          have dvA := dp_mono (LA.x.gg) dv6
          rw [← List.append_nil (pairsN ls wn hn j ++ rowP ls wn hn j k ++ cpL ls wn k j), ← er] at LA
          have rgl : (rgtL ls wn k j).length ≤ 1 := by rw [er]; exact Nat.le_of_ble_eq_true rfl
          clear X9 c9 er L8 dv8
          revert LA dvA
          generalize G9 = GA
          generalize H9 = HA
          intro LA dvA
        all_goals
          refine st_ifD (eb_and (eb_test (ed_op (ed_op (ed_var rfl (.int (j : Int))) ed_int rd_I0) (ed_op (ed_var rfl dvA) ed_int (rd_ixT (d := .int (hn : Int)) rfl)) rd_B0)) (fun _ => eb_test (ed_op (ed_tup (ea_cons (ed_var rfl (.int (k : Int))) (ea_cons (ed_op (ed_var rfl (.int (j : Int))) ed_int rd_I0) (ea_cons ed_int ea_nil))) (Nat.le_of_ble_eq_true rfl)) (ed_op (ed_var rfl dvA) ed_int (rd_ixT rfl)) (rd_notInT (a := [(k : Int), (j : Int) + 1, 0]))))) LA.x.ok (fun cB GB HB XB => ?_) (fun cB GB HB XB => ?_)
          · rw [if_pos cB] at eb
            have LB := LA.step XB
            refine st_append rfl LB (ed_is (ed_tup (ea_cons (ed_op (ed_var rfl (.int _)) ed_int rd_I0) (ea_cons (ed_op (ed_var rfl (.int _)) (ed_op ed_int (ed_op (ed_var rfl (dp_mono XB.gg dvA)) ed_int (rd_ixT (d := .int (wn : Int)) rfl)) (rd_I (.inl (by decide)))) rd_I0) ea_nil)) (Nat.le_of_ble_eq_true rfl)) eB) (by rw [List.length_map, List.length_append, List.length_append, List.length_append]; omega) (fun GC HC LC _ => ?_)
            rw [show [encP (hereN wn k j + 2, hereN wn k j + 4 * wn)] = (belL ls wn hn k j).map encP by rw [eb]; rfl, ← List.map_append] at LC
            obtain ⟨GD, xs9, XD, _, hD, aD⟩ := LC.frz
            refine ⟨GD, Y7.trans XD, p8, xs9, _, _, rfl, hD, ?_⟩
            rw [rowP_succ]
            unfold cellN
            rw [← List.append_assoc, ← List.append_assoc, ← List.append_assoc]
            exact aD
          · rw [if_neg (by rw [cB]; exact Bool.false_ne_true)] at eb
            have LC := LA.step XB
            rw [← List.append_nil (pairsN ls wn hn j ++ rowP ls wn hn j k ++ cpL ls wn k j ++ rgtL ls wn k j), ← eb] at LC
            obtain ⟨GD, xs9, XD, _, hD, aD⟩ := LC.frz
            refine ⟨GD, Y7.trans XD, p8, xs9, _, _, rfl, hD, ?_⟩
            rw [rowP_succ]
            unfold cellN
            rw [← List.append_assoc, ← List.append_assoc, ← List.append_assoc]
            exact aD
      · obtain ⟨p, xs, y3, y4, rfl, hp, hx⟩ := P6
        refine ⟨G6, X4.trans X6, p, xs, _, _, _, rfl, hp, ?_⟩
        rw [pairsN_succ]
        exact hx
    · obtain ⟨p, xs, y2, y3, y4, rfl, hp, hx⟩ := P4
      have dv4 := dp_mono (X.gg.trans X4.gg) dv
      have em : (4 : Int) * (wn : Int) * (hn : Int) = ((4 * wn * hn : Nat) : Int) := by
        rw [Int.natCast_mul, Int.natCast_mul]
        rfl
      have pl := pairsN_len ls wn hn hw hn
      have m1 := Nat.mul_le_mul (Nat.mul_le_mul_left 4 hw) hh
      refine st_ret (ed_joined (ea_cons (ed_is (ed_op (ed_op ed_int (ed_op (ed_var rfl dv4) ed_int (rd_ixT (d := .int (wn : Int)) rfl)) (rd_I (.inl (by decide)))) (ed_op (ed_var rfl dv4) ed_int (rd_ixT (d := .int (hn : Int)) rfl)) (rd_I (.inr ⟨by omega, by omega⟩))) (by rw [em])) (ea_cons (ed_var rfl (.lst (SqL.of hp) hx)) ea_nil)) (by omega) (by omega) pairsN_lt) X4.ok (q.mono (X.trans X4))
theorem ed_panes {B : Bg} {G : Hp} {σ : L2.St} {tr : TA} {E : XK} {wn hn : Nat} {ls : List (List Int)} {g : PyData} (ha : EvA K B tr σ G [planD (wn : Int) (hn : Int) (.tuple (ls.map encT)) g]) (hw : wn ≤ 9) (hh : hn ≤ 9) : EvD K B (tCall (sp__law_panes K) [] E tr) σ G (.list ((panesL ls wn hn).map .int)) :=
  ed_call ha fun vs G2 H2 _ e dv Q q => by
    cases dv with
    | cons h a =>
      cases a
      exact ⟨B, G2, _, wn, hn, ls, g, e, rfl, h, hw, hh, q⟩
/-! _law_size -/
def is9 (d : PyData) : Prop := ∃ n : Int, d = .int n ∧ 1 ≤ n ∧ n ≤ 9
def sp__law_size (K : Fg) : Sp := fun vs H Q E => ∃ (b c : Addr) (G : Hp), Ok K (some (b, c)) G H ∧ vs = [.ref b] ∧ RetS K (some (b, c)) G H Q is9
abbrev N__law_size : List Str := ["_law_bag_here"]
theorem sc__law_size : FnScope N__law_size ["_law_bag_here"] (defScope s__law_size) := ⟨rfl, rfl, rfl, by decide +kernel, rfl, by decide +kernel, by decide +kernel⟩
theorem ok__law_size (T : Txt K mg) (G__law_pull : Good P w K mg base (L2N.CX P w) 1 "_law_pull" ["_law_bag_here", "_law_upto"] [] (sp__law_pull K)) : Good P w K mg base (L2N.CX P w) 2 "_law_size" ["_law_bag_here"] [] (sp__law_size K) := by
  obtain ⟨fd, F⟩ := T.c.def_ 40 (d := d__law_size) rfl
  have b : Binds K fd ["_law_bag_here"] [] := F.bindsN fun _ _ _ _ _ _ us hl => match us, hl with | [_], _ => rfl
  refine ⟨⟨fd, [], F.ok sc__law_size (fun vs H Q E h => ?_) (fun cdv A outer s H vs Q E hr h => ?_), .nil, b⟩, T.g__law_size, F.kp⟩
  · obtain ⟨b, c, G, e, rfl, _⟩ := h
    all_goals rfl
  · obtain ⟨b, c, G, e, rfl, q⟩ := h
    all_goals refine ⟨_, PSs.nox (pss_one (ps_ret (pe_op op_add pe_int (pe_own G__law_pull (hr.mono (by decide)) (by rfl) passLN (pa_cons (pv 0) (pa_cons (pe_ix (r := rIxL K) ix_list (pe_lst (pa_cons pe_int (pa_cons pe_int (pa_cons pe_int (pa_cons pe_int pa_nil))))) (pe_own G__law_pull (hr.mono (by decide)) (by rfl) passLN (pa_cons (pv 0) (pa_cons pe_int pa_nil))) (fun _ _ => rfl)) pa_nil)))))), ?_⟩
    refine es_op (S := is9) (EvD.toS (S := fun d => d = .int 1) ed_int rfl) (es_pullS (M := 9) rfl (es_op (S := fun d => ∃ u : Int, d = .int u ∧ 0 < u ∧ u ≤ 9) (EvD.toS (S := fun d => d = .list [.int 2, .int 4, .int 4, .int 9]) (ed_lst (ea_cons ed_int (ea_cons ed_int (ea_cons ed_int (ea_cons ed_int ea_nil)))) (Nat.le_of_ble_eq_true rfl)) rfl) (es_pull (u := 4) rfl ed_int (by decide) (by decide)) ?_) (fun d h => h) (by decide)) ?_ H e _ q
    · rintro x y rfl ⟨n, rfl, h0, h1⟩
      have : n = 0 ∨ n = 1 ∨ n = 2 ∨ n = 3 := by omega
      rcases this with rfl | rfl | rfl | rfl
      · exact ⟨_, ⟨2, rfl, by decide, by decide⟩, rd_ixL rfl⟩
      · exact ⟨_, ⟨4, rfl, by decide, by decide⟩, rd_ixL rfl⟩
      · exact ⟨_, ⟨4, rfl, by decide, by decide⟩, rd_ixL rfl⟩
      · exact ⟨_, ⟨9, rfl, by decide, by decide⟩, rd_ixL rfl⟩
    · rintro x y rfl ⟨n, rfl, h0, h1⟩
      exact ⟨_, ⟨1 + n, rfl, by omega, by omega⟩, rd_I0⟩
theorem es_size {b c : Addr} {i : Nat} {σ : L2.St} {G : Hp} {E : XK} (hσ : σ[i]? = some (some (.ref b))) : EvS K (some (b, c)) (tCall (sp__law_size K) [] E (tCons (tVar i) tNil)) σ G is9 := fun H e Q q =>
  ⟨.ref b, hσ, b, c, G, e, rfl, q⟩
/-! _law_some -/
def intsT (gl : List Int) : PyData := .tuple (gl.map .int)
def overN : List Int → Option (List Int)
  | [x, y, t] => if t % 2 = 0 then none else some [x + 2 - t, y, 4 - t]
  | _ => none
theorem over_eq (x y t : Int) : overL x y t = match overN [x, y, t] with | none => .none | some l => encT l := by
  by_cases c : t % 2 = 0
  · have e1 : overN [x, y, t] = none := if_pos c
    rw [e1]
    exact if_pos c
  · have e1 : overN [x, y, t] = some [x + 2 - t, y, 4 - t] := if_neg c
    rw [e1]
    exact if_neg c
structure FoundOk (w h : Int) (fs : List (List Int)) : Prop where
  sub : ∀ l ∈ fs, l ∈ withinL w h
  nd : fs.Nodup
  ov : ∀ l ∈ fs, ∀ m, overN l = some m → m ∉ fs
theorem within_mem {w h : Int} {l : List Int} (hw : 0 ≤ w) (hh : 0 ≤ h) (hl : l ∈ withinL w h) : ∃ x y t : Int, l = [x, y, t] ∧ (0 ≤ x ∧ x ≤ w) ∧ (0 ≤ y ∧ y ≤ h) ∧ (0 ≤ t ∧ t ≤ 3) ∧ onL w h (x + dxL t) (y + dyL t) = true := allL_mem hw hh (List.mem_filter.mp hl).1
theorem FoundOk.app {w h : Int} {fs : List (List Int)} {l : List Int} (hw : 0 ≤ w) (hh : 0 ≤ h) (f : FoundOk w h fs) (hl : l ∈ withinL w h) (h3 : ∃ x y t : Int, l = [x, y, t]) (h1 : l ∉ fs) (h2 : ∀ m, overN l = some m → m ∉ fs) : FoundOk w h (fs ++ [l]) := by
  obtain ⟨x, y, t, rfl⟩ := h3
  refine ⟨fun k hk => ?_, ?_, fun k hk m e hm => ?_⟩
  · rcases mem_or hk with hk | hk
    · exact f.sub k hk
    · rw [mem_1 hk]
      exact hl
  · refine List.nodup_append.mpr ⟨f.nd, List.pairwise_singleton _ _, fun a ha b hb c => ?_⟩
    rw [c, List.mem_singleton.mp hb] at ha
    exact h1 ha
  · rcases mem_or hk with hk | hk
    · rcases mem_or hm with hm | hm
      · exact f.ov k hk m e hm
      · obtain rfl := mem_1 hm
        refine h2 k ?_ hk
        obtain ⟨a, b, s, rfl, _⟩ := within_mem hw hh (f.sub k hk)
        have e0 : (if s % 2 = 0 then none else some [a + 2 - s, b, 4 - s]) = some [x, y, t] := e
        by_cases c : s % 2 = 0
        · rw [if_pos c] at e0
          cases e0
        · rw [if_neg c] at e0
          have e' := Option.some.inj e0
          injection e' with e1 e2
          injection e2 with e2 e3
          injection e3 with e3 _
          subst e1 e2 e3
          show (if (4 - s) % 2 = 0 then none else some [a + 2 - s + 2 - (4 - s), b, 4 - (4 - s)]) = some [a, b, s]
          rw [if_neg (by omega)]
          have i1 : a + 2 - s + 2 - (4 - s) = a := by omega
          have i2 : 4 - (4 - s) = s := by omega
          rw [i1, i2]
    · obtain rfl := mem_1 hk
      rcases mem_or hm with hm | hm
      · exact h2 m e hm
      · obtain rfl := mem_1 hm
        have e' : (if t % 2 = 0 then none else some [x + 2 - t, y, 4 - t]) = some [x, y, t] := e
        by_cases c : t % 2 = 0
        · rw [if_pos c] at e'
          cases e'
        · rw [if_neg c] at e'
          have e2 := Option.some.inj e'
          injection e2 with _ e2
          injection e2 with _ e2
          injection e2 with e2 _
          omega
def isPlan (w h : Int) (ls : List (List Int)) (g d : PyData) : Prop := ∃ fs, FoundOk w h fs ∧ (∀ l ∈ ls, l ∈ fs) ∧ d = planD w h (.tuple ((srtL fs).map encT)) g
def sp__law_some (K : Fg) : Sp := fun vs H Q E => ∃ (b c : Addr) (G : Hp) (v : V) (w h : Int) (ls : List (List Int)) (g : PyData) (m : Nat), Ok K (some (b, c)) G H ∧ vs = [.ref b, v, .int (m : Int)] ∧ Dp K G v (planD w h (.tuple (ls.map encT)) g) ∧ Gk K G v (planD w h (.tuple (ls.map encT)) g) ∧ (1 ≤ w ∧ w ≤ 9) ∧ (1 ≤ h ∧ h ≤ 9) ∧ m ≤ 1000 ∧ FoundOk w h ls ∧ ls.length ≤ 1000 ∧ RetSW K (some (b, c)) G H Q (isPlan w h ls g) (Gk K)
theorem eqv_nil (ls : List (List Int)) : PyData.eqv (.list (ls.map encT)) (.list []) = decide (ls = []) := by
  cases ls with
  | nil => simp [PyData.eqv, PyData.eqvAll]
  | cons l ls => simp [PyData.eqv, PyData.eqvAll]
theorem rd_notInO {B : Bg} {G : Hp} {fs : List (List Int)} {x y t : Int} : RvD K B (rNotInD K) G (overL x y t) (.list (fs.map encT)) (.bool (match overN [x, y, t] with | none => true | some l => !decide (l ∈ fs))) := fun u v G2 H2 _ e du dv Q q => by
  rw [over_eq] at du
  cases ho : overN [x, y, t] with
  | none =>
    rw [ho] at du q
    refine ⟨.none, fs.map encT, dp_mono e.e du, dp_mono e.e dv, shp_none, shp_encsL fs, ?_⟩
    rw [Lw.any_non]
    exact q.here e (.bl _)
  | some l =>
    rw [ho] at du q
    refine ⟨encT l, fs.map encT, dp_mono e.e du, dp_mono e.e dv, shp_enc l, shp_encsL fs, ?_⟩
    rw [any_enc]
    exact q.here e (.bl _)
theorem rd_notInE {B : Bg} {G : Hp} {fs : List (List Int)} {l : List Int} : RvD K B (rNotInD K) G (encT l) (.list (fs.map encT)) (.bool (!decide (l ∈ fs))) := fun u v G2 H2 _ e du dv Q q =>
  ⟨encT l, fs.map encT, dp_mono e.e du, dp_mono e.e dv, shp_enc l, shp_encsL fs, by rw [any_enc]; exact q.here e (.bl _)⟩
abbrev N__law_some : List Str := ["_law_bag_here", "_law_plan_here", "_law_many", "_law_found", "_law_good", "_law_k", "_law_name_here"]
theorem sc__law_some : FnScope N__law_some ["_law_bag_here", "_law_plan_here", "_law_many"] (defScope s__law_some) := ⟨rfl, rfl, rfl, by decide +kernel, rfl, by decide +kernel, by decide +kernel⟩
theorem ok__law_some (T : Txt K mg) (G__law_within : Good P w K mg base (L2N.CX P w) 4 "_law_within" ["_law_plan_here"] [] (sp__law_within K)) (G__law_pull : Good P w K mg base (L2N.CX P w) 1 "_law_pull" ["_law_bag_here", "_law_upto"] [] (sp__law_pull K)) (G__law_over : Good P w K mg base (L2N.CX P w) 1 "_law_over" ["_law_name_here"] [] (sp__law_over K)) : Good P w K mg base (L2N.CX P w) 5 "_law_some" ["_law_bag_here", "_law_plan_here", "_law_many"] [] (sp__law_some K) := by
  obtain ⟨fd, F⟩ := T.c.def_ 41 (d := d__law_some) rfl
  have b : Binds K fd ["_law_bag_here", "_law_plan_here", "_law_many"] [] := F.bindsN fun _ _ _ _ _ _ us hl => match us, hl with | [_, _, _], _ => rfl
  refine ⟨⟨fd, [], F.ok sc__law_some (fun vs H Q E h => ?_) (fun cdv A outer s H vs Q E hr h => ?_), .nil, b⟩, T.g__law_some, F.kp⟩
  · obtain ⟨b, c, G, v, w, h, ls, g, m, e, rfl, _⟩ := h
    all_goals rfl
  · obtain ⟨b, c, G, v, wd, ht, ls, g, many, e, rfl, dv, gk, hw, hh, hm, hf, hl, q⟩ := h
    all_goals refine ⟨_, PSs.nox (pss_cons (ps_set (i := 3) sc__law_some.nd rfl (Or.inl rfl) (pe_callTy (r := rListS K) call_list_of (by rfl) T.f_list (by decide +kernel) (pa_cons (pe_ix (r := rIxT K) ix_tup (pv 1) pe_int (fun _ _ => rfl)) pa_nil))) (pss_cons (ps_set (i := 4) sc__law_some.nd rfl (Or.inl rfl) (pe_own G__law_within (hr.mono (by decide)) (by rfl) passLN (pa_cons (pv 1) pa_nil))) (pss_cons (ps_for PassesOwn.never rfl (pi_range1 (by rfl) T.f_range (pa_cons (pv 2) pa_nil)) (pg_name (i := 5) sc__law_some.nd rfl (Or.inl rfl)) (pss_one (ps_if (pt_cmpR (r := rNeD K) (op_neD hr.units) (pv 4) (pe_lst pa_nil) (nomark _)) (pss_cons (ps_set (i := 6) sc__law_some.nd rfl (Or.inl rfl) (pe_ix (r := rIxL K) ix_list (pv 4) (pe_own G__law_pull (hr.mono (by decide)) (by rfl) passLN (pa_cons (pv 0) (pa_cons (pe_callB (r := rLenS K) call_len_seq (by rfl) T.f_len (by decide +kernel) (pa_cons (pv 4) pa_nil)) pa_nil))) (fun _ _ => rfl))) (pss_one (ps_if (PW.pt (pw_and (pt_cmpR (r := rNotInD K) (op_notInD (hu65 hr)) (pv 6) (pv 3) (by rfl)) (pw_and1 (pt_cmpR (r := rNotInD K) (op_notInD (hu65 hr)) (pe_own G__law_over (hr.mono (by decide)) (by rfl) passLN (pa_cons (pv 6) pa_nil)) (pv 3) (by rfl))))) (pss_one (ps_expr (pe_bm PySem.F.plainAttrs_list PySem.F.slot_list_append PySem.F.type_list_append mt_append (pv 3) (pa_cons (pv 6) pa_nil)))) pss_nil))) pss_nil))) (pss_one (ps_ret (pe_op (r := rCatT K) op_catT (pe_op (r := rCatT K) op_catT (pe_slice (r := rSlT K) sl_tup (pv 1) po_none (po_some pe_int)) (pe_tup (pa_cons (pe_callTy (r := rTupS K) call_tuple_of (by rfl) T.f_tuple (by decide +kernel) (pa_cons (pe_callB (r := rSortedL K) cr_sortedL (by rfl) T.f_sorted (by decide +kernel) (pa_cons (pv 3) pa_nil)) pa_nil)) pa_nil))) (pe_slice (r := rSlT K) sl_tup (pv 1) (po_some pe_int) po_none))))))), ?_⟩
    refine sq_setL (ed_listOfT (ed_op (ed_var rfl dv) ed_int (rd_ixT rfl))) e (fun p G2 H2 L2' => ?_)
    refine sq_set (ed_within (ea_cons (ed_var rfl (dp_mono L2'.x.gg dv)) ea_nil) hw hh) L2'.x.ok (fun v4 G4 H4 X4 d4 => ?_)
    have L4 := L2'.step X4
    refine sq_forR0 (n := many) (Pv := fun j σ' H' => ∃ fs G' y5 y6, σ' = [some (.ref b), some v, some (.int (many : Int)), some (.ref p), some v4, y5, y6] ∧ Loo K (some (b, c)) G H G' H' p (fs.map encT) ∧ Ex G4 G' ∧ FoundOk wd ht fs ∧ (∀ l ∈ ls, l ∈ fs) ∧ fs.length ≤ 1000 + j) (ea_cons (ed_var rfl (.int (many : Int))) ea_nil) (by omega) L4.x.ok (fun G5 H5 X5 => ⟨ls, G5, none, none, rfl, L4.step X5, X5.gg, hf, fun _ h => h, hl⟩) (fun j σ6 H6 hj P6 => ?_) (fun σ6 H6 P6 => ?_)
    · obtain ⟨fs, G6, y5, y6, rfl, L6, e6, f6, s6, l6⟩ := P6
      have d6 := dp_mono e6 d4
      refine st_ifD (eb_test (ed_op (ed_var rfl d6) (ed_lst ea_nil (Nat.le_of_ble_eq_true rfl)) (rd_neD (shp_encsL _) rfl))) L6.x.ok (fun k G7 H7 X7 => ?_) (fun k G7 H7 X7 => ⟨fs, G7, _, _, rfl, L6.step X7, e6.trans X7.gg, f6, s6, by omega⟩)
      have ne : withinL wd ht ≠ [] := fun z => by
        rw [eqv_nil, decide_eq_true z] at k
        cases k
      have pos : 0 < (withinL wd ht).length := List.length_pos_iff.mpr ne
      have wl : (withinL wd ht).length ≤ 400 := Nat.le_trans (List.length_filter_le _ _) (allL_len hw hh)
      have d7 := dp_mono X7.gg d6
      refine sq_setS (S := fun d => ∃ l ∈ withinL wd ht, d = encT l) (es_op (EvD.toS (S := fun d => d = .list ((withinL wd ht).map encT)) (ed_var rfl d7) rfl) (es_pull (u := ((withinL wd ht).length : Int)) rfl (ed_is (ed_len (ed_var rfl d7) rfl) (by rw [List.length_map])) (by omega) (by omega)) ?_) X7.ok (fun d8 v8 G8 H8 s8 X8 dv8 => ?_)
      · rintro x y rfl ⟨n, rfl, h0, h1⟩
        obtain ⟨i, rfl⟩ : ∃ i : Nat, n = (i : Int) := ⟨n.toNat, by omega⟩
        have hn : i < (withinL wd ht).length := by omega
        refine ⟨encT (withinL wd ht)[i], ⟨_, List.getElem_mem hn, rfl⟩, rd_ixL (atI_nat ?_)⟩
        rw [List.getElem?_map, List.getElem?_eq_getElem hn]
        rfl
      · obtain ⟨l, ml, rfl⟩ := s8
        have L8 := (L6.step X7).step X8
        obtain ⟨x, y, t, rfl, _⟩ := within_mem (by omega) (by omega) ml
        refine sq_ifL (w := tNext) L8 (b := (!decide ([x, y, t] ∈ fs)) && (match overN [x, y, t] with | none => true | some l => !decide (l ∈ fs))) (fun G9 e9 d9 => eb_and (eb_test (ed_op (ed_var rfl (dp_mono e9 dv8)) (ed_var rfl d9) rd_notInE)) (fun _ => eb_test (ed_op (ed_over (ea_cons (ed_var rfl (dp_mono e9 dv8)) ea_nil)) (ed_var rfl d9) rd_notInO))) (fun k9 G9 H9 L9 e9 => ?_) (fun k9 G9 H9 L9 e9 => ⟨fs, G9, _, _, rfl, L9, (e6.trans (X7.gg.trans X8.gg)).trans e9, f6, s6, by omega⟩)
        obtain ⟨k1, k2⟩ := Bool.and_eq_true_iff.mp k9
        have n1 : [x, y, t] ∉ fs := by
          rw [Bool.not_eq_true'] at k1
          exact of_decide_eq_false k1
        have n2 : ∀ m, overN [x, y, t] = some m → m ∉ fs := fun m em => by
          rw [em] at k2
          have k3 : (!decide (m ∈ fs)) = true := k2
          rw [Bool.not_eq_true'] at k3
          exact of_decide_eq_false k3
        refine st_append rfl L9 (ed_var rfl (dp_mono e9 dv8)) (by rw [List.length_map]; omega) (fun GA HA LA eA => ?_)
        exact ⟨fs ++ [[x, y, t]], GA, _, _, rfl, by rw [List.map_append]; exact LA, ((e6.trans (X7.gg.trans X8.gg)).trans e9).trans eA, f6.app (by omega) (by omega) ml ⟨x, y, t, rfl⟩ n1 n2, fun k hk => List.mem_append_left _ (s6 k hk), by rw [List.length_append, List.length_singleton]; omega⟩
    · obtain ⟨fs, G6, y5, y6, rfl, L6, e6, f6, s6, l6⟩ := P6
      obtain ⟨G7, xs, X7, e7, h7, a7⟩ := L6.frz
      have dv7 := dp_mono ((L2'.x.gg.trans X4.gg).trans (e6.trans e7)) dv
      have ne : ∀ l ∈ fs, l ≠ [] := fun l hl z => by
        obtain ⟨x, y, t, e0, _⟩ := within_mem (w := wd) (h := ht) (by omega) (by omega) (f6.sub l hl)
        rw [z] at e0
        cases e0
      have gk7 := gk.mono ((L2'.x.gg.trans X4.gg).trans (e6.trans e7))
      refine st_retW (S := isPlan wd ht ls g) ((ek_cat (ds := [.int wd, .int ht, .tuple ((srtL fs).map encT)]) (R := fun es => es = [g]) (ed_op (ed_slT (ed_var rfl dv7) eo_none (eo_some ed_int) (fun h => absurd h.2 (by show ¬ HT.sIx 4 4 (some 2) = 4; decide))) (ed_tup (ea_cons (ed_tupOf (EvF.ed (ef_sorted (ed_var rfl (.lst (SqL.of h7) a7)) ne))) ea_nil) (Nat.le_of_ble_eq_true rfl)) (rd_catT (by intro z; cases z) (by intro z; cases z) (Nat.le_of_ble_eq_true rfl))) ((ek_sl (ds := [.int wd, .int ht, .tuple (ls.map encT), g]) (n := 3) (ds' := [g]) rfl gk7 (by decide) (by show 3 < 4; decide) rfl).to fun d z => ⟨[g], z, rfl⟩) (List.cons_ne_nil _ _) (fun es z => by subst z; exact Nat.le_of_ble_eq_true rfl)).to fun d z => ?_) X7.ok (q.mono X7)
      obtain ⟨es, rfl, rfl⟩ := z
      exact ⟨fs, f6, s6, rfl⟩
/-! _law_glass -/
def okGl (ls : List (List Int)) (w h : Nat) (gl gl' : List Int) : Prop := gl' = gl ∨ ∃ col : Int → Int, (∀ m ∈ panesL ls w h, 0 ≤ col m ∧ col m ≤ 9) ∧ gl' = (panesL ls w h).map col
def isGlazed (w h : Nat) (ls : List (List Int)) (gl : List Int) (d : PyData) : Prop := ∃ gl', okGl ls w h gl gl' ∧ d = planD (w : Int) (h : Int) (.tuple (ls.map encT)) (intsT gl')
def sp__law_glass (K : Fg) : Sp := fun vs H Q E => ∃ (b c : Addr) (G : Hp) (v : V) (w h : Nat) (ls : List (List Int)) (gl : List Int), Ok K (some (b, c)) G H ∧ vs = [.ref b, v] ∧ Dp K G v (planD (w : Int) (h : Int) (.tuple (ls.map encT)) (intsT gl)) ∧ Gk K G v (planD (w : Int) (h : Int) (.tuple (ls.map encT)) (intsT gl)) ∧ w ≤ 9 ∧ h ≤ 9 ∧ RetSW K (some (b, c)) G H Q (isGlazed w h ls gl) (Gk K)
theorem st_ifS {B : Bg} {G H : Hp} {σ : L2.St} {te : TE} {t u : TS} {D : Ends} (h : EvS K B te σ G fun d => ∃ k, d = .bool k) (e : Ok K B G H) (k1 : ∀ G2 H2, Ext K B G H G2 H2 → t D σ H2) (k2 : ∀ G2 H2, Ext K B G H G2 H2 → u D σ H2) : tIfS (tTest te) t u D σ H := h H e _ fun d v G2 H2 s X dv => by
  obtain ⟨k, rfl⟩ := s
  refine ⟨k, dp_bl dv, ?_⟩
  cases k with
  | true => exact k1 G2 H2 X
  | false => exact k2 G2 H2 X
theorem putK_len (kvs : List (L2.Key × V)) (k : L2.Key) (v : V) : (putK kvs k v).length ≤ kvs.length + 1 := by
  unfold putK
  split
  · rw [List.length_map]
    exact Nat.le_succ _
  · rw [List.length_append]
    exact Nat.le_refl _
def colOf (kvs : List (L2.Key × V)) (m : Int) : Int := match valV kvs (Sum.inl m) with
  | some (.int c) => c
  | _ => 0
theorem dye_map (kvs : List (L2.Key × V)) (ls : List Int) : (ls.map PyData.int).filterMap (fun d => match d with | .int m => some (.int (colOf kvs m)) | _ => none) = (ls.map (colOf kvs)).map PyData.int := by
  induction ls with
  | nil => rfl
  | cons l ls ih => rw [List.map_cons, List.filterMap_cons, ih]; rfl
abbrev N__law_glass : List Str := ["_law_bag_here", "_law_plan_here", "_law_labels", "_law_dyes", "_law_mark"]
theorem sc__law_glass : FnScope N__law_glass ["_law_bag_here", "_law_plan_here"] (defScope s__law_glass) := ⟨rfl, rfl, rfl, by decide +kernel, rfl, by decide +kernel, by decide +kernel⟩
theorem ok__law_glass (T : Txt K mg) (G__law_pull : Good P w K mg base (L2N.CX P w) 1 "_law_pull" ["_law_bag_here", "_law_upto"] [] (sp__law_pull K)) (G__law_panes : Good P w K mg base (L2N.CX P w) 3 "_law_panes" ["_law_plan_here"] [] (sp__law_panes K)) : Good P w K mg base (L2N.CX P w) 4 "_law_glass" ["_law_bag_here", "_law_plan_here"] [] (sp__law_glass K) := by
  obtain ⟨fd, F⟩ := T.c.def_ 42 (d := d__law_glass) rfl
  have b : Binds K fd ["_law_bag_here", "_law_plan_here"] [] := F.bindsN fun _ _ _ _ _ _ us hl => match us, hl with | [_, _], _ => rfl
  refine ⟨⟨fd, [], F.ok sc__law_glass (fun vs H Q E h => ?_) (fun cdv A outer s H vs Q E hr h => ?_), .nil, b⟩, T.g__law_glass, F.kp⟩
  · obtain ⟨b, c, G, v, w, h, ls, gl, e, rfl, _⟩ := h
    all_goals rfl
  · obtain ⟨b, c, G, v, wn, hn, ls, gl, e, rfl, dv, gk, hw, hh, q⟩ := h
    all_goals refine ⟨_, PSs.nox (pss_cons (ps_if (pt_cmpR op_eq (pe_own G__law_pull (hr.mono (by decide)) (by rfl) passLN (pa_cons (pv 0) (pa_cons pe_int pa_nil))) pe_int (nomark _)) (pss_one (ps_ret (pv 1))) pss_nil) (pss_cons (ps_set (i := 2) sc__law_glass.nd rfl (Or.inl rfl) (pe_own G__law_panes (hr.mono (by decide)) (by rfl) passLN (pa_cons (pv 1) pa_nil))) (pss_cons (ps_set (i := 3) sc__law_glass.nd rfl (Or.inr rfl) pe_dnewK) (pss_cons (ps_for PassesOwn.never rfl (pi_list (pe_callB (r := rSortI1 w) (cr_sortI1 rfl) (by rfl) T.f_sorted (by decide +kernel) (pa_cons (pe_callTy (r := rSetI K w) (cr_setI rfl) (by rfl) T.f_set (by decide +kernel) (pa_cons (pv 2) pa_nil)) pa_nil))) (pg_name (i := 4) sc__law_glass.nd rfl (Or.inl rfl)) (pss_one (ps_dput (hu_of hr) (pv 3) (pv 4) (pe_ix (r := rIxL K) ix_list (pe_lst (pa_cons pe_int (pa_cons (pe_op op_add pe_int (pe_own G__law_pull (hr.mono (by decide)) (by rfl) passLN (pa_cons (pv 0) (pa_cons pe_int pa_nil)))) (pa_cons (pe_op op_add pe_int (pe_own G__law_pull (hr.mono (by decide)) (by rfl) passLN (pa_cons (pv 0) (pa_cons pe_int pa_nil)))) pa_nil)))) (pe_own G__law_pull (hr.mono (by decide)) (by rfl) passLN (pa_cons (pv 0) (pa_cons pe_int pa_nil))) (fun _ _ => rfl)) rfl))) (pss_one (ps_ret (pe_op (r := rCatT K) op_catT (pe_slice (r := rSlT K) sl_tup (pv 1) po_none (po_some pe_int)) (pe_tup (pa_cons (pe_callTy (r := rTupK K) cr_tupK (by rfl) T.f_tuple (by decide +kernel) (pa_cons (pe_lc (own := [("_law_mark", 4)]) (g := gName 4) rfl sc__law_glass.nd (pi_list (pv 2)) (blkOk_by (own := [("_law_mark", 4)]) (N := N__law_glass) (sc := defScope s__law_glass) (by decide +kernel)) (fun _ _ _ _ _ => (pg_name (i := 4) sc__law_glass.nd rfl (Or.inl rfl))) (fun _ _ _ _ _ => pts_nil) (fun _ _ _ _ _ => (pe_dget (hu_of hr) (pv 3) (pv 4) (fun _ _ => rfl)))) pa_nil)) pa_nil))))))))), ?_⟩
    refine st_ifS (t := tRet (tVar 1)) (es_op (S := fun d => ∃ k, d = .bool k) (es_pull (u := 3) rfl ed_int (by decide) (by decide)) (EvD.toS (S := fun d => d = .int 0) ed_int rfl) ?_) e (fun G2 H2 X => ?_) (fun G2 H2 X => ?_)
    · rintro x y ⟨n, rfl, _⟩ rfl
      exact ⟨_, ⟨_, rfl⟩, rd_eq rfl⟩
    · exact ⟨v, rfl, q _ v G2 H2 ⟨gl, .inl rfl, rfl⟩ X (dp_mono X.gg dv) (gk.mono X.gg)⟩
    replace dv := dp_mono X.gg dv
    show tSeq _ _ _ _ _
    refine sq_set (ed_panes (ea_cons (ed_var rfl dv) ea_nil) hw hh) X.ok (fun v2 G3 H3 X3 d3 => ?_)
    obtain ⟨a2, xs2, rfl, hs2, hx2⟩ := dp_lst d3
    obtain rfl := dpAll_intsV hx2
    have plen : (panesL ls wn hn).length = 4 * wn * hn := joined_len _ _
    have m1 := Nat.mul_le_mul (Nat.mul_le_mul_left 4 hw) hh
    generalize hlb : panesL ls wn hn = lb at d3 hs2 hx2 plen
    intro p hp
    have X4 := (X.trans X3)
    have np := X4.ok.b.ne hp
    have D4 : LoD K (some (b, c)) G H G3 (upd H3 p (.dK [])) p [] := ⟨X4.trans (Ext.loose X4.ok hp), X4.old np hp, X4.ok.e.off hp, np, upd_same⟩
    have s2 := ex_l D4.x.ok.e hs2
    refine ⟨.ref a2, rfl, a2, lb, rfl, s2, by omega, fun sa n hsa hn' => ⟨sa, _, n, rfl, upd_same, by omega, fun ns pa srt mem nlen hpa => ?_⟩⟩
    have D5 := D4.step (Ext.loose (o := SetO w sa (fun j => decide (j ∈ lb)) n) D4.x.ok hsa)
    have D6 := D5.step (Ext.new (o := .lst (ns.map V.int)) D5.x.ok hpa)
    have e6 : Ex G3 (upd G3 pa (.lst (ns.map V.int))) := Ex.new (D5.x.ok.e.off hpa)
    have h6 : (upd G3 pa (.lst (ns.map V.int))) pa = some (.lst (ns.map V.int)) := upd_same
    generalize (upd G3 pa (.lst (ns.map V.int))) = G6 at D6 e6 h6
    refine ⟨pa, rfl, ⟨_, SqL.of upd_same⟩, for_list (K := K) (a := pa) (xs := ns.map V.int) (fun j σ' H' => ∃ G' kvs y4, σ' = [some (.ref b), some v, some (.ref a2), some (.ref p), y4] ∧ LoD K (some (b, c)) G H G' H' p kvs ∧ Ex G6 G' ∧ (∀ m ∈ ns.take j, ∃ k, valV kvs (Sum.inl m) = some (.int k) ∧ 0 ≤ k ∧ k ≤ 9) ∧ kvs.length ≤ j) ⟨G6, [], none, rfl, D6, Ex.refl _, (fun m hm => by cases hm), Nat.le_refl _⟩ ?_ ?_ ?_⟩
    · rintro j σ' H' _ ⟨G', kvs, y4, _, D7, e7, _⟩
      exact SqL.of (D7.x.ok.e _ _ (e7 _ _ h6))
    · rintro j y σ' H' hj ⟨G', kvs, y4, rfl, D7, e7, m7, l7⟩
      obtain ⟨mk, hmk, rfl⟩ : ∃ mk, ns[j]? = some mk ∧ y = V.int mk := by
        rw [List.getElem?_map] at hj
        cases ej : ns[j]? with
        | none =>
          rw [ej] at hj
          cases hj
        | some z =>
          rw [ej] at hj
          exact ⟨z, rfl, (Option.some.inj hj).symm⟩
      have one : ∀ {σ : L2.St} {G' : Hp} {u : Int}, σ[0]? = some (some (.ref b)) → 0 < u → u ≤ 9 → EvS K (some (b, c)) (tOp (rI0 fun i j => .int (i + j)) (tC (.int 1)) (tCall (sp__law_pull K) [] E0 (tCons (tVar 0) (tCons (tC (.int u)) tNil)))) σ G' is9 := fun {σ G' u} hσ h0 h9 => es_op (EvD.toS (S := fun d => d = .int 1) ed_int rfl) (es_pull (u := u) hσ ed_int h0 (by omega)) (by
        rintro x y rfl ⟨n, rfl, k0, k1⟩
        exact ⟨_, ⟨1 + n, rfl, by omega, by omega⟩, rd_I0⟩)
      refine es_op (S := fun d => ∃ k : Int, d = .int k ∧ 0 ≤ k ∧ k ≤ 9) (es_lst (S := fun ds => ∃ k1 k2 : Int, ds = [.int 0, .int k1, .int k2] ∧ (1 ≤ k1 ∧ k1 ≤ 9) ∧ (1 ≤ k2 ∧ k2 ≤ 9)) (eas_cons (EvD.toS (S := fun d => d = .int 0) ed_int rfl) (fun d0 hd0 => eas_cons (one rfl (by decide) (by decide)) (fun d1 hd1 => eas_cons (one rfl (by decide) (by decide)) (fun d2 hd2 => eas_nil ?_)))) (fun ds hds => ?_)) (es_pull (u := 3) rfl ed_int (by decide) (by decide)) ?_ H' D7.x.ok _ (fun d v8 G8 H8 s8 X8 dv8 => ?_)
      · subst hd0
        obtain ⟨k1, rfl, i1, i2⟩ := hd1
        obtain ⟨k2, rfl, i3, i4⟩ := hd2
        exact ⟨k1, k2, rfl, ⟨i1, i2⟩, i3, i4⟩
      · obtain ⟨k1, k2, rfl, _⟩ := hds
        exact Nat.le_of_ble_eq_true rfl
      · rintro x y ⟨ds, rfl, k1, k2, rfl, i1, i2⟩ ⟨n, rfl, h0, h1⟩
        have : n = 0 ∨ n = 1 ∨ n = 2 := by omega
        rcases this with rfl | rfl | rfl
        · exact ⟨_, ⟨0, rfl, by omega, by omega⟩, rd_ixL rfl⟩
        · exact ⟨_, ⟨k1, rfl, by omega, by omega⟩, rd_ixL rfl⟩
        · exact ⟨_, ⟨k2, rfl, by omega, by omega⟩, rd_ixL rfl⟩
      · obtain ⟨k, rfl, k0, k9⟩ := s8
        obtain rfl := dp_int dv8
        have D8 := D7.step X8
        have jl : j < ns.length := (List.getElem?_eq_some_iff.mp hmk).1
        refine ⟨.ref p, rfl, .int mk, rfl, p, _, rfl, DPut.k (k := Sum.inl mk) D8.h ?_, ?_⟩
        · exact szl (by omega)
        · refine ⟨G8, _, _, rfl, D8.put _, e7.trans X8.gg, fun m hm => ?_, Nat.le_trans (putK_len _ _ _) (Nat.succ_le_succ l7)⟩
          rw [List.take_add_one, hmk] at hm
          rw [valV_put]
          by_cases em : m = mk
          · rw [if_pos (by rw [em])]
            exact ⟨k, rfl, k0, k9⟩
          · rw [if_neg (fun z => em (Sum.inl.inj z))]
            rcases mem_or hm with hm | hm
            · exact m7 m hm
            · exact absurd (List.mem_singleton.mp hm) em
    · rintro σ' H' ⟨G', kvs, y4, rfl, D7, e7, m7, l7⟩
      rw [List.length_map, List.take_length] at m7
      have X8 := D7.frz
      have g8 : Ex G' (upd G' p (.dK kvs)) := Ex.new D7.g
      have h8 : (upd G' p (.dK kvs)) p = some (.dK kvs) := upd_same
      generalize (upd G' p (.dK kvs)) = G8 at X8 g8 h8
      have eg := ((e6.trans e7).trans g8)
      have dv8 := dp_mono (X3.gg.trans eg) dv
      have d8 := dp_mono eg d3
      have hc : ∀ m ∈ lb, ∃ k, valV kvs (Sum.inl m) = some (.int k) ∧ 0 ≤ k ∧ k ≤ 9 := fun m hm => m7 m ((mem m).mpr (decide_eq_true hm))
      dsimp only
      refine st_retW (S := isGlazed wn hn ls gl) ((ek_cat (ds := [.int (wn : Int), .int (hn : Int), .tuple (ls.map encT)]) (R := fun es => es = [intsT (lb.map (colOf kvs))]) (ed_slT (ed_var rfl dv8) eo_none (eo_some ed_int) (fun h => absurd h.2 (by show ¬ HT.sIx 4 4 (some 3) = 4; decide))) ((ek_tup (eak_last (ek_tupOf (EvF.ed (ed_isF (ef_lcL (f := fun d => match d with | .int m => some (.int (colOf kvs m)) | _ => none) (ed_var rfl d8) (by rw [List.length_map]; omega) (fun d u Gx md eg cg du => ?_) (fun d u y Gx md eg cg du ey => ?_)) (dye_map kvs lb))))) (fun ds z => ?_)).to fun d z => ?_) (List.cons_ne_nil _ _) (fun es z => by subst z; exact Nat.le_of_ble_eq_true rfl)).to fun d z => ?_) X8.ok (by exact q.mono X8)
      · obtain ⟨m, _, rfl⟩ := List.mem_map.mp md
        exact eb_yes
      · obtain ⟨m, hm, rfl⟩ := List.mem_map.mp md
        obtain rfl := Option.some.inj ey
        obtain ⟨k, hk, _⟩ := hc m hm
        have ek : colOf kvs m = k := by
          unfold colOf
          rw [hk]
        rw [ek]
        exact ed_dget rfl (eg _ _ h8) (ed_var rfl du) hk (.int k)
      · obtain ⟨_, rfl, _⟩ := z
        exact Nat.le_of_ble_eq_true rfl
      · obtain ⟨_, rfl, _, rfl, rfl⟩ := z
        exact ⟨_, rfl, rfl⟩
      · obtain ⟨es, rfl, rfl⟩ := z
        refine ⟨lb.map (colOf kvs), .inr ⟨colOf kvs, fun m hm => ?_, by rw [hlb]⟩, rfl⟩
        rw [hlb] at hm
        obtain ⟨k, hk, b1, b2⟩ := hc m hm
        have ek : colOf kvs m = k := by
          unfold colOf
          rw [hk]
        rw [ek]
        exact ⟨b1, b2⟩
/-! _law_leaded -/
structure LeadsOk (w h : Int) (ls : List (List Int)) : Prop where
  f : FoundOk w h ls
  s : ls.Pairwise fun x y => HT.lexLt y x = false
theorem FoundOk.perm {w h : Int} {fs gs : List (List Int)} (f : FoundOk w h fs) (p : gs.Perm fs) : FoundOk w h gs :=
  ⟨fun l hl => f.sub l (p.mem_iff.mp hl), p.nodup_iff.mpr f.nd, fun l hl m e hm => f.ov l (p.mem_iff.mp hl) m e (p.mem_iff.mp hm)⟩
theorem FoundOk.nil (w h : Int) : FoundOk w h [] := ⟨(fun _ h => by cases h), List.Pairwise.nil, (fun _ h => by cases h)⟩
def isLeaded (d : PyData) : Prop := ∃ (w h : Nat) (ls : List (List Int)), (1 ≤ w ∧ w ≤ 9) ∧ (1 ≤ h ∧ h ≤ 9) ∧ LeadsOk (w : Int) (h : Int) ls ∧ d = planD (w : Int) (h : Int) (.tuple (ls.map encT)) (intsT (List.replicate (4 * w * h) 0))
theorem nat9 {n : Int} (h1 : 1 ≤ n) (h2 : n ≤ 9) : ∃ k : Nat, n = (k : Int) ∧ 1 ≤ k ∧ k ≤ 9 := ⟨n.toNat, by omega, by omega, by omega⟩
def sp__law_leaded (K : Fg) : Sp := fun vs H Q E => ∃ (b c : Addr) (G : Hp), Ok K (some (b, c)) G H ∧ vs = [.ref b] ∧ RetSW K (some (b, c)) G H Q isLeaded (Gk K)
theorem mul9n {w h : Nat} (hw : 1 ≤ w ∧ w ≤ 9) (hh : 1 ≤ h ∧ h ≤ 9) : 4 ≤ 4 * w * h ∧ 4 * w * h ≤ 324 := by
  have a := Nat.mul_le_mul (Nat.mul_le_mul_left 4 hw.1) hh.1
  have b := Nat.mul_le_mul (Nat.mul_le_mul_left 4 hw.2) hh.2
  omega
abbrev N__law_leaded : List Str := ["_law_bag_here", "_law_width", "_law_height", "_law_plan_here", "_law_pick"]
theorem sc__law_leaded : FnScope N__law_leaded ["_law_bag_here"] (defScope s__law_leaded) := ⟨rfl, rfl, rfl, by decide +kernel, rfl, by decide +kernel, by decide +kernel⟩
theorem ok__law_leaded (T : Txt K mg) (G__law_size : Good P w K mg base (L2N.CX P w) 2 "_law_size" ["_law_bag_here"] [] (sp__law_size K)) (G__law_pull : Good P w K mg base (L2N.CX P w) 1 "_law_pull" ["_law_bag_here", "_law_upto"] [] (sp__law_pull K)) (G__law_some : Good P w K mg base (L2N.CX P w) 5 "_law_some" ["_law_bag_here", "_law_plan_here", "_law_many"] [] (sp__law_some K)) : Good P w K mg base (L2N.CX P w) 6 "_law_leaded" ["_law_bag_here"] [] (sp__law_leaded K) := by
  obtain ⟨fd, F⟩ := T.c.def_ 43 (d := d__law_leaded) rfl
  have b : Binds K fd ["_law_bag_here"] [] := F.bindsN fun _ _ _ _ _ _ us hl => match us, hl with | [_], _ => rfl
  refine ⟨⟨fd, [], F.ok sc__law_leaded (fun vs H Q E h => ?_) (fun cdv A outer s H vs Q E hr h => ?_), .nil, b⟩, T.g__law_leaded, F.kp⟩
  · obtain ⟨b, c, G, e, rfl, _⟩ := h
    all_goals rfl
  · obtain ⟨b, c, G, e, rfl, q⟩ := h
    all_goals refine ⟨_, PSs.nox (pss_cons (ps_set (i := 1) sc__law_leaded.nd rfl (Or.inl rfl) (pe_own G__law_size (hr.mono (by decide)) (by rfl) passLN (pa_cons (pv 0) pa_nil))) (pss_cons (ps_set (i := 2) sc__law_leaded.nd rfl (Or.inl rfl) (pe_own G__law_size (hr.mono (by decide)) (by rfl) passLN (pa_cons (pv 0) pa_nil))) (pss_cons (ps_set (i := 3) sc__law_leaded.nd rfl (Or.inl rfl) (pe_tup (pa_cons (pv 1) (pa_cons (pv 2) (pa_cons (pe_tup pa_nil) (pa_cons (pe_op (r := rRepK K) op_repK (pe_tup (pa_cons pe_int pa_nil)) (pe_op op_mul (pe_op op_mul pe_int (pv 1)) (pv 2))) pa_nil)))))) (pss_cons (ps_set (i := 4) sc__law_leaded.nd rfl (Or.inl rfl) (pe_own G__law_pull (hr.mono (by decide)) (by rfl) passLN (pa_cons (pv 0) (pa_cons pe_int pa_nil)))) (pss_cons (ps_if (pt_cmpR op_eq (pv 4) pe_int (nomark _)) (pss_one (ps_ret (pv 3))) pss_nil) (pss_cons (ps_if (pt_cmpR op_eq (pv 4) pe_int (nomark _)) (pss_one (ps_ret (pe_own G__law_some (hr.mono (by decide)) (by rfl) passLN (pa_cons (pv 0) (pa_cons (pv 3) (pa_cons pe_int pa_nil)))))) pss_nil) (pss_one (ps_ret (pe_own G__law_some (hr.mono (by decide)) (by rfl) passLN (pa_cons (pv 0) (pa_cons (pv 3) (pa_cons (pe_op op_add pe_int (pe_own G__law_pull (hr.mono (by decide)) (by rfl) passLN (pa_cons (pv 0) (pa_cons (pe_op op_add (pe_op op_mul (pe_op op_mul pe_int (pv 1)) (pv 2)) pe_int) pa_nil)))) pa_nil)))))))))))), ?_⟩
    refine sq_setS (es_size rfl) e (fun d1 v1 G1 H1 s1 X1 dv1 => ?_)
    obtain ⟨n1, rfl, i1, i2⟩ := s1
    obtain rfl := dp_int dv1
    obtain ⟨w', rfl, hw⟩ := nat9 i1 i2
    refine sq_setS (es_size rfl) X1.ok (fun d2 v2 G2 H2 s2 X2 dv2 => ?_)
    obtain ⟨n2, rfl, i3, i4⟩ := s2
    obtain rfl := dp_int dv2
    obtain ⟨h', rfl, hh⟩ := nat9 i3 i4
    have em : (4 : Int) * (w' : Int) * (h' : Int) = ((4 * w' * h' : Nat) : Int) := by
      rw [Int.natCast_mul, Int.natCast_mul]
      rfl
    have bd := mul9n hw hh
    have ez : (PyData.tuple (List.replicate ((4 : Int) * (w' : Int) * (h' : Int)).toNat (.int 0))) = intsT (List.replicate (4 * w' * h') 0) := by
      unfold intsT
      rw [em, Int.toNat_natCast, List.map_replicate]
    refine sq_setW (S := fun d => d = planD (w' : Int) (h' : Int) (.tuple []) (intsT (List.replicate (4 * w' * h') 0))) (P := Gk K) ((ek_tup (eak_cons (ed_var rfl (.int _)) (eak_cons (ed_var rfl (.int _)) (eak_cons (ed_tup ea_nil (Nat.le_of_ble_eq_true rfl)) (eak_last (ek_rep (d := .int 0) (n := (4 : Int) * (w' : Int) * (h' : Int)) ⟨by omega, by omega⟩ (ed_tup (ea_cons ed_int ea_nil) (Nat.le_of_ble_eq_true rfl)) (ed_op (ed_op ed_int (ed_var rfl (.int _)) (rd_I (.inl (by decide)))) (ed_var rfl (.int _)) (rd_I (.inr ⟨by omega, by omega⟩)))))))) (fun ds z => ?_)).to fun d z => ?_) X2.ok (fun d3' v3 G3 H3 s3 X3 d3 k3 => ?_)
    · obtain ⟨_, rfl, _, rfl, _, rfl, _, rfl, _⟩ := z
      exact Nat.le_of_ble_eq_true rfl
    · obtain ⟨_, rfl, _, rfl, _, rfl, _, rfl, _, rfl, rfl⟩ := z
      rw [ez]
      rfl
    subst s3
    have Y3 := (X1.trans X2).trans X3
    refine sq_setS (S := isN 5) (es_pull (u := 5) rfl ed_int (by decide) (by decide)) X3.ok (fun d4 v4 G4 H4 s4 X4 dv4 => ?_)
    obtain ⟨n4, rfl, j0, j1⟩ := s4
    obtain rfl := dp_int dv4
    have d4 := dp_mono X4.gg d3
    refine sq_ifN (eb_test (ed_op (ed_var rfl (.int n4)) ed_int (rd_eq rfl))) X4.ok (fun _ G5 H5 X5 => ?_) (fun _ G5 H5 X5 => ?_)
    · exact ⟨v3, rfl, q _ v3 G5 H5 ⟨w', h', [], hw, hh, ⟨FoundOk.nil _ _, List.Pairwise.nil⟩, rfl⟩ (Y3.trans (X4.trans X5)) (dp_mono X5.gg d4) (k3.mono (X4.gg.trans X5.gg))⟩
    have d5 := dp_mono X5.gg d4
    have Y5 := Y3.trans (X4.trans X5)
    have fin : ∀ {G0 H0 : Hp}, Ext K (some (b, c)) G H G0 H0 → RetSW K (some (b, c)) G0 H0 Q (isPlan (w' : Int) (h' : Int) [] (intsT (List.replicate (4 * w' * h') 0))) (Gk K) := fun {G0 H0} Y d v Gz Hz s X dv k => by
      obtain ⟨fs, ff, _, rfl⟩ := s
      exact q _ v Gz Hz ⟨w', h', srtL fs, hw, hh, ⟨ff.perm (srtL_perm fs), srtL_srt fs⟩, rfl⟩ (Y.trans X) dv k
    refine sq_ifN (eb_test (ed_op (ed_var rfl (.int n4)) ed_int (rd_eq rfl))) X5.ok (fun _ G6 H6 X6 => ?_) (fun _ G6 H6 X6 => ?_)
    · exact ⟨.ref b, rfl, v3, rfl, b, c, G6, v3, (w' : Int), (h' : Int), [], _, 400, X6.ok, rfl, dp_mono X6.gg d5, k3.mono (X4.gg.trans (X5.gg.trans X6.gg)), ⟨by omega, by omega⟩, ⟨by omega, by omega⟩, by decide, FoundOk.nil _ _, by decide, fin (Y5.trans X6)⟩
    · have ep : (2 : Int) * (w' : Int) * (h' : Int) + 4 = ((2 * w' * h' + 4 : Nat) : Int) := by
        rw [Int.natCast_add, Int.natCast_mul, Int.natCast_mul]
        rfl
      have b2 := Nat.mul_le_mul (Nat.mul_le_mul_left 2 hw.2) hh.2
      refine ⟨.ref b, rfl, v3, rfl, es_op (S := fun d => ∃ m : Nat, d = .int (m : Int) ∧ m ≤ 1000) (EvD.toS (S := fun d => d = .int 1) ed_int rfl) (es_pull (u := ((2 * w' * h' + 4 : Nat) : Int)) rfl (ed_is (ed_op (ed_op (ed_op ed_int (ed_var rfl (.int _)) (rd_I (.inl (by decide)))) (ed_var rfl (.int _)) (rd_I (.inr ⟨by omega, by omega⟩))) ed_int rd_I0) (by rw [ep])) (by omega) (by omega)) ?_ H6 X6.ok _ (fun d7 v7 G7 H7 s7 X7 dv7 => ?_)⟩
      · rintro x y rfl ⟨n, rfl, k0, k1⟩
        refine ⟨_, ⟨(1 + n).toNat, ?_, by omega⟩, rd_I0⟩
        have : 1 + n = (((1 + n).toNat : Nat) : Int) := by omega
        rw [← this]
      · obtain ⟨m, rfl, hm⟩ := s7
        obtain rfl := dp_int dv7
        exact ⟨b, c, G7, v3, (w' : Int), (h' : Int), [], _, m, X7.ok, rfl, dp_mono (X6.gg.trans X7.gg) d5, k3.mono (X4.gg.trans (X5.gg.trans (X6.gg.trans X7.gg))), ⟨by omega, by omega⟩, ⟨by omega, by omega⟩, hm, FoundOk.nil _ _, by decide, fin ((Y5.trans X6).trans X7)⟩
/-! _law_plan -/
/-- a drawn plan -/
structure PlanOk (w h : Nat) (ls : List (List Int)) (gl : List Int) : Prop where
  w9 : 1 ≤ w ∧ w ≤ 9
  h9 : 1 ≤ h ∧ h ≤ 9
  l : LeadsOk (w : Int) (h : Int) ls
  g : ∃ col : Int → Int, (∀ m ∈ panesL ls w h, 0 ≤ col m ∧ col m ≤ 9) ∧ gl = (panesL ls w h).map col
def planP (w h : Nat) (ls : List (List Int)) (gl : List Int) : PyData := planD (w : Int) (h : Int) (.tuple (ls.map encT)) (intsT gl)
def isDrawn (d : PyData) : Prop := ∃ (w h : Nat) (ls : List (List Int)) (gl : List Int), PlanOk w h ls gl ∧ d = planP w h ls gl
def sp__law_plan (K : Fg) : Sp := fun vs H Q E => ∃ (b c : Addr) (G : Hp), Ok K (some (b, c)) G H ∧ vs = [.ref b] ∧ RetSW K (some (b, c)) G H Q isDrawn (Gk K)
abbrev N__law_plan : List Str := ["_law_bag_here"]
theorem sc__law_plan : FnScope N__law_plan ["_law_bag_here"] (defScope s__law_plan) := ⟨rfl, rfl, rfl, by decide +kernel, rfl, by decide +kernel, by decide +kernel⟩
theorem ok__law_plan (T : Txt K mg) (G__law_glass : Good P w K mg base (L2N.CX P w) 4 "_law_glass" ["_law_bag_here", "_law_plan_here"] [] (sp__law_glass K)) (G__law_leaded : Good P w K mg base (L2N.CX P w) 6 "_law_leaded" ["_law_bag_here"] [] (sp__law_leaded K)) : Good P w K mg base (L2N.CX P w) 7 "_law_plan" ["_law_bag_here"] [] (sp__law_plan K) := by
  obtain ⟨fd, F⟩ := T.c.def_ 44 (d := d__law_plan) rfl
  have b : Binds K fd ["_law_bag_here"] [] := F.bindsN fun _ _ _ _ _ _ us hl => match us, hl with | [_], _ => rfl
  refine ⟨⟨fd, [], F.ok sc__law_plan (fun vs H Q E h => ?_) (fun cdv A outer s H vs Q E hr h => ?_), .nil, b⟩, T.g__law_plan, F.kp⟩
  · obtain ⟨b, c, G, e, rfl, _⟩ := h
    all_goals rfl
  · obtain ⟨b, c, G, e, rfl, q⟩ := h
    all_goals refine ⟨_, PSs.nox (pss_one (ps_ret (pe_own G__law_glass (hr.mono (by decide)) (by rfl) passLN (pa_cons (pv 0) (pa_cons (pe_own G__law_leaded (hr.mono (by decide)) (by rfl) passLN (pa_cons (pv 0) pa_nil)) pa_nil))))), ?_⟩
    refine ⟨.ref b, rfl, .ref b, rfl, b, c, G, e, rfl, fun d1 v1 G1 H1 s1 X1 dv1 k1 => ?_⟩
    obtain ⟨w', h', ls, hw, hh, hl, rfl⟩ := s1
    refine ⟨b, c, G1, v1, w', h', ls, _, X1.ok, rfl, dv1, k1, hw.2, hh.2, fun d2 v2 G2 H2 s2 X2 dv2 k2 => ?_⟩
    obtain ⟨gl, og, rfl⟩ := s2
    refine q _ v2 G2 H2 ⟨w', h', ls, gl, ⟨hw, hh, hl, ?_⟩, rfl⟩ (X1.trans X2) dv2 k2
    rcases og with rfl | h
    · refine ⟨fun _ => 0, fun m _ => ⟨Int.le_refl 0, (by decide : (0 : Int) ≤ 9)⟩, ?_⟩
      have pl : (panesL ls w' h').length = 4 * w' * h' := joined_len _ _
      rw [← pl]
      exact (List.eq_replicate_iff.mpr ⟨List.length_map _, fun x hx => by obtain ⟨_, _, rfl⟩ := List.mem_map.mp hx; rfl⟩).symm
    · exact h
theorem ek_plan {b c : Addr} {i : Nat} {σ : L2.St} {G : Hp} {E : XK} (hσ : σ[i]? = some (some (.ref b))) : EvSW K (some (b, c)) (tCall (sp__law_plan K) [] E (tCons (tVar i) tNil)) σ G isDrawn (Gk K) := fun H e Q q =>
  ⟨.ref b, hσ, b, c, G, e, rfl, q⟩
/-! _law_settled -/
/-! labels by joining two by two are the least ones of what hangs together -/
inductive Lnk (ps : List (Nat × Nat)) : Nat → Nat → Prop
  | here (i : Nat) : Lnk ps i i
  | more {i j k : Nat} : Lnk ps i j → ((j, k) ∈ ps ∨ (k, j) ∈ ps) → Lnk ps i k
theorem Lnk.trans {ps : List (Nat × Nat)} {i j k : Nat} (a : Lnk ps i j) (b : Lnk ps j k) : Lnk ps i k := by
  induction b with
  | here => exact a
  | more _ h ih => exact .more ih h
theorem Lnk.symm {ps : List (Nat × Nat)} {i j : Nat} (a : Lnk ps i j) : Lnk ps j i := by
  induction a with
  | here => exact .here _
  | more _ h ih => exact Lnk.trans (.more (.here _) h.symm) ih
theorem Lnk.app {ps : List (Nat × Nat)} {p : Nat × Nat} {i j : Nat} (a : Lnk ps i j) : Lnk (ps ++ [p]) i j := by
  induction a with
  | here => exact .here _
  | more _ h ih => exact .more ih (h.imp (List.mem_append_left _) (List.mem_append_left _))
theorem Lnk.lt {N : Nat} {ps : List (Nat × Nat)} (hp : ∀ p ∈ ps, p.1 < N ∧ p.2 < N) {i j : Nat} (a : Lnk ps i j) (hi : i < N) : j < N := by
  induction a with
  | here => exact hi
  | more _ h ih => exact h.elim (fun z => (hp _ z).2) fun z => (hp _ z).1
structure Lab (N : Nat) (ps : List (Nat × Nat)) (ls : List Int) : Prop where
  len : ls.length = N
  at_ : ∀ i, i < N → ∃ m : Nat, ls.getD i 0 = (m : Int) ∧ m ≤ i ∧ Lnk ps i m ∧ ls.getD m 0 = (m : Int)
  eq : ∀ i j, i < N → Lnk ps i j → ls.getD j 0 = ls.getD i 0
theorem getD_map {ls : List Int} {f : Int → Int} {i : Nat} (h : i < ls.length) : (ls.map f).getD i 0 = f (ls.getD i 0) := by
  rw [List.getD_eq_getElem?_getD, List.getD_eq_getElem?_getD, List.getElem?_map, List.getElem?_eq_getElem h]
  rfl
theorem Lab.step {N : Nat} {ps : List (Nat × Nat)} {ls : List Int} {a b : Nat} (l : Lab N ps ls) (hp : ∀ p ∈ ps, p.1 < N ∧ p.2 < N) (ha : a < N) (hb : b < N) : Lab N (ps ++ [(a, b)]) (joinS ls (a, b)) := by
  have hp' : ∀ p ∈ ps ++ [(a, b)], p.1 < N ∧ p.2 < N := fun p h => by
    rcases mem_or h with h | h
    · exact hp p h
    · rw [mem_1 h]
      exact ⟨ha, hb⟩
  -- a function of labels that is alike at a and b is alike over what hangs together
  have alike : ∀ (f : Int → Int), f (ls.getD a 0) = f (ls.getD b 0) → ∀ i j, i < N → Lnk (ps ++ [(a, b)]) i j → f (ls.getD j 0) = f (ls.getD i 0) := fun f e i j hi h => by
    induction h with
    | here => rfl
    | @more j k h1 h2 ih =>
      have jl := h1.lt hp' hi
      rw [← ih]
      have old : ((j, k) ∈ ps ∨ (k, j) ∈ ps) → f (ls.getD k 0) = f (ls.getD j 0) := fun z => by rw [l.eq j k jl (.more (.here _) z)]
      rcases h2 with z | z
      · rcases mem_or z with z | z
        · exact old (.inl z)
        · have z := mem_1 z
          injection z with z1 z2
          rw [z1, z2, e]
      · rcases mem_or z with z | z
        · exact old (.inr z)
        · have z := mem_1 z
          injection z with z1 z2
          rw [z1, z2, e]
  have ab : Lnk (ps ++ [(a, b)]) a b := .more (.here _) (.inl (List.mem_append_right _ (List.mem_singleton.mpr rfl)))
  obtain ⟨ma, ea, la, ca, sa⟩ := l.at_ a ha
  obtain ⟨mb, eb, lb, cb, sb⟩ := l.at_ b hb
  unfold joinS
  dsimp only
  by_cases c : min (ls.getD a 0) (ls.getD b 0) = max (ls.getD a 0) (ls.getD b 0)
  · rw [if_pos c]
    have e : ls.getD a 0 = ls.getD b 0 := by omega
    refine ⟨l.len, fun i hi => ?_, fun i j hi h => alike id e i j hi h⟩
    obtain ⟨m, em, lm, cm, sm⟩ := l.at_ i hi
    exact ⟨m, em, lm, cm.app, sm⟩
  · rw [if_neg c]
    -- lo, hi as numbers
    obtain ⟨lo, hi', elo, ehi, lt, clh, slo⟩ : ∃ lo hi' : Nat, min (ls.getD a 0) (ls.getD b 0) = (lo : Int) ∧ max (ls.getD a 0) (ls.getD b 0) = (hi' : Int) ∧ lo < hi' ∧ Lnk (ps ++ [(a, b)]) hi' lo ∧ ls.getD lo 0 = (lo : Int) := by
      by_cases d : ma ≤ mb
      · exact ⟨ma, mb, by omega, by omega, by omega, (cb.app.symm.trans ab.symm).trans ca.app, sa⟩
      · exact ⟨mb, ma, by omega, by omega, by omega, (ca.app.symm.trans ab).trans cb.app, sb⟩
    rw [elo, ehi]
    have fa : ∀ z : Int, z = (hi' : Int) ∨ z = (lo : Int) → (if z = (hi' : Int) then (lo : Int) else z) = (lo : Int) := fun z h => by
      split
      · rfl
      · rename_i n
        exact h.resolve_left n
    have e : (fun m : Int => if m = (hi' : Int) then (lo : Int) else m) (ls.getD a 0) = (fun m : Int => if m = (hi' : Int) then (lo : Int) else m) (ls.getD b 0) := by
      dsimp only
      rw [fa _ (by omega), fa _ (by omega)]
    refine ⟨by rw [List.length_map]; exact l.len, fun i hi => ?_, fun i j hi h => ?_⟩
    · obtain ⟨m, em, lm, cm, sm⟩ := l.at_ i hi
      rw [getD_map (by rw [l.len]; exact hi), em]
      by_cases d : m = hi'
      · refine ⟨lo, by rw [d, if_pos rfl], by omega, (d ▸ cm.app : Lnk _ i hi').trans clh, ?_⟩
        rw [getD_map (by rw [l.len]; omega), slo, if_neg (by omega)]
      · refine ⟨m, by rw [if_neg (by omega)], lm, cm.app, ?_⟩
        rw [getD_map (by rw [l.len]; omega), sm, if_neg (by omega)]
    · rw [getD_map (by rw [l.len]; exact h.lt hp' hi), getD_map (by rw [l.len]; exact hi)]
      exact alike (fun m : Int => if m = (hi' : Int) then (lo : Int) else m) e i j hi h
theorem lab_zero (N : Nat) : Lab N [] (range0 N) := by
  have at0 : ∀ i, i < N → (range0 N).getD i 0 = (i : Int) := fun i hi => by
    unfold range0
    rw [List.getD_eq_getElem?_getD, List.getElem?_map, List.getElem?_range hi]
    rfl
  refine ⟨by unfold range0; rw [List.length_map, List.length_range], fun i hi => ⟨i, at0 i hi, Nat.le_refl _, .here _, at0 i hi⟩, fun i j _ h => ?_⟩
  induction h with
  | here => rfl
  | more _ z _ => exact z.elim (fun h => by cases h) fun h => by cases h
theorem lab_fold {N : Nat} : ∀ (qs ps : List (Nat × Nat)) (ls : List Int), Lab N ps ls → (∀ p ∈ ps ++ qs, p.1 < N ∧ p.2 < N) → Lab N (ps ++ qs) (qs.foldl joinS ls)
  | [], ps, ls, l, _ => by
    rw [List.append_nil]
    exact l
  | (a, b) :: qs, ps, ls, l, h => by
    have ha := h (a, b) (List.mem_append_right _ List.mem_cons_self)
    have z := lab_fold qs (ps ++ [(a, b)]) (joinS ls (a, b)) (l.step (fun p hp => h p (List.mem_append_left _ hp)) ha.1 ha.2) (by rw [List.append_assoc]; exact h)
    rw [List.append_assoc] at z
    exact z
theorem lab_joined {N : Nat} {ps : List (Nat × Nat)} (hp : ∀ p ∈ ps, p.1 < N ∧ p.2 < N) : Lab N ps (joinedL N ps) := lab_fold ps [] (range0 N) (lab_zero N) hp
/-- the same edges, the same labels -/
theorem lab_same {N : Nat} {ps : List (Nat × Nat)} {adj : Nat → List Nat} {ls : List Int} (g : Gph N adj) (l : Lab N ps ls) (hp : ∀ p ∈ ps, p.1 < N ∧ p.2 < N) (h1 : ∀ i j, i < N → j ∈ adj i → (i, j) ∈ ps ∨ (j, i) ∈ ps) (h2 : ∀ i j, (i, j) ∈ ps → j ∈ adj i) : labsOf N adj = ls := by
  have toC : ∀ {i j}, i < N → Lnk ps i j → Con adj i j := fun {i j} hi h => by
    induction h with
    | here => exact .here _
    | @more j k b z ih => exact .more ih (z.elim (fun q => h2 _ _ q) fun q => g.sym _ (hp _ q).1 _ (h2 _ _ q))
  have toL : ∀ {i j}, i < N → Con adj i j → Lnk ps i j := fun {i j} hi h => by
    induction h with
    | here => exact .here _
    | @more j k b z ih => exact .more ih (h1 _ _ (b.lt g hi) z)
  unfold labsOf
  refine List.ext_getElem? fun i => ?_
  by_cases c : i < N
  · obtain ⟨m, em, lm, cm, sm⟩ := l.at_ i c
    rw [List.getElem?_map, List.getElem?_range c]
    have e : labOf adj i = m := labOf_uniq (toC c cm) fun j hj => by
      have jl := hj.lt g c
      obtain ⟨mj, ej, lj, _⟩ := l.at_ j jl
      have := l.eq i j c (toL c hj)
      omega
    rw [List.getD_eq_getElem?_getD] at em
    have il : i < ls.length := by rw [l.len]; exact c
    rw [List.getElem?_eq_getElem il] at em ⊢
    show some ((labOf adj i : Nat) : Int) = some ls[i]
    rw [e]
    exact congrArg some em.symm
  · rw [List.getElem?_eq_none (by rw [List.length_map, List.length_range]; omega), List.getElem?_eq_none (by rw [l.len]; omega)]
/-- the labels whose quarters differ -/
def unlB (gl lb : List Int) : List Int := sset ((List.range lb.length).filterMap fun i => if gl.getD i 0 = gl.getD (lb.getD i 0).toNat 0 then none else some (lb.getD i 0))
/-- the colours in these panes, quarter by quarter -/
def inPan (gl fs un : List Int) (i : Nat) : Option Int := if gl.getD i 0 ≠ 0 ∧ fs.getD i 0 ∈ un then some (gl.getD i 0) else none
def lostB (gl fs un : List Int) : List (List Int) := lostOf ((List.range fs.length).filterMap (inPan gl fs un))
def keptB (gl fs un : List Int) : List Int := (List.range fs.length).map fun i => if fs.getD i 0 ∈ un then 0 else gl.getD i 0
/-- a plan whose glass is settled, and what was lost -/
def setG (w h : Nat) (ls : List (List Int)) (gl : List Int) : List Int := keptB gl (panesL ls w h) (unlB gl (panesL ls w h))
def setO (w h : Nat) (ls : List (List Int)) (gl : List Int) : List (List Int) := lostB gl (panesL ls w h) (unlB gl (panesL ls w h))
def setP (w h : Nat) (ls : List (List Int)) (gl : List Int) : PyData := planD (w : Int) (h : Int) (.tuple (ls.map encT)) (intsT (setG w h ls gl))
def setD (w h : Nat) (ls : List (List Int)) (gl : List Int) : PyData := .tuple [setP w h ls gl, .list ((setO w h ls gl).map encT)]
def sp__law_settled (K : Fg) : Sp := fun vs H Q E => ∃ (B : Bg) (G : Hp) (v : V) (w h : Nat) (ls : List (List Int)) (gl : List Int), Ok K B G H ∧ vs = [v] ∧ Dp K G v (planD (w : Int) (h : Int) (.tuple (ls.map encT)) (intsT gl)) ∧ w ≤ 9 ∧ h ≤ 9 ∧ gl.length = 4 * w * h ∧ Ret K B G H Q (setD w h ls gl)
theorem panesL_is (w h : Nat) (ls : List (List Int)) : IsLab (4 * w * h) (panesL ls w h) := by
  have l : Lab (4 * w * h) (pairsN ls w h h) (panesL ls w h) := lab_joined pairsN_lt
  refine ⟨l.len, fun i hi => ?_⟩
  obtain ⟨m, a, b, _, c⟩ := l.at_ i hi
  exact ⟨m, a, b, c⟩
/-- the colours of a pane's quarters, the first k ones -/
def kinL (lb gl : List Int) (k : Nat) (m : Int) : List Int := (List.range k).filterMap fun i => if lb.getD i 0 = m then some (gl.getD i 0) else none
theorem kinL_mem {lb gl : List Int} {k : Nat} {m c : Int} : c ∈ kinL lb gl k m ↔ ∃ i, i < k ∧ lb.getD i 0 = m ∧ gl.getD i 0 = c := by
  unfold kinL
  rw [List.mem_filterMap]
  constructor
  · rintro ⟨i, hi, e⟩
    split at e
    · rename_i z
      exact ⟨i, List.mem_range.mp hi, z, Option.some.inj e⟩
    · cases e
  · rintro ⟨i, hi, z, rfl⟩
    exact ⟨i, List.mem_range.mpr hi, if_pos z⟩
theorem kinL_more (lb gl : List Int) (k : Nat) : kinL lb gl (k + 1) = fun m => if m = lb.getD k 0 then kinL lb gl k m ++ [gl.getD k 0] else kinL lb gl k m := by
  funext m
  unfold kinL
  rw [range_oneI]
  by_cases c : lb.getD k 0 = m
  · rw [if_pos c, if_pos c.symm]
    rfl
  · rw [if_neg c, if_neg (fun z => c z.symm)]
    exact List.append_nil _
def Kin (G : Hp) (kvs : List (L2.Key × V)) (f : Int → List Int) : Prop := ∀ m : Int, (f m = [] ∧ valV kvs (Sum.inl m) = none) ∨ ∃ r, f m ≠ [] ∧ valV kvs (Sum.inl m) = some (.ref r) ∧ G r = some (.lst ((f m).map V.int))
theorem kin_mono {G G' : Hp} {kvs : List (L2.Key × V)} {f : Int → List Int} (e : Ex G G') (h : Kin G kvs f) : Kin G' kvs f := fun m => (h m).imp id fun ⟨r, a, b, c⟩ => ⟨r, a, b, e _ _ c⟩
theorem st_kin {B : Bg} {G0 H0 G H : Hp} {σ : L2.St} {D : Ends} {p : Addr} {kvs : List (L2.Key × V)} {f : Int → List Int} {m c : Int} {i j l : Nat} (hi : σ[i]? = some (some (.ref p))) (hj : σ[j]? = some (some (.int m))) (hl : σ[l]? = some (some (.int c))) (d : LoD K B G0 H0 G H p kvs) (hk : Kin G kvs f) (few : kvs.length < 100000) (fw : (f m).length < 100000)
    (k : ∀ G2 H2 kvs', LoD K B G0 H0 G2 H2 p kvs' → Ex G G2 → Kin G2 kvs' (fun z => if z = m then f z ++ [c] else f z) → kvs'.length ≤ kvs.length + 1 → D.nx σ H2) :
    sDPut (tVar i) (tVar j) (tOp rCat (tDGet2 (tVar i) (tVar j) (tLst tNil)) (tLst (tCons (tVar l) tNil))) D σ H := by
  refine ⟨.ref p, hi, p, rfl, .inl ⟨_, .inl d.h⟩, .int m, hj, Nat.zero_le _, fun r hr => ?_⟩
  have d1 := d.step (Ext.new (o := .lst []) d.x.ok hr)
  refine ⟨_, DGet.k (k := Sum.inl m) d1.h, .int c, hl, Nat.le_of_ble_eq_true rfl, fun r2 hr2 => ?_⟩
  have d2 := d1.step (Ext.new (o := .lst [.int c]) d1.x.ok hr2)
  have e1 : Ex G (upd G r (.lst [])) := Ex.new (d.x.ok.e.off hr)
  have e2 : Ex (upd G r (.lst [])) (upd (upd G r (.lst [])) r2 (.lst [.int c])) := Ex.new (d1.x.ok.e.off hr2)
  obtain ⟨a, ea, ha⟩ : ∃ a, (valV kvs (Sum.inl m)).getD (.ref r) = .ref a ∧ (upd (upd G r (.lst [])) r2 (.lst [.int c])) a = some (.lst ((f m).map V.int)) := by
    rcases hk m with ⟨h1, h2⟩ | ⟨a, h1, h2, h3⟩
    · rw [h1, h2]
      exact ⟨r, rfl, e2 _ _ upd_same⟩
    · rw [h2]
      exact ⟨a, rfl, e2 _ _ (e1 _ _ h3)⟩
  refine ⟨a, r2, (f m).map V.int, [.int c], ea, rfl, d2.x.ok.e _ _ ha, upd_same, sz ?_, fun r3 hr3 => ?_⟩
  · rw [List.length_map]
    exact fw
  have d3 := d2.step (Ext.new (o := .lst ((f m).map V.int ++ [.int c])) d2.x.ok hr3)
  have e3 : Ex (upd (upd G r (.lst [])) r2 (.lst [.int c])) (upd (upd (upd G r (.lst [])) r2 (.lst [.int c])) r3 (.lst ((f m).map V.int ++ [.int c]))) := Ex.new (d2.x.ok.e.off hr3)
  have e123 := (e1.trans e2).trans e3
  refine ⟨.ref p, hi, .int m, hj, p, _, rfl, DPut.k (k := Sum.inl m) d3.h (szl few), k _ _ _ (d3.put _) e123 (fun z => ?_) (putK_len _ _ _)⟩
  rw [valV_put]
  dsimp only
  by_cases c2 : z = m
  · subst c2
    refine .inr ⟨r3, ?_, if_pos rfl, ?_⟩
    · rw [if_pos rfl]
      exact List.append_ne_nil_of_right_ne_nil _ (List.cons_ne_nil _ _)
    · show upd _ r3 _ r3 = _
      rw [upd_same, if_pos rfl, List.map_append]
      rfl
  · rw [if_neg (fun y => c2 (Sum.inl.inj y)), if_neg c2]
    exact kin_mono e123 hk z
theorem lo_ex : ∀ {ns : List Int}, ns ≠ [] → ∃ m, m ∈ ns ∧ ∀ y, y ∈ ns → m ≤ y
  | [], h => absurd rfl h
  | [n], _ => ⟨n, List.mem_cons_self, fun y hy => by rw [mem_1 hy]; exact Int.le_refl _⟩
  | n :: k :: ns, _ => by
    obtain ⟨m, hm, le⟩ := lo_ex (List.cons_ne_nil k ns)
    by_cases c : n ≤ m
    · exact ⟨n, List.mem_cons_self, fun y hy => by
        rcases mem_c hy with rfl | hy
        · exact Int.le_refl _
        · exact Int.le_trans c (le y hy)⟩
    · exact ⟨m, List.mem_cons_of_mem _ hm, fun y hy => by
        rcases mem_c hy with rfl | hy
        · omega
        · exact le y hy⟩
theorem hi_ex : ∀ {ns : List Int}, ns ≠ [] → ∃ m, m ∈ ns ∧ ∀ y, y ∈ ns → y ≤ m
  | [], h => absurd rfl h
  | [n], _ => ⟨n, List.mem_cons_self, fun y hy => by rw [mem_1 hy]; exact Int.le_refl _⟩
  | n :: k :: ns, _ => by
    obtain ⟨m, hm, le⟩ := hi_ex (List.cons_ne_nil k ns)
    by_cases c : m ≤ n
    · exact ⟨n, List.mem_cons_self, fun y hy => by
        rcases mem_c hy with rfl | hy
        · exact Int.le_refl _
        · exact Int.le_trans (le y hy) c⟩
    · exact ⟨m, List.mem_cons_of_mem _ hm, fun y hy => by
        rcases mem_c hy with rfl | hy
        · omega
        · exact le y hy⟩
theorem ed_minL {B : Bg} {G : Hp} {σ : L2.St} {te : TE} {ns : List Int} {m : Int} (h : EvD K B te σ G (.list (ns.map PyData.int))) (hm : m ∈ ns) (le : ∀ y, y ∈ ns → m ≤ y) : EvD K B (tCB (rMin K) (tCons te tNil)) σ G (.int m) := fun H e Q q =>
  h H e _ fun v G2 H2 X dv => by
    obtain ⟨a, xs, rfl, hs, hx⟩ := dp_lst dv
    obtain rfl := dpAll_intsV hx
    refine ⟨a, ns, rfl, ex_l X.ok.e hs, List.length_pos_of_mem hm, fun m' hm' le' => ?_⟩
    obtain rfl : m' = m := Int.le_antisymm (le' m hm) (le m' hm')
    exact q _ G2 H2 X (.int _)
theorem ed_maxL {B : Bg} {G : Hp} {σ : L2.St} {te : TE} {ns : List Int} {m : Int} (h : EvD K B te σ G (.list (ns.map PyData.int))) (hm : m ∈ ns) (le : ∀ y, y ∈ ns → y ≤ m) : EvD K B (tCB (rMax K) (tCons te tNil)) σ G (.int m) := fun H e Q q =>
  h H e _ fun v G2 H2 X dv => by
    obtain ⟨a, xs, rfl, hs, hx⟩ := dp_lst dv
    obtain rfl := dpAll_intsV hx
    refine ⟨a, ns, rfl, ex_l X.ok.e hs, List.length_pos_of_mem hm, fun m' hm' le' => ?_⟩
    obtain rfl : m' = m := Int.le_antisymm (le m' hm') (le' m hm)
    exact q _ G2 H2 X (.int _)
theorem unlB_mem {gl lb : List Int} {m : Int} : m ∈ unlB gl lb ↔ ∃ i, i < lb.length ∧ lb.getD i 0 = m ∧ gl.getD i 0 ≠ gl.getD m.toNat 0 := by
  unfold unlB
  rw [sset_mem, List.mem_filterMap]
  constructor
  · rintro ⟨i, hi, e⟩
    split at e
    · cases e
    · rename_i z
      cases Option.some.inj e
      exact ⟨i, List.mem_range.mp hi, rfl, z⟩
  · rintro ⟨i, hi, rfl, z⟩
    exact ⟨i, List.mem_range.mpr hi, if_neg z⟩
/-- a pane is good just where its quarters are alike -/
theorem good_is {gl lb : List Int} {N : Nat} (il : IsLab N lb) {k : Nat} (hk : k < N) {lo hi : Int} (h1 : lo ∈ kinL lb gl N (lb.getD k 0)) (h2 : ∀ y, y ∈ kinL lb gl N (lb.getD k 0) → lo ≤ y) (h3 : hi ∈ kinL lb gl N (lb.getD k 0)) (h4 : ∀ y, y ∈ kinL lb gl N (lb.getD k 0) → y ≤ hi) : lo = hi ↔ lb.getD k 0 ∉ unlB gl lb := by
  obtain ⟨m, em, ml, mm⟩ := il.at_ k hk
  rw [em] at h1 h2 h3 h4 ⊢
  rw [unlB_mem]
  have self : gl.getD m 0 ∈ kinL lb gl N (m : Int) := kinL_mem.mpr ⟨m, by omega, mm, rfl⟩
  constructor
  · rintro rfl ⟨i, hi, e, ne⟩
    rw [il.len] at hi
    have z : gl.getD i 0 ∈ kinL lb gl N (m : Int) := kinL_mem.mpr ⟨i, hi, e, rfl⟩
    rw [Int.toNat_natCast] at ne
    exact ne (Int.le_antisymm (Int.le_trans (h4 _ z) (h2 _ self)) (Int.le_trans (h4 _ self) (h2 _ z)))
  · intro no
    have all : ∀ y, y ∈ kinL lb gl N (m : Int) → y = gl.getD m 0 := fun y hy => by
      obtain ⟨i, hi, e, rfl⟩ := kinL_mem.mp hy
      refine Classical.byContradiction fun ne => no ⟨i, by rw [il.len]; exact hi, e, ?_⟩
      rw [Int.toNat_natCast]
      exact ne
    rw [all _ h1, all _ h3]
theorem lost_rows {cs ks : List Int} (e : sset cs = ks) : (ks.map PyData.int).filterMap (fun d => match d with | .int m => some (encT [m, (cs.count m : Int)]) | _ => none) = (lostOf cs).map encT := by
  unfold lostOf
  rw [e, List.map_map]
  clear e
  induction ks with
  | nil => rfl
  | cons k ks ih => rw [List.map_cons, List.filterMap_cons, ih]; rfl
theorem kv_paired {G : Hp} : ∀ ps : List (Int × Int), Paired (fun (kv : L2.Key × V) (m : Int × PyData) => kv.1 = Sum.inl m.1 ∧ Dp K G kv.2 m.2) (kvI2 ps) (ps.map fun q => (q.1, PyData.int q.2))
  | [] => .nil
  | q :: ps => .cons ⟨rfl, .int _⟩ (kv_paired ps)
theorem cnt_val {ps : List (Int × Int)} {cs : List Int} (h : CntI ps cs) {c : Int} (hc : c ∈ cs) : valV (kvI2 ps) (Sum.inl c) = some (.int (cs.count c : Int)) := by
  have z := h.find c
  rw [if_pos hc] at z
  rw [kvI2_val]
  obtain ⟨q, hq, e⟩ := Option.map_eq_some_iff.mp z
  rw [hq, ← e]
  rfl
def glS (gl lb un : List Int) (k : Nat) : List Int := (List.range k).map fun i => if lb.getD i 0 ∈ un then 0 else gl.getD i 0
theorem glS_more (gl lb un : List Int) (k : Nat) : (glS gl lb un (k + 1)).map PyData.int = (glS gl lb un k).map PyData.int ++ [.int (if lb.getD k 0 ∈ un then 0 else gl.getD k 0)] := by
  unfold glS
  rw [List.range_succ, List.map_append, List.map_append]
  rfl
abbrev N__law_settled : List Str := ["_law_plan_here", "_law_labels", "_law_glass_here", "_law_lost", "_law_kinds", "_law_mark", "_law_colour", "_law_good"]
theorem sc__law_settled : FnScope N__law_settled ["_law_plan_here"] (defScope s__law_settled) := ⟨rfl, rfl, rfl, by decide +kernel, rfl, by decide +kernel, by decide +kernel⟩
theorem ok__law_settled (T : Txt K mg) (G__law_panes : Good P w K mg base (L2N.CX P w) 3 "_law_panes" ["_law_plan_here"] [] (sp__law_panes K)) : Good P w K mg base (L2N.CX P w) 4 "_law_settled" ["_law_plan_here"] [] (sp__law_settled K) := by
  obtain ⟨fd, F⟩ := T.c.def_ 45 (d := d__law_settled) rfl
  have b : Binds K fd ["_law_plan_here"] [] := F.bindsN fun _ _ _ _ _ _ us hl => match us, hl with | [_], _ => rfl
  refine ⟨⟨fd, [], F.ok sc__law_settled (fun vs H Q E h => ?_) (fun cdv A outer s H vs Q E hr h => ?_), .nil, b⟩, T.g__law_settled, F.kp⟩
  · obtain ⟨B, G, v, w, h, ls, gl, e, rfl, _⟩ := h
    all_goals rfl
  · obtain ⟨B, G, v, wn, hn, ls, gl, e, rfl, dv, hw, hh, hg, q⟩ := h
    all_goals refine ⟨_, PSs.nox (pss_cons (ps_set (i := 1) sc__law_settled.nd rfl (Or.inl rfl) (pe_own G__law_panes (hr.mono (by decide)) (by rfl) passLN (pa_cons (pv 0) pa_nil))) (pss_cons (ps_set (i := 2) sc__law_settled.nd rfl (Or.inl rfl) (pe_lst pa_nil)) (pss_cons (ps_set (i := 3) sc__law_settled.nd rfl (Or.inr rfl) pe_dnewK) (pss_cons (ps_set (i := 4) sc__law_settled.nd rfl (Or.inl rfl) pe_dnewK) (pss_cons (ps_for PassesOwn.never rfl (pi_zipK false true (by rfl) T.f_zip (pa_cons (pv 1) (pa_cons (pe_ix (r := rIxT K) ix_tup (pv 0) pe_int (fun _ _ => rfl)) pa_nil))) (pg_tup rfl (pgs_cons (by exact (pg_name (i := 5) sc__law_settled.nd rfl (Or.inl rfl))) (pgs_cons (by exact (pg_name (i := 6) sc__law_settled.nd rfl (Or.inl rfl))) pgs_nil))) (pss_one (ps_dput (hu_of hr) (pv 4) (pv 5) (pe_op op_cat (pe_dget2 (hu_of hr) (pv 4) (pv 5) (pe_lst pa_nil) ⟨rfl, rfl, rfl, rfl⟩) (pe_lst (pa_cons (pv 6) pa_nil))) rfl))) (pss_cons (ps_for PassesOwn.never rfl (pi_zipK false true (by rfl) T.f_zip (pa_cons (pv 1) (pa_cons (pe_ix (r := rIxT K) ix_tup (pv 0) pe_int (fun _ _ => rfl)) pa_nil))) (pg_tup rfl (pgs_cons (by exact (pg_name (i := 5) sc__law_settled.nd rfl (Or.inl rfl))) (pgs_cons (by exact (pg_name (i := 6) sc__law_settled.nd rfl (Or.inl rfl))) pgs_nil))) (pss_cons (ps_set (i := 7) sc__law_settled.nd rfl (Or.inl rfl) (pe_cmpR op_eq (pe_callB (cr_min rfl) (by rfl) T.f_min (by decide +kernel) (pa_cons (pe_dget (hu_of hr) (pv 4) (pv 5) (fun _ _ => rfl)) pa_nil)) (pe_callB (cr_max rfl) (by rfl) T.f_max (by decide +kernel) (pa_cons (pe_dget (hu_of hr) (pv 4) (pv 5) (fun _ _ => rfl)) pa_nil)) (nomark _))) (pss_cons (ps_expr (pe_bm PySem.F.plainAttrs_list PySem.F.slot_list_append PySem.F.type_list_append mt_append (pv 2) (pa_cons (pe_ifExp (pt_val (pv 7)) (pv 6) pe_int) pa_nil))) (pss_one (ps_if (PW.pt (pw_and (pt_not (pt_val (pv 7))) (pw_and1 (pt_cmpR op_ne (pv 6) pe_int (nomark _))))) (pss_one (ps_dput (hu_of hr) (pv 3) (pv 6) (pe_op op_add (pe_dget2 (hu_of hr) (pv 3) (pv 6) pe_int ⟨rfl, rfl, rfl, rfl⟩) pe_int) rfl)) pss_nil))))) (pss_one (ps_ret (pe_tup (pa_cons (pe_op (r := rCatT K) op_catT (pe_slice (r := rSlT K) sl_tup (pv 0) po_none (po_some pe_int)) (pe_tup (pa_cons (pe_callTy (r := rTupS K) call_tuple_of (by rfl) T.f_tuple (by decide +kernel) (pa_cons (pv 2) pa_nil)) pa_nil))) (pa_cons (pe_lc (own := [("_law_colour", 6)]) (g := gName 6) rfl sc__law_settled.nd (pi_list (pe_callB (r := rSortDK) (cr_sortDK rfl) (by rfl) T.f_sorted (by decide +kernel) (pa_cons (pv 3) pa_nil))) (blkOk_by (own := [("_law_colour", 6)]) (N := N__law_settled) (sc := defScope s__law_settled) (by decide +kernel)) (fun _ _ _ _ _ => (pg_name (i := 6) sc__law_settled.nd rfl (Or.inl rfl))) (fun _ _ _ _ _ => pts_nil) (fun _ _ _ _ _ => (pe_tup (pa_cons (pv 6) (pa_cons (pe_dget (hu_of hr) (pv 3) (pv 6) (fun _ _ => rfl)) pa_nil))))) pa_nil))))))))))), ?_⟩
    have n4 : 4 * wn * hn ≤ 400 := Nat.le_trans (Nat.mul_le_mul (Nat.mul_le_mul_left 4 hw) hh) (by decide)
    have dv : Dp K G v (.tuple [.int (wn : Int), .int (hn : Int), .tuple (ls.map encT), .tuple (gl.map .int)]) := dv
    refine sq_set (ed_panes (ea_cons (ed_var rfl dv) ea_nil) hw hh) e (fun v1 G1 H1 X1 d1 => ?_)
    have il := panesL_is wn hn ls
    unfold setD setP setG setO at q
    generalize panesL ls wn hn = lb at d1 il q
    have ll := il.len
    refine sq_setL (ef_lst ea_nil (Nat.le_of_ble_eq_true rfl)) X1.ok (fun f G2 H2 l2 => ?_)
    intro p3 hp3
    have ne3 : p3 ≠ f := by
      obtain ⟨xs, hf, _⟩ := l2.h
      exact (ne_of_none hf hp3).symm
    have X3 := Ext.loose (o := .dK []) l2.x.ok hp3
    have DL3 : DL K B G1 H1 G2 (upd H2 p3 (.dK [])) p3 [] f [] := ⟨⟨l2.x.trans X3, l2.x.old (l2.x.ok.b.ne hp3) hp3, l2.x.ok.e.off hp3, l2.x.ok.b.ne hp3, upd_same⟩, l2.step X3, ne3⟩
    generalize upd H2 p3 (.dK []) = H3 at DL3
    intro p4 hp4
    have ok3 := DL3.d.x.ok
    have D4 : LoD K B G2 H3 G2 (upd H3 p4 (.dK [])) p4 [] := ⟨Ext.loose ok3 hp4, hp4, ok3.e.off hp4, ok3.b.ne hp4, upd_same⟩
    generalize upd H3 p4 (.dK []) = H4 at D4
    have ez : ∀ {σ : L2.St} {G' : Hp}, σ[0]? = some (some v) → σ[1]? = some (some v1) → Ex G1 G' → EvP K B (iZipK false true K (tCons (tVar 1) (tCons (tOp (rIxT K) (tVar 0) (tC (.int 3))) tNil))) σ G' (4 * wn * hn) (fun i => (lb.map PyData.int)[i]?) fun i => (gl.map PyData.int)[i]? := fun h0 h1 ge =>
      ep_zipK (k := false) (l := true) (ds := lb.map PyData.int) (es := gl.map PyData.int) (ea_cons (ed_var h1 (dp_mono ge d1)) (ea_cons (ed_op (ed_var h0 (dp_mono (X1.gg.trans ge) dv)) ed_int (rd_ixT (i := 3) rfl)) ea_nil)) (by rw [List.length_map, List.length_map]; omega)
    refine sq_forP0 (Pv := fun Gx k σ' G' H' => ∃ y5 y6 kvs, σ' = [some v, some v1, some (.ref f), some (.ref p3), some (.ref p4), y5, y6, none] ∧ LoD K B G2 H3 G' H' p4 kvs ∧ Ex Gx G' ∧ Kin G' kvs (kinL lb gl k) ∧ kvs.length ≤ k) (ez rfl rfl l2.x.gg) D4.x.ok (fun G5 H5 X5 => ⟨none, none, [], rfl, D4.step X5, Ex.refl _, fun m => .inl ⟨rfl, rfl⟩, Nat.le_refl _⟩) (fun Gx k σ' G1 H1 pv => ?_) (fun Gx k σ' G1 H1 G2 H2 pv X => ?_) (fun G5 H5 X5 k x y a b σ' G' H' hk hx hy pv dx dy => ?_) (fun G5 H5 X5 σ' G' H' pv => ?_)
    · obtain ⟨y5, y6, kvs, rfl, l, e1, c, few⟩ := pv
      exact ⟨e1, l.x.ok⟩
    · obtain ⟨y5, y6, kvs, rfl, l, e1, c, few⟩ := pv
      exact ⟨y5, y6, kvs, rfl, l.step X, e1.trans X.gg, kin_mono X.gg c, few⟩
    · obtain ⟨y5, y6, kvs, rfl, l, e1, c, few⟩ := pv
      obtain ⟨_, rfl⟩ := int_at hx
      obtain ⟨_, rfl⟩ := int_at hy
      obtain rfl := dp_int dx
      obtain rfl := dp_int dy
      have kl : (kinL lb gl k (lb.getD k 0)).length ≤ k := by
        have z := List.length_filterMap_le (fun i => if lb.getD i 0 = lb.getD k 0 then some (gl.getD i 0) else none) (List.range k)
        rw [List.length_range] at z
        exact z
      refine st_kin rfl rfl rfl l c (by omega) (by omega) (fun G6 H6 kvs' l' e' c' few' => ⟨G6, _, _, kvs', rfl, l', e1.trans e', ?_, by omega⟩)
      rw [kinL_more]
      exact c'
    obtain ⟨y5, y6, kvs, rfl, l, e1, c, few⟩ := pv
    have DL6 := DL3.step l.frz
    have c6 : Kin (upd G' p4 (.dK kvs)) kvs (kinL lb gl (4 * wn * hn)) := kin_mono (Ex.new l.g) c
    have k6 : (upd G' p4 (.dK kvs)) p4 = some (.dK kvs) := upd_same
    generalize upd G' p4 (.dK kvs) = G6 at DL6 c6 k6
    generalize hun : unlB gl lb = un at q
    refine sq_forP0 (Pv := fun Gx k σ' G' H' => ∃ y5 y6 y7 ps, σ' = [some v, some v1, some (.ref f), some (.ref p3), some (.ref p4), y5, y6, y7] ∧ DL K B G1 H1 G' H' p3 (kvI2 ps) f ((glS gl lb un k).map PyData.int) ∧ Ex Gx G' ∧ Ex G6 G' ∧ CntI ps ((List.range k).filterMap (inPan gl lb un)) ∧ ps.length ≤ k) (ez rfl rfl DL6.d.x.gg) DL6.d.x.ok (fun G7 H7 X7 => ⟨y5, y6, none, [], rfl, DL6.step X7, Ex.refl _, X7.gg, CntI.nil, Nat.le_refl _⟩) (fun Gx k σ' G1 H1 pv => ?_) (fun Gx k σ' G1 H1 G2 H2 pv X => ?_) (fun G7 H7 X7 k x y a b σ' G' H' hk hx hy pv dx dy => ?_) (fun G7 H7 X7 σ' G' H' pv => ?_)
    · obtain ⟨y5, y6, y7, ps, rfl, l, e1, e6, cn, few⟩ := pv
      exact ⟨e1, l.d.x.ok⟩
    · obtain ⟨y5, y6, y7, ps, rfl, l, e1, e6, cn, few⟩ := pv
      exact ⟨y5, y6, y7, ps, rfl, l.step X, e1.trans X.gg, e6.trans X.gg, cn, few⟩
    · obtain ⟨y5, y6, y7, ps, rfl, l, e1, e6, cn, few⟩ := pv
      obtain ⟨_, rfl⟩ := int_at hx
      obtain ⟨_, rfl⟩ := int_at hy
      obtain rfl := dp_int dx
      obtain rfl := dp_int dy
      have some_ : ∃ r, kinL lb gl (4 * wn * hn) (lb.getD k 0) ≠ [] ∧ valV kvs (Sum.inl (lb.getD k 0)) = some (.ref r) ∧ G6 r = some (.lst ((kinL lb gl (4 * wn * hn) (lb.getD k 0)).map V.int)) := by
        rcases c6 (lb.getD k 0) with ⟨z, _⟩ | z
        · have y : gl.getD k 0 ∈ kinL lb gl (4 * wn * hn) (lb.getD k 0) := kinL_mem.mpr ⟨k, hk, rfl, rfl⟩
          rw [z] at y
          cases y
        · exact z
      obtain ⟨r, ne, hv, hr6⟩ := some_
      obtain ⟨lo, lo1, lo2⟩ := lo_ex ne
      obtain ⟨hi, hi1, hi2⟩ := hi_ex ne
      have dl : Dp K G' (.ref r) (.list ((kinL lb gl (4 * wn * hn) (lb.getD k 0)).map PyData.int)) := .lst (SqL.of (e6 _ _ hr6)) (dpAll_ints _)
      have el : ∀ {σ : L2.St}, σ[4]? = some (some (.ref p4)) → σ[5]? = some (some (.int (lb.getD k 0))) → EvD K B (tDGet (tVar 4) (tVar 5)) σ G' (.list ((kinL lb gl (4 * wn * hn) (lb.getD k 0)).map PyData.int)) := fun h4 h5 => ed_dget h4 (e6 _ _ k6) (ed_var h5 (.int _)) hv dl
      refine sq_set (d := .bool (!decide (lb.getD k 0 ∈ un))) (ed_is (ed_op (ed_minL (el rfl rfl) lo1 lo2) (ed_maxL (el rfl rfl) hi1 hi2) (rd_eq rfl)) ?_) l.d.x.ok (fun v7 G8 H8 X8 d8 => ?_)
      · have z := good_is il hk lo1 lo2 hi1 hi2
        rw [hun] at z
        rw [diI, ← decide_not]
        exact congrArg _ (decide_eq_decide.mpr z)
      obtain rfl := dp_bl d8
      have l8 := l.step X8
      have gs : ((glS gl lb un k).map PyData.int).length = k := by
        unfold glS
        rw [List.length_map, List.length_map, List.length_range]
      refine st_appendDL rfl l8 (ed_if (d := .int (if lb.getD k 0 ∈ un then 0 else gl.getD k 0)) (eb_B (ed_var rfl (.bl _))) (fun z => ?_) (fun z => ?_)) (by omega) (fun G9 H9 l9 e9 => ?_)
      · rw [Bool.not_eq_true'] at z
        rw [if_neg (of_decide_eq_false z)]
        exact ed_var rfl (.int _)
      · rw [Bool.not_eq_false'] at z
        rw [if_pos (of_decide_eq_true z)]
        exact ed_int
      have e69 := (e6.trans X8.gg).trans e9
      have e19 := (e1.trans X8.gg).trans e9
      refine st_ifD (b := (inPan gl lb un k).isSome) (eb_is (eb_and (eb_not (eb_B (ed_var rfl (.bl _)))) (fun _ => eb_test (ed_op (ed_var rfl (.int _)) ed_int (rd_ne rfl)))) ?_) l9.d.x.ok (fun t GA HA XA => ?_) (fun t GA HA XA => ⟨GA, _, _, _, ps, rfl, ?_, e19.trans XA.gg, e69.trans XA.gg, ?_, by omega⟩)
      · rw [diI]
        show (!(!decide (lb.getD k 0 ∈ un)) && !decide (gl.getD k 0 = 0)) = (if gl.getD k 0 ≠ 0 ∧ lb.getD k 0 ∈ un then some (gl.getD k 0) else none).isSome
        by_cases c1 : gl.getD k 0 = 0
        · rw [if_neg (fun z => z.1 c1), decide_eq_true c1]
          exact Bool.and_false _
        · by_cases c2 : lb.getD k 0 ∈ un
          · rw [if_pos ⟨c1, c2⟩, decide_eq_false c1, decide_eq_true c2]
            rfl
          · rw [if_neg (fun z => c2 z.2), decide_eq_false c1, decide_eq_false c2]
            rfl
      · have lA := l9.step XA
        obtain ⟨qs, e2, c3, lq⟩ := cn.put (gl.getD k 0)
        have ei : inPan gl lb un k = some (gl.getD k 0) := by
          unfold inPan at t ⊢
          split
          · rfl
          · rename_i n
            rw [if_neg n] at t
            cases t
        refine ⟨.ref p3, rfl, p3, rfl, .inl ⟨_, .inl lA.d.h⟩, .int _, rfl, _, DGet.k (k := Sum.inl (gl.getD k 0)) lA.d.h, ((((List.range k).filterMap (inPan gl lb un)).count (gl.getD k 0) : Nat) : Int), 1, ?_, rfl, .ref p3, rfl, .int _, rfl, p3, _, rfl, DPut.k (k := Sum.inl (gl.getD k 0)) lA.d.h (szl (by unfold kvI2; rw [List.length_map]; omega)), ?_⟩
        · exact cn.get (gl.getD k 0)
        · rw [e2]
          refine ⟨GA, _, _, _, qs, rfl, ?_, e19.trans XA.gg, e69.trans XA.gg, ?_, by omega⟩
          · rw [glS_more]
            exact lA.put _
          · rw [range_oneI, ei]
            exact c3
      · rw [glS_more]
        exact l9.step XA
      · rw [range_oneI]
        have ei : inPan gl lb un k = none := by
          cases h : inPan gl lb un k with
          | none => rfl
          | some o =>
            rw [h] at t
            cases t
        rw [ei, Option.toList_none, List.append_nil]
        exact cn
    obtain ⟨y5, y6, y7, ps, rfl, l, e1, e6, cn, few⟩ := pv
    obtain ⟨xs, hf, ax⟩ := l.l.h
    have gf : (upd G' p3 (.dK (kvI2 ps))) f = none := by
      rw [upd_ne l.ne.symm]
      exact l.l.g
    have X9 := l.d.frz.freeze l.l.h0 gf l.l.nb hf
    have g3 : Ex G' (upd G' p3 (.dK (kvI2 ps))) := Ex.new l.d.g
    have g9 : Ex (upd G' p3 (.dK (kvI2 ps))) (upd (upd G' p3 (.dK (kvI2 ps))) f (.lst xs)) := Ex.new gf
    have h3 : (upd (upd G' p3 (.dK (kvI2 ps))) f (.lst xs)) p3 = some (.dK (kvI2 ps)) := g9 _ _ upd_same
    have hf9 : (upd (upd G' p3 (.dK (kvI2 ps))) f (.lst xs)) f = some (.lst xs) := upd_same
    have m9 := g3.trans g9
    generalize upd (upd G' p3 (.dK (kvI2 ps))) f (.lst xs) = G9 at X9 h3 hf9 m9
    have dv9 := dp_mono (X1.gg.trans X9.gg) dv
    have df : Dp K G9 (.ref f) (.list ((glS gl lb un (4 * wn * hn)).map PyData.int)) := .lst (SqL.of hf9) (dpAll_mono m9 ax)
    have kp : glS gl lb un (4 * wn * hn) = keptB gl lb un := by
      unfold glS keptB
      rw [ll]
    have ks : srtI (ps.map (·.1)) = sset ((List.range (4 * wn * hn)).filterMap (inPan gl lb un)) := srtI_is cn.nd (sset_srt _) fun z => by rw [cn.mem, sset_mem]
    have ek : (ps.map fun q => (q.1, PyData.int q.2)).map (·.1) = ps.map (·.1) := by
      rw [List.map_map]
      rfl
    refine st_ret (d := .tuple [planD (wn : Int) (hn : Int) (.tuple (ls.map encT)) (intsT (keptB gl lb un)), .list ((lostB gl lb un).map encT)]) (ed_tup (ea_cons ?_ (ea_cons (EvF.ed (ed_isF (ef_lcL (f := fun d => match d with | .int m => some (encT [m, ((((List.range (4 * wn * hn)).filterMap (inPan gl lb un)).count m : Nat) : Int)]) | _ => none) (EvF.ed (ef_sortI (nn := ps.map fun q => (q.1, PyData.int q.2)) rfl ⟨p3, _, rfl, h3, kv_paired ps⟩)) (by rw [List.length_map, (srtI_perm _).length_eq, List.length_map, List.length_map]; omega) (fun d u Gx md eg cg du => ?_) (fun d u y Gx md eg cg du ey => ?_)) ?_)) ea_nil)) (Nat.le_of_ble_eq_true rfl)) X9.ok (fun w9 GA HA XA dA => q w9 GA HA (X1.trans (X9.trans XA)) ?_)
    · exact ed_op (ed_slT (ed_var rfl dv9) eo_none (eo_some ed_int) (fun h => absurd h.2 (by show ¬ HT.sIx 4 4 (some 3) = 4; decide))) (ed_tup (ea_cons (ed_tupOf (ed_is (ed_var rfl df) (by rw [kp]))) ea_nil) (Nat.le_of_ble_eq_true rfl)) (rd_catT (List.cons_ne_nil _ _) (List.cons_ne_nil _ _) (Nat.le_of_ble_eq_true rfl))
    · obtain ⟨m, _, rfl⟩ := List.mem_map.mp md
      exact eb_yes
    · obtain ⟨m, hm, rfl⟩ := List.mem_map.mp md
      obtain rfl := Option.some.inj ey
      rw [ek, ks, sset_mem] at hm
      obtain rfl := dp_int du
      exact ed_tup (ea_cons (ed_var rfl (.int m)) (ea_cons (ed_dget rfl (eg _ _ h3) (ed_var rfl (.int m)) (cnt_val cn hm) (.int _)) ea_nil)) (Nat.le_of_ble_eq_true rfl)
    · rw [ek, lost_rows ks.symm]
      unfold lostB
      rw [ll]
    · exact dA
/-! _law_row -/
def okM (m : Int) : Prop := 1 ≤ m ∧ m ≤ 9
instance (m : Int) : Decidable (okM m) := inferInstanceAs (Decidable (_ ∧ _))
/-- what the law says of a deed's leads -/
def strL (x y t : Int) (n : Nat) : List (List Int) := (List.range n).map fun k : Nat => nameN (x + (k : Int) * dxL t) (y + (k : Int) * dyL t) t
theorem strL_more (x y t : Int) (n : Nat) : strL x y t (n + 1) = strL x y t n ++ [nameN (x + (n : Int) * dxL t) (y + (n : Int) * dyL t) t] := by
  unfold strL
  rw [List.range_succ, List.map_append]
  rfl
def onAt (w h x y t : Int) (k : Nat) : Bool := onL w h (x + (k : Int) * dxL t) (y + (k : Int) * dyL t)
instance decOkL (t : Int) : Decidable (okL t) := inferInstanceAs (Decidable (_ ∧ _))
def rowW (w h x y t m : Int) : Str × Int × List (List Int) :=
  if onL w h x y = false then ("BadPoint", -1, [])
  else if ¬ okL t then ("BadTurn", -1, [])
  else if ¬ okM m then ("BadMany", -1, [])
  else match (List.range m.toNat).find? (fun k : Nat => !onAt w h x y t (k + 1)) with
    | some k => ("Off", (k : Int), [])
    | none => ("", -1, strL x y t m.toNat)
abbrev RetRow (K : Fg) (B : Bg) (G H : Hp) (Q : VK) (r : Str × Int × List (List Int)) : Prop := Ret3 K B G H Q (.str r.1) (.int r.2.1) (r.2.2.map encT)
def sp__law_row (K : Fg) : Sp := fun vs H Q E => ∃ (B : Bg) (G : Hp) (v u : V) (w h : Int) (L g : PyData) (wo : Str) (x y t m : Int), Ok K B G H ∧ vs = [v, u] ∧ Dp K G v (.tuple [.int w, .int h, L, g]) ∧ Dp K G u (.tuple [.str wo, .int x, .int y, .int t, .int m]) ∧ RetRow K B G H Q (rowW w h x y t m)
theorem dpAll_deed {G : Hp} {vs : List V} {wo : Str} {x y t m : Int} (h : DpAll K G vs [.str wo, .int x, .int y, .int t, .int m]) : vs = [.str wo, .int x, .int y, .int t, .int m] := by
  cases h with
  | cons a r =>
    obtain rfl := dp_str a
    obtain rfl := dpAll_intsV (bs := [x, y, t, m]) r
    rfl
abbrev N__law_row : List Str := ["_law_plan_here", "_law_deed", "_law_word", "_law_x", "_law_y", "_law_pick", "_law_many", "_law_found", "_law_here", "_law_at", "_law_there"]
theorem sc__law_row : FnScope N__law_row ["_law_plan_here", "_law_deed"] (defScope s__law_row) := ⟨rfl, rfl, rfl, by decide +kernel, rfl, by decide +kernel, by decide +kernel⟩
theorem ok__law_row (T : Txt K mg) (G__law_on : Good P w K mg base (L2N.CX P w) 1 "_law_on" ["_law_plan_here", "_law_point"] [] (sp__law_on K)) (G__law_go : Good P w K mg base (L2N.CX P w) 1 "_law_go" ["_law_here", "_law_low", "_law_pick"] [] (sp__law_go K)) (G__law_name : Good P w K mg base (L2N.CX P w) 2 "_law_name" ["_law_here", "_law_low", "_law_pick"] [] (sp__law_name K)) : Good P w K mg base (L2N.CX P w) 3 "_law_row" ["_law_plan_here", "_law_deed"] [] (sp__law_row K) := by
  obtain ⟨fd, F⟩ := T.c.def_ 46 (d := d__law_row) rfl
  have b : Binds K fd ["_law_plan_here", "_law_deed"] [] := F.bindsN fun _ _ _ _ _ _ us hl => match us, hl with | [_, _], _ => rfl
  refine ⟨⟨fd, [], F.ok sc__law_row (fun vs H Q E h => ?_) (fun cdv A outer s H vs Q E hr h => ?_), .nil, b⟩, T.g__law_row, F.kp⟩
  · obtain ⟨B, G, v, u, w, h, L, g, wd, x, y, t, m, e, rfl, _⟩ := h
    all_goals rfl
  · obtain ⟨B, G, v, u, wd, ht, L, g, wo, x, y, t, m, e, rfl, dv, du, q⟩ := h
    all_goals refine ⟨_, PSs.nox (pss_cons (ps_asg (pv 1) (pg_tup rfl (pgs_cons (by exact (pg_name (i := 2) sc__law_row.nd rfl (Or.inl rfl))) (pgs_cons (by exact (pg_name (i := 3) sc__law_row.nd rfl (Or.inl rfl))) (pgs_cons (by exact (pg_name (i := 4) sc__law_row.nd rfl (Or.inl rfl))) (pgs_cons (by exact (pg_name (i := 5) sc__law_row.nd rfl (Or.inl rfl))) (pgs_cons (by exact (pg_name (i := 6) sc__law_row.nd rfl (Or.inl rfl))) pgs_nil))))))) (pss_cons (ps_if (pt_not (pt_val (pe_own G__law_on (hr.mono (by decide)) (by rfl) passLN (pa_cons (pv 0) (pa_cons (pe_tup (pa_cons (pv 3) (pa_cons (pv 4) pa_nil))) pa_nil))))) (pss_one (ps_ret (pe_tup (pa_cons pe_str (pa_cons (pe_op op_sub pe_int pe_int) (pa_cons (pe_lst pa_nil) pa_nil)))))) pss_nil) (pss_cons (ps_if (pt_not (pt_chain op_le op_le pe_int (pv 5) pe_int)) (pss_one (ps_ret (pe_tup (pa_cons pe_str (pa_cons (pe_op op_sub pe_int pe_int) (pa_cons (pe_lst pa_nil) pa_nil)))))) pss_nil) (pss_cons (ps_if (pt_not (pt_chain op_le op_le pe_int (pv 6) pe_int)) (pss_one (ps_ret (pe_tup (pa_cons pe_str (pa_cons (pe_op op_sub pe_int pe_int) (pa_cons (pe_lst pa_nil) pa_nil)))))) pss_nil) (pss_cons (ps_set (i := 7) sc__law_row.nd rfl (Or.inl rfl) (pe_lst pa_nil)) (pss_cons (ps_set (i := 8) sc__law_row.nd rfl (Or.inl rfl) (pe_tup (pa_cons (pv 3) (pa_cons (pv 4) pa_nil)))) (pss_cons (ps_for PassesOwn.never rfl (pi_range1 (by rfl) T.f_range (pa_cons (pv 6) pa_nil)) (pg_name (i := 9) sc__law_row.nd rfl (Or.inl rfl)) (pss_cons (ps_set (i := 10) sc__law_row.nd rfl (Or.inl rfl) (pe_own G__law_go (hr.mono (by decide)) (by rfl) passLN (pa_cons (pe_ix (r := rIxT K) ix_tup (pv 8) pe_int (fun _ _ => rfl)) (pa_cons (pe_ix (r := rIxT K) ix_tup (pv 8) pe_int (fun _ _ => rfl)) (pa_cons (pv 5) pa_nil))))) (pss_cons (ps_if (pt_not (pt_val (pe_own G__law_on (hr.mono (by decide)) (by rfl) passLN (pa_cons (pv 0) (pa_cons (pv 10) pa_nil))))) (pss_one (ps_ret (pe_tup (pa_cons pe_str (pa_cons (pv 9) (pa_cons (pe_lst pa_nil) pa_nil)))))) pss_nil) (pss_cons (ps_expr (pe_bm PySem.F.plainAttrs_list PySem.F.slot_list_append PySem.F.type_list_append mt_append (pv 7) (pa_cons (pe_own G__law_name (hr.mono (by decide)) (by rfl) passLN (pa_cons (pe_ix (r := rIxT K) ix_tup (pv 8) pe_int (fun _ _ => rfl)) (pa_cons (pe_ix (r := rIxT K) ix_tup (pv 8) pe_int (fun _ _ => rfl)) (pa_cons (pv 5) pa_nil)))) pa_nil))) (pss_one (ps_set (i := 8) sc__law_row.nd rfl (Or.inl rfl) (pv 10))))))) (pss_one (ps_ret (pe_tup (pa_cons pe_str (pa_cons (pe_op op_sub pe_int pe_int) (pa_cons (pv 7) pa_nil))))))))))))), ?_⟩
    have rN : ∀ {B : Bg} {G H : Hp} {σ : L2.St} {s : Str} {D : Ends}, Ok K B G H → Ret3 K B G H D.rt (.str s) (.int (0 - 1)) [] → tRet (tTup (tCons (tC (.str s)) (tCons (tOp rSub (tC (.int 0)) (tC (.int 1))) (tCons (tLst tNil) tNil)))) D σ H := fun e q => st_ret3 ed_str (ed_op ed_int ed_int rd_I0) (EvF.toL (ef_lst ea_nil (Nat.le_of_ble_eq_true rfl))) e q
    refine sq_unpack (ed_var rfl du) e rfl (fun vs G1 H1 X1 dvs => ?_)
    obtain rfl := dpAll_deed dvs
    refine ⟨_, _, rfl, _, _, rfl, _, _, rfl, _, _, rfl, _, _, rfl, rfl, ?_⟩
    have dv1 := dp_mono X1.gg dv
    unfold rowW at q
    refine sq_ifN (eb_not (eb_B (ed_on (ea_cons (ed_var rfl dv1) (ea_cons (ed_tup (ea_cons (ed_var rfl (.int x)) (ea_cons (ed_var rfl (.int y)) ea_nil)) (Nat.le_of_ble_eq_true rfl)) ea_nil))))) X1.ok (fun c G2 H2 X2 => ?_) (fun c G2 H2 X2 => ?_)
    · rw [Bool.not_eq_true'] at c
      rw [if_pos c] at q
      exact rN X2.ok (q.mono (X1.trans X2))
    rw [Bool.not_eq_false'] at c
    rw [if_neg (by rw [c]; exact Bool.noConfusion)] at q
    refine sq_ifN (eb_not (eb_test (ed_chain ed_int (ed_var rfl (.int t)) (fun _ => ed_int) rd_B0 (fun _ => rd_B0)))) X2.ok (fun c2 G3 H3 X3 => ?_) (fun c2 G3 H3 X3 => ?_)
    · have z : ¬ okL t := fun z => by
        rw [decide_eq_true z.1, decide_eq_true z.2] at c2
        exact Bool.noConfusion c2
      rw [if_pos z] at q
      exact rN X3.ok (q.mono ((X1.trans X2).trans X3))
    have ot : okL t := by
      simp only [Bool.not_eq_false', Bool.and_eq_true, decide_eq_true_eq] at c2
      exact c2
    rw [if_neg (by intro z; exact z ot)] at q
    refine sq_ifN (eb_not (eb_test (ed_chain ed_int (ed_var rfl (.int m)) (fun _ => ed_int) rd_B0 (fun _ => rd_B0)))) X3.ok (fun c3 G4 H4 X4 => ?_) (fun c3 G4 H4 X4 => ?_)
    · have z : ¬ okM m := fun z => by
        rw [decide_eq_true z.1, decide_eq_true z.2] at c3
        exact Bool.noConfusion c3
      rw [if_pos z] at q
      exact rN X4.ok (q.mono (((X1.trans X2).trans X3).trans X4))
    have om : okM m := by
      simp only [Bool.not_eq_false', Bool.and_eq_true, decide_eq_true_eq] at c3
      exact c3
    rw [if_neg (by intro z; exact z om)] at q
    have Y := ((X1.trans X2).trans X3).trans X4
    obtain ⟨n, rfl, hn⟩ : ∃ n : Nat, m = (n : Int) ∧ n ≤ 9 := ⟨m.toNat, by have := om.1; omega, by have := om.2; omega⟩
    rw [Int.toNat_natCast] at q
    refine sq_setL (ef_lst ea_nil (Nat.le_of_ble_eq_true rfl)) X4.ok (fun p G5 H5 l5 => ?_)
    refine sq_set (ed_tup (ea_cons (ed_var rfl (.int x)) (ea_cons (ed_var rfl (.int y)) ea_nil)) (Nat.le_of_ble_eq_true rfl)) l5.x.ok (fun vh G6 H6 X6 d6 => ?_)
    have l6 := l5.step X6
    refine sq_forR0 (n := n) (Pv := fun j σ' H' => ∃ G' vh y9 y10, σ' = [some v, some u, some (.str wo), some (.int x), some (.int y), some (.int t), some (.int (n : Int)), some (.ref p), some vh, y9, y10] ∧ Loo K B G4 H4 G' H' p ((strL x y t j).map encT) ∧ Dp K G' vh (.tuple [.int (x + (j : Int) * dxL t), .int (y + (j : Int) * dyL t)]) ∧ ∀ i : Nat, i < j → onAt wd ht x y t (i + 1) = true) (ea_cons (ed_var rfl (.int (n : Int))) ea_nil) (by omega) l6.x.ok (fun G7 H7 X7 => ⟨G7, _, _, _, rfl, l6.step X7, ?_, fun _ h => absurd h (Nat.not_lt_zero _)⟩) (fun j σ' H' hj pv => ?_) (fun σ' H' pv => ?_)
    · rw [Int.natCast_zero, Int.zero_mul, Int.add_zero, Int.zero_mul, Int.add_zero]
      exact dp_mono X7.gg d6
    · obtain ⟨G7, vh, y9, y10, rfl, l7, dh, pre⟩ := pv
      refine sq_set (ed_go (ea_cons (ed_op (ed_var rfl dh) ed_int (rd_ixT (i := 0) rfl)) (ea_cons (ed_op (ed_var rfl dh) ed_int (rd_ixT (i := 1) rfl)) (ea_cons (ed_var rfl (.int t)) ea_nil))) ot) l7.x.ok (fun vt G8 H8 X8 d8 => ?_)
      have l8 := l7.step X8
      have hh := dp_mono X8.gg dh
      have on1 : onL wd ht (x + (j : Int) * dxL t + dxL t) (y + (j : Int) * dyL t + dyL t) = onAt wd ht x y t (j + 1) := by
        unfold onAt
        rw [Int.natCast_add, Int.add_mul, Int.add_mul, Int.natCast_one, Int.one_mul, Int.one_mul, Int.add_assoc, Int.add_assoc]
      refine sq_ifN (eb_not (eb_B (ed_on (ea_cons (ed_var rfl (dp_mono ((Y.trans l8.x).gg) dv)) (ea_cons (ed_var rfl d8) ea_nil))))) l8.x.ok (fun c G9 H9 X9 => ?_) (fun c G9 H9 X9 => ?_)
      · rw [Bool.not_eq_true', on1] at c
        have f : (List.range n).find? (fun k : Nat => !onAt wd ht x y t (k + 1)) = some j := List.find?_range_eq_some.mpr ⟨by rw [c]; rfl, List.mem_range.mpr hj, fun i hi => by rw [pre i hi]; rfl⟩
        rw [f] at q
        exact st_ret3 ed_str (ed_var rfl (.int (j : Int))) (EvF.toL (ef_lst ea_nil (Nat.le_of_ble_eq_true rfl))) X9.ok (q.mono (Y.trans (l8.x.trans X9)))
      · rw [Bool.not_eq_false', on1] at c
        have l9 := l8.step X9
        have sl : (strL x y t j).length = j := by
          unfold strL
          exact (List.length_map _).trans List.length_range
        have h9 := dp_mono X9.gg hh
        refine sq_append rfl l9 (ed_lname (ea_cons (ed_op (ed_var rfl h9) ed_int (rd_ixT (i := 0) rfl)) (ea_cons (ed_op (ed_var rfl h9) ed_int (rd_ixT (i := 1) rfl)) (ea_cons (ed_var rfl (.int t)) ea_nil))) ot) (by rw [List.length_map]; omega) (fun GA HA lA eA => ?_)
        refine st_set (ed_var rfl (dp_mono eA (dp_mono X9.gg d8))) lA.x.ok (fun vB GB HB XB dB => ⟨GB, _, _, _, rfl, ?_, ?_, fun i hi => ?_⟩)
        · rw [strL_more, List.map_append]
          exact lA.step XB
        · have z : goL (x + (j : Int) * dxL t) (y + (j : Int) * dyL t) t = .tuple [.int (x + ((j + 1 : Nat) : Int) * dxL t), .int (y + ((j + 1 : Nat) : Int) * dyL t)] := by
            unfold goL
            rw [Int.natCast_add, Int.add_mul, Int.add_mul, Int.natCast_one, Int.one_mul, Int.one_mul, Int.add_assoc, Int.add_assoc]
          rw [← z]
          exact dB
        · rcases Nat.lt_succ_iff_lt_or_eq.mp hi with hi | rfl
          · exact pre i hi
          · exact c
    · obtain ⟨G7, vh, y9, y10, rfl, l7, dh, pre⟩ := pv
      have f : (List.range n).find? (fun k : Nat => !onAt wd ht x y t (k + 1)) = none := List.find?_eq_none.mpr fun i hi => by
        rw [pre i (List.mem_range.mp hi)]
        exact Bool.false_ne_true
      rw [f] at q
      obtain ⟨xs, h7, a7⟩ := l7.h
      have X7 := l7.x.freeze l7.h0 l7.g l7.nb h7
      exact st_ret3 ed_str (ed_op ed_int ed_int rd_I0) (el_var rfl upd_same (dpAll_mono (Ex.new l7.g) a7)) X7.ok (q.mono (Y.trans X7))
/-! _law_glass_word -/
/-- leads without some -/
def remL (ls S : List (List Int)) : List (List Int) := ls.filter fun l => !decide (l ∈ S)
/-! deeds, and what they lead to (wants rowW, remL, setG, setO, srtL) -/
inductive Deed
  | lay (x y t m : Int)
  | pull (x y t m : Int)
  | glaze (q c : Int)
  | shatter (q : Int)
def Deed.d : Deed → PyData
  | .lay x y t m => .tuple [.str "lay", .int x, .int y, .int t, .int m]
  | .pull x y t m => .tuple [.str "pull", .int x, .int y, .int t, .int m]
  | .glaze q c => .tuple [.str "glaze", .int q, .int c]
  | .shatter q => .tuple [.str "shatter", .int q]
/-- what a plan is behind a deed that is done: leads, colours, and what was lost -/
structure Aft where
  ls : List (List Int)
  gl : List Int
  lo : List (List Int)
def dyeG (gl lb : List Int) (q : Nat) (c : Int) : List Int := (List.range lb.length).map fun i => if lb.getD i 0 = lb.getD q 0 then c else gl.getD i 0
def aftW (w h : Nat) (ls : List (List Int)) (gl : List Int) : Deed → Aft
  | .lay x y t m => ⟨srtL (ls ++ (rowW w h x y t m).2.2), gl, []⟩
  | .pull x y t m => ⟨remL ls (rowW w h x y t m).2.2, setG w h (remL ls (rowW w h x y t m).2.2) gl, setO w h (remL ls (rowW w h x y t m).2.2) gl⟩
  | .glaze q c => ⟨ls, dyeG gl (panesL ls w h) q.toNat c, []⟩
  | .shatter q => ⟨ls, dyeG gl (panesL ls w h) q.toNat 0, [[gl.getD q.toNat 0, ((panesL ls w h).count ((panesL ls w h).getD q.toNat 0) : Int)]]⟩
def onQ (w h : Nat) : Deed → Prop
  | .glaze q _ => 0 ≤ q ∧ q < ((4 * w * h : Nat) : Int)
  | .shatter q => 0 ≤ q ∧ q < ((4 * w * h : Nat) : Int)
  | _ => True
/-- glass is set or broken -/
def isG : Deed → Prop
  | .glaze _ _ => True
  | .shatter _ => True
  | _ => False
/-- why glass can't be set or broken -/
def gwW (N : Nat) (gl : List Int) : Deed → Str
  | .glaze n c => wordG N gl n c
  | .shatter n => wordS N gl n
  | _ => ""
def sp__law_glass_word (K : Fg) : Sp := fun vs H Q E => ∃ (B : Bg) (G : Hp) (v u : V) (N : Nat) (a b L : PyData) (gl : List Int) (d : Deed), Ok K B G H ∧ vs = [v, u] ∧ Dp K G v (.tuple [a, b, L, encT gl]) ∧ Dp K G u d.d ∧ gl.length = N ∧ isG d ∧ Ret K B G H Q (.str (gwW N gl d))
theorem nolay2 : ("glaze" : Str) ≠ "shatter" ∧ ("glaze" : Str) ≠ "used" ∧ ("shatter" : Str) ≠ "used" := by decide +kernel
theorem in_iff {n : Int} {N : Nat} : (decide (0 ≤ n) && decide (n < (N : Int))) = true ↔ 0 ≤ n ∧ n < (N : Int) := by
  rw [Bool.and_eq_true]
  rw [decide_eq_true_eq]
  rw [decide_eq_true_eq]
theorem at_glass {gl : List Int} {n : Int} (h : 0 ≤ n ∧ n < (gl.length : Int)) : atI (gl.map PyData.int) n = some (.int (gl.getD n.toNat 0)) := by
  have z := at_int (ls := gl) (j := n.toNat) (by omega)
  rwa [Int.toNat_of_nonneg h.1] at z
abbrev N__law_glass_word : List Str := ["_law_plan_here", "_law_deed"]
theorem sc__law_glass_word : FnScope N__law_glass_word ["_law_plan_here", "_law_deed"] (defScope s__law_glass_word) := ⟨rfl, rfl, rfl, by decide +kernel, rfl, by decide +kernel, by decide +kernel⟩
theorem ok__law_glass_word (T : Txt K mg)  : Good P w K mg base (L2N.CX P w) 1 "_law_glass_word" ["_law_plan_here", "_law_deed"] [] (sp__law_glass_word K) := by
  obtain ⟨fd, F⟩ := T.c.def_ 47 (d := d__law_glass_word) rfl
  have b : Binds K fd ["_law_plan_here", "_law_deed"] [] := F.bindsN fun _ _ _ _ _ _ us hl => match us, hl with | [_, _], _ => rfl
  refine ⟨⟨fd, [], F.ok sc__law_glass_word (fun vs H Q E h => ?_) (fun cdv A outer s H vs Q E hr h => ?_), .nil, b⟩, T.g__law_glass_word, F.kp⟩
  · obtain ⟨B, G, v, u, N, a, b, L, gl, d, e, rfl, _⟩ := h
    all_goals rfl
  · obtain ⟨B, G, v, u, N, a, b, L, gl, d, e, rfl, dv, du, hg, hd, q⟩ := h
    all_goals refine ⟨_, PSs.nox (pss_cons (ps_if (pt_not (pt_chain op_le op_lt pe_int (pe_ix (r := rIxT K) ix_tup (pv 1) pe_int (fun _ _ => rfl)) (pe_callB (r := rLenS K) call_len_seq (by rfl) T.f_len (by decide +kernel) (pa_cons (pe_ix (r := rIxT K) ix_tup (pv 0) pe_int (fun _ _ => rfl)) pa_nil)))) (pss_one (ps_ret pe_str)) pss_nil) (pss_cons (ps_if (pt_cmpR op_eq (pe_ix (r := rIxT K) ix_tup (pv 1) pe_int (fun _ _ => rfl)) pe_str (nomark _)) (pss_one (ps_ret (pe_ifExp (pt_cmpR op_eq (pe_ix (r := rIxT K) ix_tup (pe_ix (r := rIxT K) ix_tup (pv 0) pe_int (fun _ _ => rfl)) (pe_ix (r := rIxT K) ix_tup (pv 1) pe_int (fun _ _ => rfl)) (fun _ _ => rfl)) pe_int (nomark _)) pe_str pe_str))) pss_nil) (pss_cons (ps_if (pt_not (pt_chain op_le op_le pe_int (pe_ix (r := rIxT K) ix_tup (pv 1) pe_int (fun _ _ => rfl)) pe_int)) (pss_one (ps_ret pe_str)) pss_nil) (pss_one (ps_ret (pe_ifExp (pt_cmpR op_ne (pe_ix (r := rIxT K) ix_tup (pe_ix (r := rIxT K) ix_tup (pv 0) pe_int (fun _ _ => rfl)) (pe_ix (r := rIxT K) ix_tup (pv 1) pe_int (fun _ _ => rfl)) (fun _ _ => rfl)) pe_int (nomark _)) pe_str pe_str)))))), ?_⟩
    subst hg
    have gA : ∀ {σ : L2.St} {G' : Hp}, σ[0]? = some (some v) → Ex G G' → EvD K B (tOp (rIxT K) (tVar 0) (tC (.int 3))) σ G' (encT gl) := fun h0 eg => ed_op (ed_var h0 (dp_mono eg dv)) ed_int (rd_ixT (i := 3) rfl)
    have lA : ∀ {σ : L2.St} {G' : Hp}, σ[0]? = some (some v) → Ex G G' → EvD K B (tCB (rLenS K) (tCons (tOp (rIxT K) (tVar 0) (tC (.int 3))) tNil)) σ G' (.int (gl.length : Int)) := fun h0 eg => ed_len (n := gl.length) (gA h0 eg) (congrArg some (List.length_map _))
    cases d with
    | lay x y t m => exact hd.elim
    | pull x y t m => exact hd.elim
    | glaze n c =>
      have du : ∀ {G' : Hp}, Ex G G' → Dp K G' u (.tuple [.str "glaze", .int n, .int c]) := fun eg => dp_mono eg du
      have q : Ret K B G H Q (.str (wordG gl.length gl n c)) := q
      unfold wordG at q
      refine sq_ifN (b := !(decide (0 ≤ n) && decide (n < (gl.length : Int)))) (eb_not (eb_test (ed_chain ed_int (ed_op (ed_var rfl (du (Ex.refl _))) ed_int (rd_ixT (i := 1) rfl)) (fun _ => lA rfl (Ex.refl _)) rd_B0 (fun _ => rd_B0)))) e (fun z G1 H1 X1 => ?_) (fun z G1 H1 X1 => ?_)
      · rw [if_pos (fun y => by rw [in_iff.mpr y] at z; cases z)] at q
        exact st_ret ed_str X1.ok (q.mono X1)
      rw [Bool.not_eq_false'] at z
      have z := in_iff.mp z
      rw [if_neg (fun y : ¬ _ => y z)] at q
      refine sq_if (b := false) (eb_is (eb_test (ed_op (ed_op (ed_var rfl (du X1.gg)) ed_int (rd_ixT (i := 0) rfl)) ed_str (rd_eq rfl))) (dsB.trans (decide_eq_false nolay2.1))) X1.ok (fun y => by cases y) (fun _ G2 H2 X2 => ?_)
      have Y2 := X1.trans X2
      refine sq_ifN (b := !(decide (1 ≤ c) && decide (c ≤ 9))) (eb_not (eb_test (ed_chain ed_int (ed_op (ed_var rfl (du Y2.gg)) ed_int (rd_ixT (i := 2) rfl)) (fun _ => ed_int) rd_B0 (fun _ => rd_B0)))) X2.ok (fun y G3 H3 X3 => ?_) (fun y G3 H3 X3 => ?_)
      · rw [if_pos (fun o : okC c => by rw [decide_eq_true o.1, decide_eq_true o.2] at y; cases y)] at q
        exact st_ret ed_str X3.ok (q.mono (Y2.trans X3))
      have o : okC c := by
        simp only [Bool.not_eq_false', decide_eq_true_eq, Bool.and_eq_true] at y
        exact y
      rw [if_neg (fun y : ¬ _ => y o)] at q
      have Y3 := Y2.trans X3
      refine st_ret (ed_if (b := !decide (gl.getD n.toNat 0 = 0)) (eb_is (eb_test (ed_op (ed_op (gA rfl Y3.gg) (ed_op (ed_var rfl (du Y3.gg)) ed_int (rd_ixT (i := 1) rfl)) (rd_ixT (at_glass z))) ed_int (rd_ne rfl))) (congrArg (fun b => !b) diI)) (fun y => ?_) (fun y => ?_)) X3.ok (q.mono Y3)
      · rw [Bool.not_eq_true'] at y
        rw [if_pos (of_decide_eq_false y)]
        exact ed_str
      · rw [Bool.not_eq_false'] at y
        rw [if_neg (fun k => k (of_decide_eq_true y))]
        exact ed_str
    | shatter n =>
      have du : ∀ {G' : Hp}, Ex G G' → Dp K G' u (.tuple [.str "shatter", .int n]) := fun eg => dp_mono eg du
      have q : Ret K B G H Q (.str (wordS gl.length gl n)) := q
      unfold wordS at q
      refine sq_ifN (b := !(decide (0 ≤ n) && decide (n < (gl.length : Int)))) (eb_not (eb_test (ed_chain ed_int (ed_op (ed_var rfl (du (Ex.refl _))) ed_int (rd_ixT (i := 1) rfl)) (fun _ => lA rfl (Ex.refl _)) rd_B0 (fun _ => rd_B0)))) e (fun z G1 H1 X1 => ?_) (fun z G1 H1 X1 => ?_)
      · rw [if_pos (fun y => by rw [in_iff.mpr y] at z; cases z)] at q
        exact st_ret ed_str X1.ok (q.mono X1)
      rw [Bool.not_eq_false'] at z
      have z := in_iff.mp z
      rw [if_neg (fun y : ¬ _ => y z)] at q
      refine sq_if (b := true) (eb_is (eb_test (ed_op (ed_op (ed_var rfl (du X1.gg)) ed_int (rd_ixT (i := 0) rfl)) ed_str (rd_eq rfl))) (dsB.trans (decide_eq_true rfl))) X1.ok (fun _ G2 H2 X2 => ?_) (fun y => by cases y)
      have Y2 := X1.trans X2
      refine st_ret (ed_if (b := decide (gl.getD n.toNat 0 = 0)) (eb_is (eb_test (ed_op (ed_op (gA rfl Y2.gg) (ed_op (ed_var rfl (du Y2.gg)) ed_int (rd_ixT (i := 1) rfl)) (rd_ixT (at_glass z))) ed_int (rd_eq rfl))) diI) (fun y => ?_) (fun y => ?_)) X2.ok (q.mono Y2)
      · rw [if_pos (of_decide_eq_true y)]
        exact ed_str
      · rw [if_neg (of_decide_eq_false y)]
        exact ed_str
theorem ed_gword {B : Bg} {G : Hp} {σ : L2.St} {tr : TA} {E : XK} {N : Nat} {a b L : PyData} {gl : List Int} {d : Deed} (ha : EvA K B tr σ G [.tuple [a, b, L, encT gl], d.d]) (hg : gl.length = N) (hd : isG d) : EvD K B (tCall (sp__law_glass_word K) [] E tr) σ G (.str (gwW N gl d)) :=
  ed_call ha fun vs G2 H2 _ e dv Q q => by
    cases dv with
    | cons h a =>
      cases a with
      | cons h2 a2 =>
        cases a2
        exact ⟨B, G2, _, _, N, _, _, _, gl, d, e, rfl, h, h2, hg, hd, q⟩
/-! _law_dyed -/
def sp__law_dyed (K : Fg) : Sp := fun vs H Q E => ∃ (B : Bg) (G : Hp) (v : V) (w h : Nat) (ls : List (List Int)) (gl : List Int) (q0 : Nat) (c : Int), Ok K B G H ∧ vs = [v, .int (q0 : Int), .int c] ∧ Dp K G v (planD (w : Int) (h : Int) (.tuple (ls.map encT)) (intsT gl)) ∧ w ≤ 9 ∧ h ≤ 9 ∧ gl.length = 4 * w * h ∧ q0 < 4 * w * h ∧ RetW K B G H Q (planD (w : Int) (h : Int) (.tuple (ls.map encT)) (intsT (dyeG gl (panesL ls w h) q0 c))) (Gk K)
theorem dye_data (gl lb : List Int) (q : Nat) (c : Int) : ((List.range lb.length).filterMap fun i : Nat => some (PyData.int (if lb.getD i 0 = lb.getD q 0 then c else gl.getD i 0))) = (dyeG gl lb q c).map PyData.int := by
  unfold dyeG
  rw [List.map_map, ← List.filterMap_eq_map]
  rfl
abbrev N__law_dyed : List Str := ["_law_plan_here", "_law_quarter", "_law_colour", "_law_labels", "_law_glass_here", "_law_at"]
theorem sc__law_dyed : FnScope N__law_dyed ["_law_plan_here", "_law_quarter", "_law_colour"] (defScope s__law_dyed) := ⟨rfl, rfl, rfl, by decide +kernel, rfl, by decide +kernel, by decide +kernel⟩
theorem ok__law_dyed (T : Txt K mg) (G__law_panes : Good P w K mg base (L2N.CX P w) 3 "_law_panes" ["_law_plan_here"] [] (sp__law_panes K)) : Good P w K mg base (L2N.CX P w) 4 "_law_dyed" ["_law_plan_here", "_law_quarter", "_law_colour"] [] (sp__law_dyed K) := by
  obtain ⟨fd, F⟩ := T.c.def_ 48 (d := d__law_dyed) rfl
  have b : Binds K fd ["_law_plan_here", "_law_quarter", "_law_colour"] [] := F.bindsN fun _ _ _ _ _ _ us hl => match us, hl with | [_, _, _], _ => rfl
  refine ⟨⟨fd, [], F.ok sc__law_dyed (fun vs H Q E h => ?_) (fun cdv A outer s H vs Q E hr h => ?_), .nil, b⟩, T.g__law_dyed, F.kp⟩
  · obtain ⟨B, G, v, w, h, ls, gl, q0, c, e, rfl, _⟩ := h
    all_goals rfl
  · obtain ⟨B, G, v, wn, hn, ls, gl, q0, c, e, rfl, dv, hw, hh, hg, hq, q⟩ := h
    all_goals refine ⟨_, PSs.nox (pss_cons (ps_set (i := 3) sc__law_dyed.nd rfl (Or.inr rfl) (pe_own G__law_panes (hr.mono (by decide)) (by rfl) passLN (pa_cons (pv 0) pa_nil))) (pss_cons (ps_setLc (i := 4) (own := [("_law_at", 5)]) (g := gName 5) rfl sc__law_dyed.nd rfl rfl (sw_true rfl rfl rfl (by decide +kernel)) (pi_range1 (by rfl) T.f_range (pa_cons (pe_callB (r := rLenS K) call_len_seq (by rfl) T.f_len (by decide +kernel) (pa_cons (pv 3) pa_nil)) pa_nil)) (blkOk_by (own := [("_law_at", 5)]) (N := N__law_dyed) (sc := defScope s__law_dyed) (by decide +kernel)) (fun _ _ _ _ _ => (pg_name (i := 5) sc__law_dyed.nd rfl (Or.inl rfl))) (fun _ _ _ _ _ => pts_nil) (fun _ _ _ _ _ => (pe_ifExp (pt_cmpR op_eq (pe_ix (r := rIxL K) ix_list (pv 3) (pv 5) (fun _ _ => rfl)) (pe_ix (r := rIxL K) ix_list (pv 3) (pv 1) (fun _ _ => rfl)) (nomark _)) (pv 2) (pe_ix (r := rIxT K) ix_tup (pe_ix (r := rIxT K) ix_tup (pv 0) pe_int (fun _ _ => rfl)) (pv 5) (fun _ _ => rfl))))) (pss_one (ps_ret (pe_op (r := rCatT K) op_catT (pe_slice (r := rSlT K) sl_tup (pv 0) po_none (po_some pe_int)) (pe_tup (pa_cons (pe_callTy (r := rTupK K) cr_tupK (by rfl) T.f_tuple (by decide +kernel) (pa_cons (pv 4) pa_nil)) pa_nil))))))), ?_⟩
    have n4 : 4 * wn * hn ≤ 400 := Nat.le_trans (Nat.mul_le_mul (Nat.mul_le_mul_left 4 hw) hh) (by decide)
    have dv : Dp K G v (.tuple [.int (wn : Int), .int (hn : Int), .tuple (ls.map encT), .tuple (gl.map .int)]) := dv
    refine sq_set (ed_panes (ea_cons (ed_var rfl dv) ea_nil) hw hh) e (fun v1 G1 H1 X1 d1 => ?_)
    have ll : (panesL ls wn hn).length = 4 * wn * hn := joined_len _ _
    generalize panesL ls wn hn = lb at d1 q ll
    have dv1 := dp_mono X1.gg dv
    refine sq_set (d := .list ((dyeG gl lb q0 c).map PyData.int)) (EvF.ed (ed_isF (ef_lcR (n := lb.length) (f := fun i : Int => some (PyData.int (if lb.getD i.toNat 0 = lb.getD q0 0 then c else gl.getD i.toNat 0))) (ea_cons (ed_len (n := lb.length) (ed_var rfl d1) (congrArg some (List.length_map _))) ea_nil) (by omega) (fun k hk => eb_yes) (fun k d hk ed => ?_)) (dye_data gl lb q0 c))) X1.ok (fun v4 G4 H4 X4 d4 => ?_)
    · obtain rfl := Option.some.inj ed
      rw [Int.toNat_natCast]
      show EvD K B _ [some v, some (.int (q0 : Int)), some (.int c), some v1, none, some (.int (k : Int))] G1 _
      refine ed_if (b := decide (lb.getD k 0 = lb.getD q0 0)) (eb_is (eb_test (ed_op (ed_op (ed_var rfl d1) (ed_var rfl (.int (k : Int))) (rd_ixL (at_int hk))) (ed_op (ed_var rfl d1) (ed_var rfl (.int (q0 : Int))) (rd_ixL (at_int (by omega)))) (rd_eq rfl))) diI) (fun z => ?_) (fun z => ?_)
      · rw [if_pos (of_decide_eq_true z)]
        exact ed_var rfl (.int c)
      · rw [if_neg (of_decide_eq_false z)]
        exact ed_op (ed_op (ed_var rfl dv1) ed_int (rd_ixT (i := 3) rfl)) (ed_var rfl (.int (k : Int))) (rd_ixT (at_int (by omega)))
    refine st_retW ((ek_cat (ds := [.int (wn : Int), .int (hn : Int), .tuple (ls.map encT)]) (R := fun es => es = [intsT (dyeG gl lb q0 c)]) (ed_slT (ed_var rfl (dp_mono X4.gg dv1)) eo_none (eo_some ed_int) (fun h => absurd h.2 (by show ¬ HT.sIx 4 4 (some 3) = 4; decide))) ((ek_tup (eak_last (ek_tupOf (ed_var rfl d4))) (fun ds z => ?_)).to fun d z => ?_) (List.cons_ne_nil _ _) (fun es z => by subst z; exact Nat.le_of_ble_eq_true rfl)).to fun d z => ?_) X4.ok (q.mono (X1.trans X4))
    · obtain ⟨_, rfl, _⟩ := z
      exact Nat.le_of_ble_eq_true rfl
    · obtain ⟨_, rfl, _, rfl, rfl⟩ := z
      exact ⟨_, rfl, rfl⟩
    · obtain ⟨es, rfl, rfl⟩ := z
      rfl
theorem ek_dyed {B : Bg} {G : Hp} {σ : L2.St} {tr : TA} {E : XK} {wn hn : Nat} {ls : List (List Int)} {gl : List Int} {q0 : Nat} {c : Int} (ha : EvA K B tr σ G [planD (wn : Int) (hn : Int) (.tuple (ls.map encT)) (intsT gl), .int (q0 : Int), .int c]) (hw : wn ≤ 9) (hh : hn ≤ 9) (hg : gl.length = 4 * wn * hn) (hq : q0 < 4 * wn * hn) : EvW K B (tCall (sp__law_dyed K) [] E tr) σ G (planD (wn : Int) (hn : Int) (.tuple (ls.map encT)) (intsT (dyeG gl (panesL ls wn hn) q0 c))) (Gk K) :=
  ekw_call ha fun vs G2 H2 _ e dv Q q => by
    cases dv with
    | cons h a =>
      have z := dpAll_intsV (bs := [(q0 : Int), c]) a
      subst z
      exact ⟨B, G2, _, wn, hn, ls, gl, q0, c, e, rfl, h, hw, hh, hg, hq, q⟩
/-! _law_world -/
def sp__law_world (K : Fg) : Sp := fun vs H Q E => ∃ (B : Bg) (G : Hp) (v : V) (d : PyData), Ok K B G H ∧ vs = [v] ∧ Dp K G v d ∧ Gk K G v d ∧ RetWk K B G H Q "plan" "lost" "deeds" d (.tuple []) []
theorem n_pl : ("plan" : Str) ≠ "lost" := by decide +kernel
theorem n_pd : ("plan" : Str) ≠ "deeds" := by decide +kernel
theorem n_ld : ("lost" : Str) ≠ "deeds" := by decide +kernel
abbrev N__law_world : List Str := ["_law_plan_here"]
theorem sc__law_world : FnScope N__law_world ["_law_plan_here"] (defScope s__law_world) := ⟨rfl, rfl, rfl, by decide +kernel, rfl, by decide +kernel, by decide +kernel⟩
theorem ok__law_world (T : Txt K mg)  : Good P w K mg base (L2N.CX P w) 1 "_law_world" ["_law_plan_here"] [] (sp__law_world K) := by
  obtain ⟨fd, F⟩ := T.c.def_ 49 (d := d__law_world) rfl
  have b : Binds K fd ["_law_plan_here"] [] := F.bindsN fun _ _ _ _ _ _ us hl => match us, hl with | [_], _ => rfl
  refine ⟨⟨fd, [], F.ok sc__law_world (fun vs H Q E h => ?_) (fun cdv A outer s H vs Q E hr h => ?_), .nil, b⟩, T.g__law_world, F.kp⟩
  · obtain ⟨B, G, v, d, e, rfl, _⟩ := h
    all_goals rfl
  · obtain ⟨B, G, v, d, e, rfl, dv, gk, q⟩ := h
    all_goals refine ⟨_, PSs.nox (pss_one (ps_ret (pe_disp (pps_cons pe_str (pv 0) (pps_cons pe_str (pe_tup pa_nil) (pps_cons pe_str (pe_lst pa_nil) pps_nil))) (by rfl) (by rfl) (fun z => by cases z) (by decide)))), ?_⟩
    exact st_retWk (ew_dispK (ek_var rfl dv gk) (ed_tup ea_nil (Nat.le_of_ble_eq_true rfl)) (ef_lst ea_nil (Nat.le_of_ble_eq_true rfl)) n_pl n_pd n_ld) e q
theorem ew_worldK {B : Bg} {G : Hp} {σ : L2.St} {E : XK} {d : PyData} {i : Nat} {v : V} (hσ : σ[i]? = some (some v)) (dv : Dp K G v d) (gk : Gk K G v d) : EvWk K B (tCall (sp__law_world K) [] E (tCons (tVar i) tNil)) σ G "plan" "lost" "deeds" d (.tuple []) [] := fun H e Q q =>
  ⟨v, hσ, B, G, v, d, e, rfl, dv, gk, q⟩
/-! _law_after -/
def sp__law_after (K : Fg) : Sp := fun vs H Q E => ∃ (B : Bg) (G : Hp) (v u : V) (w h : Nat) (ls : List (List Int)) (gl : List Int) (lo ds : List PyData) (d : Deed), Ok K B G H ∧ vs = [v, u] ∧ DpWo K G "plan" "lost" "deeds" v (planD (w : Int) (h : Int) (.tuple (ls.map encT)) (intsT gl)) (.tuple lo) ds ∧ Dp K G u d.d ∧ w ≤ 9 ∧ h ≤ 9 ∧ gl.length = 4 * w * h ∧ ls.length ≤ 1000 ∧ (∀ l ∈ ls, l ≠ []) ∧ lo.length ≤ 50000 ∧ ds.length ≤ 50000 ∧ onQ w h d ∧ isG d ∧ RetWk K B G H Q "plan" "lost" "deeds" (planD (w : Int) (h : Int) (.tuple ((aftW w h ls gl d).ls.map encT)) (intsT (aftW w h ls gl d).gl)) (.tuple (lo ++ (aftW w h ls gl d).lo.map encT)) (ds ++ [d.d])
/-! xs.count(x) -/
def rCountD (K : Fg) : V → List V → Hp → VK → Prop := fun x xs H Q => ∃ (a : Addr) (y : V) (d : PyData) (ds : List PyData), x = V.ref a ∧ xs = [y] ∧ Dp K H (V.ref a) (.list ds) ∧ Dp K H y d ∧ SeqAt.shaped (.list ds) = true ∧ SeqAt.shaped d = true ∧ Q (.int ((ds.countP fun z => PyData.eqv z d : Nat) : Int)) H
theorem mt_lcountD {X : Cx} (hu : X.A.units + 65 < cLine) : MtR X "list.count" (rCountD X.K) := by
  intro pins s σ H x xs v us Q I rx qs hh
  obtain ⟨a, y, d, ds, rfl, rfl, hl, hy, sl, sd, q⟩ := hh
  cases rx
  cases qs with
  | cons ry rt =>
    rename_i uy ut
    cases rt
    obtain ⟨b1, r1⟩ := Dp.reads I d y uy hy ry
    have lay : PyData.canLayAll0 ds = true := SeqAt.canLay_of_shaped sl
    have room : X.A.units + 1 + min (PyData.depthAll ds) d.depth < cLine := room_in_shaped sd hu
    cases hl with
    | lst hs ha =>
      obtain ⟨its, rv, ⟨⟨cls, dd, data, sls⟩, n, ho, e1, e2, e3⟩, _⟩ := I.list hs
      simp only at e1 e3
      subst e1 e3
      obtain ⟨a4, h4⟩ := Dp.readsAll I ds _ its ha rv
      have mp : its.map (SeqAt.readOf s.heap) = ds := SeqAt.readsAll_map ds its a4 lay h4
      have ao : _ := ho
      refine call_meets PySem.F.slot_list_count ⟨_, ao, rfl⟩ PySem.F.entry_list_count (PySem.F.args_list_count_2 _ _)
        (SeqAt.list_countAt a its.toArray n dd sls uy fun u => PyData.eqv (SeqAt.readOf s.heap u) d) ⟨ho, SeqAt.items_eqAt (vs := its.toArray) (show ReadsAll s.heap its.toArray.toList ds a4 from h4) r1 lay (SeqAt.canLay_of_shaped sd) room, ?_⟩
      have ec : its.toArray.toList.countP (fun u => PyData.eqv (SeqAt.readOf s.heap u) d) = ds.countP fun z => PyData.eqv z d := by
        rw [← mp, List.countP_map]
        rfl
      refine ⟨.int ((ds.countP fun z => PyData.eqv z d : Nat) : Int), H, I.tok _, ⟨s.toks, ?_⟩, q⟩
      rw [ec]
theorem ed_lcountD {B : Bg} {G : Hp} {σ : L2.St} {i : Nat} {v : V} {ds : List PyData} {ta : TE} {d : PyData} (hσ : σ[i]? = some (some v)) (dv : Dp K G v (.list ds)) (ha : EvD K B ta σ G d) (sl : SeqAt.shaped (.list ds) = true) (sd : SeqAt.shaped d = true) : EvD K B (tBM K "list" (rCountD K) (tVar i) (tCons ta tNil)) σ G (.int ((ds.countP fun z => PyData.eqv z d : Nat) : Int)) := fun H e Q q => by
  obtain ⟨a, xs, rfl, hs, dx⟩ := dp_lst dv
  exact ⟨.ref a, hσ, .inl ⟨rfl, xs, ex_l e.e hs⟩, ha H e _ fun y G2 H2 X dy => ⟨a, y, d, ds, rfl, rfl, .lst (ex_l (X.gg.trans X.ok.e) hs) (dpAll_mono (X.gg.trans X.ok.e) dx), dp_mono X.ok.e dy, sl, sd, q _ G2 H2 X (.int _)⟩⟩
theorem nolay : ("pull" : Str) ≠ "lay" ∧ ("glaze" : Str) ≠ "lay" ∧ ("glaze" : Str) ≠ "pull" ∧ ("glaze" : Str) ≠ "shatter" ∧ ("shatter" : Str) ≠ "lay" ∧ ("shatter" : Str) ≠ "pull" := by decide +kernel
abbrev N__law_after : List Str := ["_law_world_here", "_law_deed", "_law_plan_here", "_law_lost", "_law_some_here", "_law_made", "_law_still", "_law_gone", "_law_labels", "_law_many", "_law_name_here"]
theorem sc__law_after : FnScope N__law_after ["_law_world_here", "_law_deed"] (defScope s__law_after) := ⟨rfl, rfl, rfl, by decide +kernel, rfl, by decide +kernel, by decide +kernel⟩
theorem ok__law_after (T : Txt K mg) (G__law_row : Good P w K mg base (L2N.CX P w) 3 "_law_row" ["_law_plan_here", "_law_deed"] [] (sp__law_row K)) (G__law_settled : Good P w K mg base (L2N.CX P w) 4 "_law_settled" ["_law_plan_here"] [] (sp__law_settled K)) (G__law_dyed : Good P w K mg base (L2N.CX P w) 4 "_law_dyed" ["_law_plan_here", "_law_quarter", "_law_colour"] [] (sp__law_dyed K)) (G__law_panes : Good P w K mg base (L2N.CX P w) 3 "_law_panes" ["_law_plan_here"] [] (sp__law_panes K)) : Good P w K mg base (L2N.CX P w) 5 "_law_after" ["_law_world_here", "_law_deed"] [] (sp__law_after K) := by
  obtain ⟨fd, F⟩ := T.c.def_ 50 (d := d__law_after) rfl
  have b : Binds K fd ["_law_world_here", "_law_deed"] [] := F.bindsN fun _ _ _ _ _ _ us hl => match us, hl with | [_, _], _ => rfl
  refine ⟨⟨fd, [], F.ok sc__law_after (fun vs H Q E h => ?_) (fun cdv A outer s H vs Q E hr h => ?_), .nil, b⟩, T.g__law_after, F.kp⟩
  · obtain ⟨B, G, v, u, w, h, ls, gl, lo, ds, d, e, rfl, _⟩ := h
    all_goals rfl
  · obtain ⟨B, G, v, u, wn, hn, ls, gl, lo, ds, d, e, rfl, dv, du, hw, hh, hg, hl, hn3, hlo, hds, hq, hgl, q⟩ := h
    all_goals refine ⟨_, PSs.nox (pss_cons (ps_set (i := 2) sc__law_after.nd rfl (Or.inl rfl) (pe_dget (hu_of hr) (pv 0) pe_str (fun _ _ => rfl))) (pss_cons (ps_set (i := 3) sc__law_after.nd rfl (Or.inl rfl) (pe_tup pa_nil)) (pss_cons (ps_if (pt_cmpR op_eq (pe_ix (r := rIxT K) ix_tup (pv 1) pe_int (fun _ _ => rfl)) pe_str (nomark _)) (pss_cons (ps_set (i := 4) sc__law_after.nd rfl (Or.inr rfl) (pe_callB (r := rSortedL K) cr_sortedL (by rfl) T.f_sorted (by decide +kernel) (pa_cons (pe_op op_cat (pe_callTy (r := rListS K) call_list_of (by rfl) T.f_list (by decide +kernel) (pa_cons (pe_ix (r := rIxT K) ix_tup (pv 2) pe_int (fun _ _ => rfl)) pa_nil)) (pe_ix (r := rIxT K) ix_tup (pe_own G__law_row (hr.mono (by decide)) (by rfl) passLN (pa_cons (pv 2) (pa_cons (pv 1) pa_nil))) pe_int (fun _ _ => rfl))) pa_nil))) (pss_one (ps_set (i := 5) sc__law_after.nd rfl (Or.inl rfl) (pe_op (r := rCatT K) op_catT (pe_slice (r := rSlT K) sl_tup (pv 2) po_none (po_some pe_int)) (pe_tup (pa_cons (pe_callTy (r := rTupS K) call_tuple_of (by rfl) T.f_tuple (by decide +kernel) (pa_cons (pv 4) pa_nil)) (pa_cons (pe_ix (r := rIxT K) ix_tup (pv 2) pe_int (fun _ _ => rfl)) pa_nil))))))) (pss_one (ps_if (pt_cmpR op_eq (pe_ix (r := rIxT K) ix_tup (pv 1) pe_int (fun _ _ => rfl)) pe_str (nomark _)) (pss_cons (ps_set (i := 4) sc__law_after.nd rfl (Or.inr rfl) (pe_ix (r := rIxT K) ix_tup (pe_own G__law_row (hr.mono (by decide)) (by rfl) passLN (pa_cons (pv 2) (pa_cons (pv 1) pa_nil))) pe_int (fun _ _ => rfl))) (pss_cons (ps_set (i := 6) sc__law_after.nd rfl (Or.inl rfl) (pe_callTy (r := rTupS K) call_tuple_of (by rfl) T.f_tuple (by decide +kernel) (pa_cons (pe_lc (own := [("_law_name_here", 10)]) (g := gName 10) rfl sc__law_after.nd (pi_tup (pe_ix (r := rIxT K) ix_tup (pv 2) pe_int (fun _ _ => rfl))) (blkOk_by (own := [("_law_name_here", 10)]) (N := N__law_after) (sc := defScope s__law_after) (by decide +kernel)) (fun _ _ _ _ _ => (pg_name (i := 10) sc__law_after.nd rfl (Or.inl rfl))) (fun _ _ _ _ _ => (pts_one (pt_cmpR (r := rNotInD K) (op_notInD (hu65 hr)) (pv 10) (pv 4) (by rfl)))) (fun _ _ _ _ _ => (pv 10))) pa_nil))) (pss_cons (ps_asg (pe_own G__law_settled (hr.mono (by decide)) (by rfl) passLN (pa_cons (pe_op (r := rCatT K) op_catT (pe_slice (r := rSlT K) sl_tup (pv 2) po_none (po_some pe_int)) (pe_tup (pa_cons (pv 6) (pa_cons (pe_ix (r := rIxT K) ix_tup (pv 2) pe_int (fun _ _ => rfl)) pa_nil)))) pa_nil)) (pg_tup rfl (pgs_cons (by exact (pg_name (i := 5) sc__law_after.nd rfl (Or.inl rfl))) (pgs_cons (by exact (pg_name (i := 7) sc__law_after.nd rfl (Or.inl rfl))) pgs_nil)))) (pss_one (ps_set (i := 3) sc__law_after.nd rfl (Or.inl rfl) (pe_callTy (r := rTupS K) call_tuple_of (by rfl) T.f_tuple (by decide +kernel) (pa_cons (pv 7) pa_nil))))))) (pss_cons (ps_set (i := 5) sc__law_after.nd rfl (Or.inl rfl) (pe_own G__law_dyed (hr.mono (by decide)) (by rfl) passLN (pa_cons (pv 2) (pa_cons (pe_ix (r := rIxT K) ix_tup (pv 1) pe_int (fun _ _ => rfl)) (pa_cons (pe_ifExp (pt_cmpR op_eq (pe_ix (r := rIxT K) ix_tup (pv 1) pe_int (fun _ _ => rfl)) pe_str (nomark _)) pe_int (pe_ix (r := rIxT K) ix_tup (pv 1) pe_int (fun _ _ => rfl))) pa_nil))))) (pss_one (ps_if (pt_cmpR op_eq (pe_ix (r := rIxT K) ix_tup (pv 1) pe_int (fun _ _ => rfl)) pe_str (nomark _)) (pss_cons (ps_set (i := 8) sc__law_after.nd rfl (Or.inl rfl) (pe_own G__law_panes (hr.mono (by decide)) (by rfl) passLN (pa_cons (pv 2) pa_nil))) (pss_cons (ps_set (i := 9) sc__law_after.nd rfl (Or.inl rfl) (pe_bm PySem.F.plainAttrs_list PySem.F.slot_list_count PySem.F.type_list_count (mt_lcountD (hu65 hr)) (pv 8) (pa_cons (pe_ix (r := rIxL K) ix_list (pv 8) (pe_ix (r := rIxT K) ix_tup (pv 1) pe_int (fun _ _ => rfl)) (fun _ _ => rfl)) pa_nil))) (pss_one (ps_set (i := 3) sc__law_after.nd rfl (Or.inl rfl) (pe_tup (pa_cons (pe_tup (pa_cons (pe_ix (r := rIxT K) ix_tup (pe_ix (r := rIxT K) ix_tup (pv 2) pe_int (fun _ _ => rfl)) (pe_ix (r := rIxT K) ix_tup (pv 1) pe_int (fun _ _ => rfl)) (fun _ _ => rfl)) (pa_cons (pv 9) pa_nil))) pa_nil)))))) pss_nil)))))) (pss_one (ps_ret (pe_disp (pps_cons pe_str (pv 5) (pps_cons pe_str (pe_op (r := rCatA K) op_catA (pe_dget (hu_of hr) (pv 0) pe_str (fun _ _ => rfl)) (pv 3)) (pps_cons pe_str (pe_op op_cat (pe_dget (hu_of hr) (pv 0) pe_str (fun _ _ => rfl)) (pe_lst (pa_cons (pv 1) pa_nil))) pps_nil))) (by rfl) (by rfl) (fun z => by cases z) (by decide))))))), ?_⟩
    refine sq_set (ed_wo1 rfl dv) e (fun v2 G1 H1 X1 d1 => ?_)
    refine sq_set (d := .tuple []) (ed_tup ea_nil (Nat.le_of_ble_eq_true rfl)) X1.ok (fun v3 G2 H2 X2 d3 => ?_)
    have Y2 := X1.trans X2
    have p2 : Dp K G2 v2 (.tuple [.int (wn : Int), .int (hn : Int), .tuple (ls.map encT), .tuple (gl.map .int)]) := dp_mono X2.gg d1
    have du2 := dp_mono Y2.gg du
    have cut2 : ∀ {σ : L2.St} {G' : Hp}, σ[2]? = some (some v2) → Ex G2 G' → EvD K B (tSl (rSlT K) (tVar 2) tNoPart (tPart (tC (.int 2)))) σ G' (.tuple [.int (wn : Int), .int (hn : Int)]) := fun h2 eg => ed_slT (ed_var h2 (dp_mono eg p2)) eo_none (eo_some ed_int) (fun h => absurd h.2 (by show ¬ HT.sIx 4 4 (some 2) = 4; decide))
    have g3 : ∀ {σ : L2.St} {G' : Hp}, σ[2]? = some (some v2) → Ex G2 G' → EvD K B (tOp (rIxT K) (tVar 2) (tC (.int 3))) σ G' (intsT gl) := fun h2 eg => ed_op (ed_var h2 (dp_mono eg p2)) ed_int (rd_ixT (i := 3) rfl)
    have l2 : ∀ {σ : L2.St} {G' : Hp}, σ[2]? = some (some v2) → Ex G2 G' → EvD K B (tOp (rIxT K) (tVar 2) (tC (.int 2))) σ G' (.tuple (ls.map encT)) := fun h2 eg => ed_op (ed_var h2 (dp_mono eg p2)) ed_int (rd_ixT (i := 2) rfl)
    have isw : ∀ {s wo : Str} {ds' : List PyData} {σ : L2.St} {G' : Hp}, d.d = .tuple (.str wo :: ds') → σ[1]? = some (some u) → Ex G2 G' → EvB K B (tTest (tOp rEq (tOp (rIxT K) (tVar 1) (tC (.int 0))) (tC (.str s)))) σ G' (decide (wo = s)) := fun hd h1 eg => eb_is (eb_test (ed_op (ed_op (ed_is (ed_var h1 (dp_mono eg du2)) hd) ed_int (rd_ixT (i := 0) (atI_nat (j := 0) rfl))) ed_str (rd_eq rfl))) dsB
    have n4 : 4 * wn * hn ≤ 400 := Nat.le_trans (Nat.mul_le_mul (Nat.mul_le_mul_left 4 hw) hh) (by decide)
    have fin : ∀ {σ : L2.St} {G' H' : Hp} {D : Ends} {vm vl : V} {lo' : List PyData} {dm : PyData}, Ext K B G2 H2 G' H' → σ[0]? = some (some v) → σ[1]? = some (some u) → σ[5]? = some (some vm) → σ[3]? = some (some vl) → Dp K G' vm dm → Gk K G' vm dm → Dp K G' vl (.tuple lo') → lo'.length ≤ 50000 → RetWk K B G H D.rt "plan" "lost" "deeds" dm (.tuple (lo ++ lo')) (ds ++ [d.d]) → tRet (tDisp [(tC (.str "plan"), tVar 5), (tC (.str "lost"), tOp (rCatA K) (tDGet (tVar 0) (tC (.str "lost"))) (tVar 3)), (tC (.str "deeds"), tOp rCat (tDGet (tVar 0) (tC (.str "deeds"))) (tLst (tCons (tVar 1) tNil)))]) D σ H' := fun X h0 h1 h5 h3 dm gm dl ll q' =>
      have w' := dpWo_mono (Y2.gg.trans X.gg) dv
      st_retWk (ew_dispK (ek_var h5 dm gm) (ed_op (ed_wo2 n_pl h0 w') (ed_var h3 dl) (rd_catA (by omega))) (ef_catWo n_pd n_ld h0 w' (ef_lst (ea_cons (ed_var h1 (dp_mono X.gg du2)) ea_nil) (Nat.le_of_ble_eq_true rfl)) (by show _ + 1 ≤ _; omega)) n_pl n_pd n_ld) X.ok (q'.mono (Y2.trans X))
    cases d with
    | lay x y t m => exact hgl.elim
    | pull x y t m => exact hgl.elim
    | glaze qq c =>
      obtain ⟨q0, q1⟩ := hq
      obtain ⟨qn, rfl⟩ := Int.eq_ofNat_of_zero_le q0
      refine sq_if (b := false) (eb_is (isw (wo := "glaze") rfl rfl (Ex.refl _)) (decide_eq_false nolay.2.1)) X2.ok (fun z => by cases z) (fun _ G3 H3 X3 => ?_)
      refine st_if (b := false) (eb_is (isw (wo := "glaze") rfl rfl X3.gg) (decide_eq_false nolay.2.2.1)) X3.ok (fun z => by cases z) (fun _ G4 H4 X4 => ?_)
      have X34 := X3.trans X4
      have du4 : Dp K G4 u (.tuple [.str "glaze", .int (qn : Int), .int c]) := dp_mono X34.gg du2
      refine sq_setW (ek_dyed (q0 := qn) (c := c) (ea_cons (ed_var rfl (dp_mono X34.gg p2)) (ea_cons (ed_op (ed_var rfl du4) ed_int (rd_ixT (i := 1) rfl)) (ea_cons (ed_if (b := false) (eb_is (isw (wo := "glaze") rfl rfl X34.gg) (decide_eq_false nolay.2.2.2.1)) (fun z => by cases z) (fun _ => ed_op (ed_var rfl du4) ed_int (rd_ixT (i := 2) rfl))) ea_nil))) hw hh hg (by omega)) X4.ok (fun d5' v5 G5 H5 s5 X5 d5 k5 => ?_)
      subst s5
      refine st_ifD (b := false) (eb_is (isw (wo := "glaze") rfl rfl (X34.trans X5).gg) (decide_eq_false nolay.2.2.2.1)) X5.ok (fun z => by cases z) (fun _ G6 H6 X6 => ?_)
      exact fin ((X34.trans X5).trans X6) rfl rfl rfl rfl (dp_mono X6.gg d5) (k5.mono X6.gg) (dp_mono ((X34.trans X5).trans X6).gg d3) (Nat.zero_le _) q
    | shatter qq =>
      obtain ⟨q0, q1⟩ := hq
      obtain ⟨qn, rfl⟩ := Int.eq_ofNat_of_zero_le q0
      refine sq_if (b := false) (eb_is (isw (wo := "shatter") rfl rfl (Ex.refl _)) (decide_eq_false nolay.2.2.2.2.1)) X2.ok (fun z => by cases z) (fun _ G3 H3 X3 => ?_)
      refine st_if (b := false) (eb_is (isw (wo := "shatter") rfl rfl X3.gg) (decide_eq_false nolay.2.2.2.2.2)) X3.ok (fun z => by cases z) (fun _ G4 H4 X4 => ?_)
      have X34 := X3.trans X4
      have du4 : Dp K G4 u (.tuple [.str "shatter", .int (qn : Int)]) := dp_mono X34.gg du2
      refine sq_setW (ek_dyed (q0 := qn) (c := 0) (ea_cons (ed_var rfl (dp_mono X34.gg p2)) (ea_cons (ed_op (ed_var rfl du4) ed_int (rd_ixT (i := 1) rfl)) (ea_cons (ed_if (b := true) (eb_is (isw (wo := "shatter") rfl rfl X34.gg) (decide_eq_true rfl)) (fun _ => ed_int) (fun z => by cases z)) ea_nil))) hw hh hg (by omega)) X4.ok (fun d5' v5 G5 H5 s5 X5 d5 k5 => ?_)
      subst s5
      have X35 := X34.trans X5
      refine st_ifD (b := true) (eb_is (isw (wo := "shatter") rfl rfl X35.gg) (decide_eq_true rfl)) X5.ok (fun _ G6 H6 X6 => ?_) (fun z => by cases z)
      have X36 := X35.trans X6
      have pl : (panesL ls wn hn).length = 4 * wn * hn := joined_len _ _
      refine sq_set (ed_panes (ea_cons (ed_var rfl (dp_mono X36.gg p2)) ea_nil) hw hh) X6.ok (fun v8 G7 H7 X7 d8 => ?_)
      have X37 := X36.trans X7
      have du7 : ∀ {G' : Hp}, Ex G7 G' → Dp K G' u (.tuple [.str "shatter", .int (qn : Int)]) := fun eg => dp_mono (X37.gg.trans eg) du2
      refine sq_set (ed_is (ed_lcountD rfl d8 (ed_op (ed_var rfl d8) (ed_op (ed_var rfl (du7 (Ex.refl _))) ed_int (rd_ixT (i := 1) rfl)) (rd_ixL (at_int (by omega)))) (shp_ints _) (shp_int _)) (congrArg (fun n : Nat => PyData.int (n : Int)) (count_ints _ _))) X7.ok (fun v9 G8 H8 X8 d9 => ?_)
      have X38 := X37.trans X8
      refine st_set (d := .tuple [encT [gl.getD qn 0, (((panesL ls wn hn).count ((panesL ls wn hn).getD qn 0) : Nat) : Int)]]) (ed_tup (ea_cons (ed_tup (ea_cons (ed_op (g3 rfl X38.gg) (ed_op (ed_var rfl (du7 X8.gg)) ed_int (rd_ixT (i := 1) rfl)) (rd_ixT (at_int (by omega)))) (ea_cons (ed_var rfl d9) ea_nil)) (Nat.le_of_ble_eq_true rfl)) ea_nil) (Nat.le_of_ble_eq_true rfl)) X8.ok (fun v3' G9 H9 X9 dl => ?_)
      exact fin (X38.trans X9) rfl rfl rfl rfl (dp_mono (((X6.trans X7).trans X8).trans X9).gg d5) (k5.mono (((X6.trans X7).trans X8).trans X9).gg) dl (Nat.le_of_ble_eq_true rfl) q
theorem ew_afterC {B : Bg} {G : Hp} {σ : L2.St} {E : XK} {j : Nat} {u : V} {te : TE} {wn hn : Nat} {ls : List (List Int)} {gl : List Int} {lo ds : List PyData} {d : Deed} (hw0 : EvWk K B te σ G "plan" "lost" "deeds" (planD (wn : Int) (hn : Int) (.tuple (ls.map encT)) (intsT gl)) (.tuple lo) ds) (hτ : σ[j]? = some (some u)) (du : Dp K G u d.d) (hw : wn ≤ 9) (hh : hn ≤ 9) (hg : gl.length = 4 * wn * hn) (hl : ls.length ≤ 1000) (hn3 : ∀ l ∈ ls, l ≠ []) (hlo : lo.length ≤ 50000) (hds : ds.length ≤ 50000) (hq : onQ wn hn d) (hgl : isG d) : EvWk K B (tCall (sp__law_after K) [] E (tCons te (tCons (tVar j) tNil))) σ G "plan" "lost" "deeds" (planD (wn : Int) (hn : Int) (.tuple ((aftW wn hn ls gl d).ls.map encT)) (intsT (aftW wn hn ls gl d).gl)) (.tuple (lo ++ (aftW wn hn ls gl d).lo.map encT)) (ds ++ [d.d]) := fun H e Q q =>
  hw0 H e _ fun v G1 H1 X1 w => ⟨u, hτ, B, G1, v, u, wn, hn, ls, gl, lo, ds, d, X1.ok, rfl, w.wo, dp_mono X1.gg du, hw, hh, hg, hl, hn3, hlo, hds, hq, hgl, RetWk.mono X1 q⟩
/-! _law_class -/
/-- the law's names of the kinds of errors -/
abbrev clsN : List Str := ["BadPoint", "BadTurn", "BadMany", "Off", "Taken", "Crossing", "Framed", "NoLead", "BadQuarter", "BadColour", "Glazed", "NoGlass", "Full"]
def clsW (bs : Nat → Bool) : List Str := (List.range 13).filterMap fun j => if bs j = true then clsN[j]? else none
def PhE (a D : Addr) (d : Option Addr) (p : Addr) (o : Obj) : Prop := p = a ∧ L2N.Zn (.ref D) d o ∧ ∃ vs, o.data = .fields vs
def spCls (K : Fg) (a D : Addr) (d : Option Addr) : Sp := fun vs H Q E => ∃ (B : Bg) (G : Hp) (bs : Nat → Bool), Ok K B G H ∧ vs = [.ref a] ∧ (∀ (i : Nat) (n : Str), clsN[i]? = some n → PySem.W.kitOne K (.ref D) (.ref (He.ga K n)) = some (bs i)) ∧ (∀ dd, d = some dd → ∃ fs, H dd = some (.xd fs)) ∧ Ret K B G H Q (.str (Txt.join " " (clsW bs)))
theorem ok_seeX {B : Bg} {G H : Hp} (e : Ok K B G H) {dd : Addr} {fs : List (Str × V)} (h : H dd = some (.xd fs)) : ∃ G1, Ok K B G1 H ∧ Ex G G1 ∧ G1 dd = some (.xd fs) := by
  cases g : G dd with
  | some u =>
    have z := e.e dd u g
    rw [h] at z
    cases z
    exact ⟨G, e, Ex.refl G, g⟩
  | none =>
    have k : Ex (upd G dd (.xd fs)) H := fun b u z => by
      by_cases c : b = dd
      · subst c
        rw [upd_same] at z
        exact h.trans z
      · rw [upd_ne c] at z
        exact e.e b u z
    refine ⟨upd G dd (.xd fs), ⟨k, e.c.mono (Ex.new g), e.b.keep (fun b hb z => ?_) fun _ _ _ q => q⟩, Ex.new g, upd_same⟩
    have ne : b ≠ dd := fun c => by
      obtain ⟨cc, hb⟩ := hb
      obtain ⟨_, i, r, m, q, _⟩ := e.b b cc hb
      rw [c, h] at q
      cases q
    rw [upd_ne ne]
    exact z
theorem ed_isE {B : Bg} {G : Hp} {σ : L2.St} {a D C : Addr} {i : Nat} {b : Bool} (hσ : σ[i]? = some (some (.ref a))) (hk : PySem.W.kitOne K (.ref D) (.ref C) = some b) : EvD K B (tCB (rIsE K D a) (tCons (tVar i) (tCons (tC (.ref C)) tNil))) σ G (.bool b) := fun H e Q q =>
  ⟨.ref a, hσ, .ref C, .ref C, b, rfl, fun u r => r, hk, q.here e (.bl b)⟩
theorem ed_isD {B : Bg} {G : Hp} {σ : L2.St} {a D C dd : Addr} {fs : List (Str × V)} {i : Nat} {b : Bool} (hg : G dd = some (.xd fs)) (hσ : σ[i]? = some (some (.ref a))) (hk : PySem.W.kitOne K (.ref D) (.ref C) = some b) : EvD K B (tCB (rIsD K D a dd) (tCons (tVar i) (tCons (tC (.ref C)) tNil))) σ G (.bool b) := fun H e Q q =>
  ⟨.ref a, hσ, .ref C, .ref C, b, fs, rfl, fun u r => r, hk, e.e dd _ hg, q.here e (.bl b)⟩
theorem cls_some {j : Nat} (h : j < 13) : (clsN[j]?).isSome = true := by
  exact (by decide : ∀ i, i < 13 → (clsN[i]?).isSome = true) j h
theorem cls_mem {bs : Nat → Bool} {x : Str} (h : x ∈ clsW bs) : x ∈ clsN := by
  obtain ⟨j, _, hj⟩ := List.mem_filterMap.mp h
  by_cases c : bs j = true
  · rw [if_pos c] at hj
    exact List.mem_of_getElem? hj
  · rw [if_neg c] at hj
    cases hj
theorem sum_le {xs : List Str} {k : Nat} (h : ∀ x ∈ xs, x.length ≤ k) : (xs.map (·.length)).sum ≤ xs.length * k := by
  induction xs with
  | nil => exact Nat.zero_le _
  | cons x xs ih =>
    rw [List.map_cons]
    rw [List.sum_cons]
    rw [List.length_cons]
    rw [Nat.succ_mul]
    have z1 := h x List.mem_cons_self
    have z2 := ih fun y hy => h y (List.mem_cons_of_mem _ hy)
    omega
theorem cls_len (bs : Nat → Bool) : ((clsW bs).map (·.length)).sum + (clsW bs).length * (" " : Str).length ≤ 16777216 := by
  have z1 : (clsW bs).length ≤ 13 := Nat.le_trans (List.length_filterMap_le _ _) (by rw [List.length_range]; exact Nat.le_refl _)
  have z2 := sum_le (xs := clsW bs) (k := 20) fun x hx => (by decide : ∀ y ∈ clsN, y.length ≤ 20) x (cls_mem hx)
  have z3 : (" " : Str).length = 1 := by decide
  rw [z3]
  omega
abbrev N__law_class : List Str := ["_law_e", "_law_flags", "_law_rows", "_law_at"]
theorem sc__law_class : FnScope N__law_class ["_law_e"] (defScope s__law_class) := ⟨rfl, rfl, rfl, by decide +kernel, rfl, by decide +kernel, by decide +kernel⟩
theorem ok__law_class (T : Txt K mg)  : ∀ (a D : Addr) (d : Option Addr), ExcC K D → GoodE P w K mg base (L2.CX (P) w) 1 "_law_class" ["_law_e"] (PhE a D d) (spCls K a D d) := by
  intro a D d C
  obtain ⟨fd, F⟩ := T.c.def_ 51 (d := d__law_class) rfl
  have b : Binds K fd ["_law_e"] [] := F.bindsN fun _ _ _ _ _ _ us hl => match us, hl with | [_], _ => rfl
  refine ⟨⟨fd, fnE_of F sc__law_class (fun vs H Q E h => ?_) (fun cdv A outer s H vs Q E p hot hp hr h => ?_), b⟩, T.g__law_class, F.kp⟩
  · obtain ⟨B, G, bs, _, rfl, _⟩ := h
    rfl
  · obtain ⟨B, G, bs, e, rfl, hk, hd, q⟩ := h
    obtain ⟨pa, oe⟩ := p
    obtain ⟨rfl, hz, hf⟩ := hp
    have hotc : ∀ X : Cx, X.A = A.deeper (envOfC "_law_class" (defScope s__law_class) s.heap.objs.size (He.ga K "_law_class") cdv) → X.pn = [(pa, oe)] → L2H.HotC X := fun X h1 h2 => ⟨(pa, oe), by rw [h1]; exact hot, by rw [h2]; exact List.mem_cons_self⟩
    have hotc : L2H.HotC (L2H.cxH (L2.CX (P) w) P w K mg base N__law_class "_law_class" (defScope s__law_class) (He.ga K "_law_class") cdv A outer s H E (pa, oe)).nox := ⟨(pa, oe), hot, List.mem_cons_self⟩
    have fin : ∀ (r : List V → Hp → VK → Prop) (G0 : Hp), Ok K B G0 H → Ex G G0 → (∀ (X : Cx), X.K = K → X.pn = [(pa, oe)] → CallR X (.builtin "isinstance") r) → (∀ (G1 : Hp) (σ : L2.St) (i : Nat) (n : Str), Ex G0 G1 → σ[0]? = some (some (.ref pa)) → clsN[i]? = some n → EvD K B (tCB r (tCons (tVar 0) (tCons (tC (.ref (He.ga K n))) tNil))) σ G1 (.bool (bs i))) → ∃ t, PSs (L2H.cxH (L2.CX (P) w) P w K mg base N__law_class "_law_class" (defScope s__law_class) (He.ga K "_law_class") cdv A outer s H E (pa, oe)) (defBody s__law_class) t ∧ t { nx := fun _ H' => Q .non H', rt := Q } (L2.start N__law_class [.ref pa]) H := by
      intro r G0 e0 g0 isi0 ev
      have isi : CallR (L2H.cxH (L2.CX (P) w) P w K mg base N__law_class "_law_class" (defScope s__law_class) (He.ga K "_law_class") cdv A outer s H E (pa, oe)).nox (.builtin "isinstance") r := isi0 _ rfl rfl
      refine ⟨_, PSs.nox (pss_cons (ps_set (i := 1) sc__law_class.nd rfl (Or.inr rfl) (pe_lst (pa_cons (pe_callB isi (by rfl) T.f_isinstance (by decide +kernel) (pa_cons (pv 0) (pa_cons (pe_glob (v := .ref (He.ga K "BadPoint")) (by rfl) T.g_BadPoint rfl) pa_nil))) (pa_cons (pe_callB isi (by rfl) T.f_isinstance (by decide +kernel) (pa_cons (pv 0) (pa_cons (pe_glob (v := .ref (He.ga K "BadTurn")) (by rfl) T.g_BadTurn rfl) pa_nil))) (pa_cons (pe_callB isi (by rfl) T.f_isinstance (by decide +kernel) (pa_cons (pv 0) (pa_cons (pe_glob (v := .ref (He.ga K "BadMany")) (by rfl) T.g_BadMany rfl) pa_nil))) (pa_cons (pe_callB isi (by rfl) T.f_isinstance (by decide +kernel) (pa_cons (pv 0) (pa_cons (pe_glob (v := .ref (He.ga K "Off")) (by rfl) T.g_Off rfl) pa_nil))) pa_nil)))))) (pss_cons (ps_set (i := 1) sc__law_class.nd rfl (Or.inr rfl) (pe_op op_cat (pv 1) (pe_lst (pa_cons (pe_callB isi (by rfl) T.f_isinstance (by decide +kernel) (pa_cons (pv 0) (pa_cons (pe_glob (v := .ref (He.ga K "Taken")) (by rfl) T.g_Taken rfl) pa_nil))) (pa_cons (pe_callB isi (by rfl) T.f_isinstance (by decide +kernel) (pa_cons (pv 0) (pa_cons (pe_glob (v := .ref (He.ga K "Crossing")) (by rfl) T.g_Crossing rfl) pa_nil))) (pa_cons (pe_callB isi (by rfl) T.f_isinstance (by decide +kernel) (pa_cons (pv 0) (pa_cons (pe_glob (v := .ref (He.ga K "Framed")) (by rfl) T.g_Framed rfl) pa_nil))) (pa_cons (pe_callB isi (by rfl) T.f_isinstance (by decide +kernel) (pa_cons (pv 0) (pa_cons (pe_glob (v := .ref (He.ga K "NoLead")) (by rfl) T.g_NoLead rfl) pa_nil))) pa_nil))))))) (pss_cons (ps_set (i := 1) sc__law_class.nd rfl (Or.inr rfl) (pe_op op_cat (pv 1) (pe_lst (pa_cons (pe_callB isi (by rfl) T.f_isinstance (by decide +kernel) (pa_cons (pv 0) (pa_cons (pe_glob (v := .ref (He.ga K "BadQuarter")) (by rfl) T.g_BadQuarter rfl) pa_nil))) (pa_cons (pe_callB isi (by rfl) T.f_isinstance (by decide +kernel) (pa_cons (pv 0) (pa_cons (pe_glob (v := .ref (He.ga K "BadColour")) (by rfl) T.g_BadColour rfl) pa_nil))) (pa_cons (pe_callB isi (by rfl) T.f_isinstance (by decide +kernel) (pa_cons (pv 0) (pa_cons (pe_glob (v := .ref (He.ga K "Glazed")) (by rfl) T.g_Glazed rfl) pa_nil))) pa_nil)))))) (pss_cons (ps_set (i := 1) sc__law_class.nd rfl (Or.inr rfl) (pe_op op_cat (pv 1) (pe_lst (pa_cons (pe_callB isi (by rfl) T.f_isinstance (by decide +kernel) (pa_cons (pv 0) (pa_cons (pe_glob (v := .ref (He.ga K "NoGlass")) (by rfl) T.g_NoGlass rfl) pa_nil))) (pa_cons (pe_callB isi (by rfl) T.f_isinstance (by decide +kernel) (pa_cons (pv 0) (pa_cons (pe_glob (v := .ref (He.ga K "Full")) (by rfl) T.g_Full rfl) pa_nil))) pa_nil))))) (pss_cons (ps_set (i := 2) sc__law_class.nd rfl (Or.inr rfl) (pe_lst (pa_cons pe_str (pa_cons pe_str (pa_cons pe_str (pa_cons pe_str (pa_cons pe_str (pa_cons pe_str (pa_cons pe_str (pa_cons pe_str (pa_cons pe_str pa_nil))))))))))) (pss_cons (ps_set (i := 2) sc__law_class.nd rfl (Or.inr rfl) (pe_op op_cat (pv 2) (pe_lst (pa_cons pe_str (pa_cons pe_str (pa_cons pe_str (pa_cons pe_str pa_nil))))))) (pss_one (ps_ret (pe_join pe_str (pe_lcR (own := [("_law_at", 3)]) (g := gName 3) hotc sc__law_class.nd (by rfl) T.f_range (pa_cons pe_int pa_nil) (blkOk_by (own := [("_law_at", 3)]) (N := N__law_class) (sc := defScope s__law_class) (by decide +kernel)) (fun _ _ _ _ _ => (pg_name (i := 3) sc__law_class.nd rfl (Or.inl rfl))) (fun _ _ _ _ _ => (pts_one (pt_val (pe_ix (r := rIxL K) ix_list (pv 1) (pv 3) (fun _ _ => rfl))))) (fun _ _ _ _ _ => (pe_ix (r := rIxL K) ix_list (pv 2) (pv 3) (fun _ _ => rfl))))))))))))), ?_⟩
      have z0 := fun G1 (x : Ex G0 G1) i n (h : clsN[i]? = some n) y => ev G1 ([some (.ref pa), y, none, none] : L2.St) i n x rfl h
      refine sq_setZ (ef_lst (ea_cons (z0 _ (Ex.refl _) 0 _ rfl _) (ea_cons (z0 _ (Ex.refl _) 1 _ rfl _) (ea_cons (z0 _ (Ex.refl _) 2 _ rfl _) (ea_cons (z0 _ (Ex.refl _) 3 _ rfl _) ea_nil)))) (Nat.le_of_ble_eq_true rfl)) e0 (fun p1 xs1 G1 H1 X1 h1 a1 => ?_)
      refine sq_setZ (ef_catN rfl h1 a1 (ef_lst (ea_cons (z0 _ X1.gg 4 _ rfl _) (ea_cons (z0 _ X1.gg 5 _ rfl _) (ea_cons (z0 _ X1.gg 6 _ rfl _) (ea_cons (z0 _ X1.gg 7 _ rfl _) ea_nil)))) (Nat.le_of_ble_eq_true rfl)) (Nat.le_of_ble_eq_true rfl)) X1.ok (fun p2 xs2 G2 H2 X2 h2 a2 => ?_)
      refine sq_setZ (ef_catN rfl h2 a2 (ef_lst (ea_cons (z0 _ (X1.gg.trans X2.gg) 8 _ rfl _) (ea_cons (z0 _ (X1.gg.trans X2.gg) 9 _ rfl _) (ea_cons (z0 _ (X1.gg.trans X2.gg) 10 _ rfl _) ea_nil))) (Nat.le_of_ble_eq_true rfl)) (Nat.le_of_ble_eq_true rfl)) X2.ok (fun p3 xs3 G3 H3 X3 h3 a3 => ?_)
      refine sq_setZ (ef_catN rfl h3 a3 (ef_lst (ea_cons (z0 _ ((X1.gg.trans X2.gg).trans X3.gg) 11 _ rfl _) (ea_cons (z0 _ ((X1.gg.trans X2.gg).trans X3.gg) 12 _ rfl _) ea_nil)) (Nat.le_of_ble_eq_true rfl)) (Nat.le_of_ble_eq_true rfl)) X3.ok (fun p4 xs4 G4 H4 X4 h4 a4 => ?_)
      refine sq_setZ (ef_lst (ea_cons ed_str (ea_cons ed_str (ea_cons ed_str (ea_cons ed_str (ea_cons ed_str (ea_cons ed_str (ea_cons ed_str (ea_cons ed_str (ea_cons ed_str ea_nil))))))))) (Nat.le_of_ble_eq_true rfl)) X4.ok (fun p5 xs5 G5 H5 X5 h5 a5 => ?_)
      refine sq_setZ (ef_catN rfl h5 a5 (ef_lst (ea_cons ed_str (ea_cons ed_str (ea_cons ed_str (ea_cons ed_str ea_nil)))) (Nat.le_of_ble_eq_true rfl)) (Nat.le_of_ble_eq_true rfl)) X5.ok (fun p6 xs6 G6 H6 X6 h6 a6 => ?_)
      have Y := ((((X1.trans X2).trans X3).trans X4).trans X5).trans X6
      have dF : Dp K G6 (.ref p4) (.list ((List.range 13).map fun j => .bool (bs j))) := dp_mono (X5.gg.trans X6.gg) (.lst (SqL.of h4) a4)
      have dN : Dp K G6 (.ref p6) (.list (clsN.map .str)) := .lst (SqL.of h6) a6
      refine st_ret (ed_join ed_str (EvF.ed (ed_isF (ef_lcRR (i := 3) (n := 13) (f := fun j => if bs j = true then (clsN[j]?).map PyData.str else none) (ea_cons ed_int ea_nil) (by decide) (fun j hj => ?_) (fun j d hj hd => ?_)) (es := (clsW bs).map .str) ?_)) ?_) X6.ok (fun v G7 H7 X7 d7 => by
        obtain rfl := dp_str d7
        exact q _ G H7 ((Y.trans X7).back g0 e.c) (.str _))
      · refine eb_is (eb_B (ed_op (ed_var rfl dF) (ed_var rfl (.int (j : Int))) (rd_ixL (d := .bool (bs j)) (atI_nat ?_)))) ?_
        · rw [List.getElem?_map, List.getElem?_range hj]
          rfl
        · have z : (clsN[j]?).isSome = true := cls_some hj
          cases bs j
          · rfl
          · rw [if_pos rfl, Option.isSome_map, z]
      · by_cases c : bs j = true
        · rw [if_pos c] at hd
          refine ed_op (ed_var rfl dN) (ed_var rfl (.int (j : Int))) (rd_ixL (atI_nat ?_))
          rw [List.getElem?_map]
          exact hd
        · rw [if_neg c] at hd
          cases hd
      · unfold clsW
        rw [List.map_filterMap]
        refine congrArg (fun g => List.filterMap g _) (funext fun j => ?_)
        by_cases c : bs j = true
        · rw [if_pos c, if_pos c]
        · rw [if_neg c, if_neg c]
          rfl
      · exact cls_len bs
    rcases d with _ | dd
    · refine fin (rIsE K D pa) G e (Ex.refl G) (fun X h1 h2 => ?_) (fun G1 σ i n x h1 h2 => ed_isE h1 (hk i n h2))
      subst h1
      exact call_isP C (by rw [h2]; exact List.mem_cons_self) hz.zc hf
    · obtain ⟨fs, hfs⟩ := hd dd rfl
      obtain ⟨G0, e0, g0, hg⟩ := ok_seeX e hfs
      refine fin (rIsD K D pa dd) G0 e0 g0 (fun X h1 h2 => ?_) (fun G1 σ i n x h1 h2 => ed_isD (x dd _ hg) h1 (hk i n h2))
      subst h1
      exact call_isPD C (by rw [h2]; exact List.mem_cons_self) hz.zc hf
/-! _law_asked -/
/-- what is asked: used, shattered, glazed -/
inductive Ask
  | used (c : Int)
  | shat (n : Int)
  | gl1 (n : Int)
  | gl2 (n c : Int)
def Ask.d : Ask → PyData
  | .used c => .tuple [.str "used", .int c]
  | .shat n => .tuple [.str "shatter", .int n]
  | .gl1 n => .tuple [.str "glaze", .int n]
  | .gl2 n c => .tuple [.str "glaze", .int n, .int c]
def askW (N : Nat) (gl : List Int) : Ask → Str
  | .used c => if okC c then "" else "BadColour"
  | .shat n => wordS N gl n
  | .gl1 n => wordG N gl n 1
  | .gl2 n c => wordG N gl n c
noncomputable def askD (w h : Nat) (ls : List (List Int)) (gl : List Int) : Ask → PyData
  | .used c => .int ((gl.count c : Nat) : Int)
  | .shat n => dyeP w h ls gl n.toNat 0
  | .gl1 n => dyeP w h ls gl n.toNat 1
  | .gl2 n c => dyeP w h ls gl n.toNat c
def sp__law_asked (P : Program) (w : World) (K : Fg) : Sp := fun vs H Q E => ∃ (B : Bg) (G : Hp) (v u : V) (wn hn : Nat) (ls : List (List Int)) (gl : List Int) (a : Ask), Ok K B G H ∧ vs = [v, u] ∧ Dp K G v (.tuple [.int (wn : Int), .int (hn : Int), .tuple (ls.map encT), encT gl]) ∧ Gk K G v (.tuple [.int (wn : Int), .int (hn : Int), .tuple (ls.map encT), encT gl]) ∧ Dp K G u a.d ∧ (1 ≤ wn ∧ wn ≤ 9) ∧ (1 ≤ hn ∧ hn ≤ 9) ∧ ls.length ≤ 1000 ∧ (∀ l ∈ ls, l ≠ []) ∧ gl.length = 4 * wn * hn ∧ (askW (4 * wn * hn) gl a ≠ "" → Rai K B G H E (He.ga K (askW (4 * wn * hn) gl a))) ∧ (askW (4 * wn * hn) gl a = "" → Ret K B G H Q (askD wn hn ls gl a))
theorem RetW.of {B : Bg} {G H : Hp} {Q : VK} {d : PyData} {P' : Hp → V → PyData → Prop} (h : Ret K B G H Q d) : RetW K B G H Q d P' := fun d' v G2 H2 s X dv _ => by
  subst s
  exact h v G2 H2 X dv
abbrev N__law_asked : List Str := ["_law_plan_here", "_law_deed"]
theorem sc__law_asked : FnScope N__law_asked ["_law_plan_here", "_law_deed"] (defScope s__law_asked) := ⟨rfl, rfl, rfl, by decide +kernel, rfl, by decide +kernel, by decide +kernel⟩
theorem ok__law_asked (T : Txt K mg) (G_used : Good P w K mg base (L2N.CX P w) 2 "used" ["plan", "colour"] [] (sp_used K)) (G_shattered : Good P w K mg base (L2N.CX P w) 10 "shattered" ["plan", "quarter"] [] (sp_shattered P w K)) (G_glazed_d1 : Good P w K mg base (L2N.CX P w) 10 "glazed" ["plan", "quarter", "colour"] [.int 1] (sp_glazed P w K)) (G_glazed : Good P w K mg base (L2N.CX P w) 10 "glazed" ["plan", "quarter", "colour"] [] (sp_glazed P w K)) : Good P w K mg base (L2N.CX P w) 11 "_law_asked" ["_law_plan_here", "_law_deed"] [] (sp__law_asked P w K) := by
  obtain ⟨fd, F⟩ := T.c.def_ 52 (d := d__law_asked) rfl
  have b : Binds K fd ["_law_plan_here", "_law_deed"] [] := F.bindsN fun _ _ _ _ _ _ us hl => match us, hl with | [_, _], _ => rfl
  refine ⟨⟨fd, [], F.ok sc__law_asked (fun vs H Q E h => ?_) (fun cdv A outer s H vs Q E hr h => ?_), .nil, b⟩, T.g__law_asked, F.kp⟩
  · obtain ⟨B, G, v, u, wn, hn, ls, gl, a, e, rfl, _⟩ := h
    all_goals rfl
  · obtain ⟨B, G, v, u, wn, hn, ls, gl, a, e, rfl, dv, gk, du, hw, hh, hl, hn3, hg, r, q⟩ := h
    all_goals refine ⟨_, (pss_cons (ps_if (pt_cmpR op_eq (pe_ix (r := rIxT K) ix_tup (pv 1) pe_int (fun _ _ => rfl)) pe_str (nomark _)) (pss_one (ps_ret (pe_own G_used (hr.mono (by decide)) (by rfl) (L2N.passes_call (L2N.takes_of rfl rfl rfl rfl) (fun _ _ _ _ h => h)) (pa_cons (pv 0) (pa_cons (pe_ix (r := rIxT K) ix_tup (pv 1) pe_int (fun _ _ => rfl)) pa_nil))))) pss_nil) (pss_cons (ps_if (pt_cmpR op_eq (pe_ix (r := rIxT K) ix_tup (pv 1) pe_int (fun _ _ => rfl)) pe_str (nomark _)) (pss_one (ps_ret (pe_own G_shattered (hr.mono (by decide)) (by rfl) (L2N.passes_call (L2N.takes_of rfl rfl rfl rfl) (fun _ _ _ _ h => h)) (pa_cons (pv 0) (pa_cons (pe_ix (r := rIxT K) ix_tup (pv 1) pe_int (fun _ _ => rfl)) pa_nil))))) pss_nil) (pss_cons (ps_if (pt_cmpR op_eq (pe_callB (r := rLenS K) call_len_seq (by rfl) T.f_len (by decide +kernel) (pa_cons (pv 1) pa_nil)) pe_int (nomark _)) (pss_one (ps_ret (pe_own G_glazed_d1 (hr.mono (by decide)) (by rfl) (L2N.passes_call (L2N.takes_of rfl rfl rfl rfl) (fun _ _ _ _ h => h)) (pa_cons (pv 0) (pa_cons (pe_ix (r := rIxT K) ix_tup (pv 1) pe_int (fun _ _ => rfl)) pa_nil))))) pss_nil) (pss_one (ps_ret (pe_own G_glazed (hr.mono (by decide)) (by rfl) (L2N.passes_call (L2N.takes_of rfl rfl rfl rfl) (fun _ _ _ _ h => h)) (pa_cons (pv 0) (pa_cons (pe_ix (r := rIxT K) ix_tup (pv 1) pe_int (fun _ _ => rfl)) (pa_cons (pe_ix (r := rIxT K) ix_tup (pv 1) pe_int (fun _ _ => rfl)) pa_nil))))))))), ?_⟩
    have isw : ∀ {s wo : Str} {ds : List PyData} {σ : L2.St} {G' : Hp}, a.d = .tuple (.str wo :: ds) → σ[1]? = some (some u) → Ex G G' → EvB K B (tTest (tOp rEq (tOp (rIxT K) (tVar 1) (tC (.int 0))) (tC (.str s)))) σ G' (decide (wo = s)) := fun hd h1 eg => eb_is (eb_test (ed_op (ed_op (ed_is (ed_var h1 (dp_mono eg du)) hd) ed_int (rd_ixT (i := 0) (atI_nat (j := 0) rfl))) ed_str (rd_eq rfl))) dsB
    have n4 : 4 * wn * hn ≤ 324 := Nat.le_trans (Nat.mul_le_mul (Nat.mul_le_mul_left 4 hw.2) hh.2) (by decide)
    cases a with
    | used c =>
      have r : (if okC c then ("" : Str) else "BadColour") ≠ "" → Rai K B G H E (He.ga K (if okC c then ("" : Str) else "BadColour")) := r
      have q : (if okC c then ("" : Str) else "BadColour") = "" → Ret K B G H Q (.int ((gl.count c : Nat) : Int)) := q
      refine sq_if (b := true) (eb_is (isw (wo := "used") rfl rfl (Ex.refl _)) (decide_eq_true rfl)) e (fun _ G1 H1 X1 => ?_) (fun y => by cases y)
      refine ⟨v, rfl, (ed_op (ed_var rfl (show Dp K G1 u (.tuple [.str "used", .int c]) from dp_mono X1.gg du)) ed_int (rd_ixT (i := 1) rfl)) H1 X1.ok _ fun x G2 H2 X2 dx => ?_⟩
      obtain rfl := dp_int dx
      have Y := X1.trans X2
      refine ⟨B, G2, v, _, _, _, gl, c, X2.ok, rfl, dp_mono Y.gg dv, gk.mono Y.gg, by omega, fun z => ?_, fun z => ?_⟩
      · rw [if_neg z] at r
        exact (r (by decide +kernel)).mono Y
      · rw [if_pos z] at q
        exact (q rfl).mono Y
    | shat n =>
      refine sq_if (b := false) (eb_is (isw (wo := "shatter") rfl rfl (Ex.refl _)) (decide_eq_false nolay2.2.2)) e (fun y => by cases y) (fun _ G1 H1 X1 => ?_)
      refine sq_if (b := true) (eb_is (isw (wo := "shatter") rfl rfl X1.gg) (decide_eq_true rfl)) X1.ok (fun _ G2 H2 X2 => ?_) (fun y => by cases y)
      have Y2 := X1.trans X2
      refine ⟨v, rfl, (ed_op (ed_var rfl (show Dp K G2 u (.tuple [.str "shatter", .int n]) from dp_mono Y2.gg du)) ed_int (rd_ixT (i := 1) rfl)) H2 X2.ok _ fun x G3 H3 X3 dx => ?_⟩
      obtain rfl := dp_int dx
      have Y := Y2.trans X3
      exact ⟨B, G3, v, wn, hn, ls, gl, n, X3.ok, rfl, dp_mono Y.gg dv, hw, hh, hl, hn3, hg, fun z => (r z).mono Y, fun z => RetSW.mono Y (RetW.of (q z))⟩
    | gl1 n =>
      refine sq_if (b := false) (eb_is (isw (wo := "glaze") rfl rfl (Ex.refl _)) (decide_eq_false nolay2.2.1)) e (fun y => by cases y) (fun _ G1 H1 X1 => ?_)
      refine sq_if (b := false) (eb_is (isw (wo := "glaze") rfl rfl X1.gg) (decide_eq_false nolay2.1)) X1.ok (fun y => by cases y) (fun _ G2 H2 X2 => ?_)
      have Y2 := X1.trans X2
      have du2 : Dp K G2 u (.tuple [.str "glaze", .int n]) := dp_mono Y2.gg du
      refine sq_if (b := true) (eb_is (eb_test (ed_op (ed_len (n := 2) (ed_var rfl du2) rfl) ed_int (rd_eq rfl))) (diI.trans (decide_eq_true rfl))) X2.ok (fun _ G3 H3 X3 => ?_) (fun y => by cases y)
      have Y3 := Y2.trans X3
      refine ⟨v, rfl, (ed_op (ed_var rfl (dp_mono X3.gg du2)) ed_int (rd_ixT (i := 1) rfl)) H3 X3.ok _ fun x G4 H4 X4 dx => ?_⟩
      obtain rfl := dp_int dx
      have Y := Y3.trans X4
      exact ⟨B, G4, v, wn, hn, ls, gl, n, 1, X4.ok, rfl, dp_mono Y.gg dv, hw, hh, hl, hn3, hg, fun z => (r z).mono Y, fun z => RetSW.mono Y (RetW.of (q z))⟩
    | gl2 n c =>
      refine sq_if (b := false) (eb_is (isw (wo := "glaze") rfl rfl (Ex.refl _)) (decide_eq_false nolay2.2.1)) e (fun y => by cases y) (fun _ G1 H1 X1 => ?_)
      refine sq_if (b := false) (eb_is (isw (wo := "glaze") rfl rfl X1.gg) (decide_eq_false nolay2.1)) X1.ok (fun y => by cases y) (fun _ G2 H2 X2 => ?_)
      have Y2 := X1.trans X2
      have du2 : Dp K G2 u (.tuple [.str "glaze", .int n, .int c]) := dp_mono Y2.gg du
      refine sq_if (b := false) (eb_is (eb_test (ed_op (ed_len (n := 3) (ed_var rfl du2) rfl) ed_int (rd_eq rfl))) (diI.trans (decide_eq_false (by decide)))) X2.ok (fun y => by cases y) (fun _ G3 H3 X3 => ?_)
      have Y3 := Y2.trans X3
      have du3 := dp_mono X3.gg du2
      refine ⟨v, rfl, (ed_op (ed_var rfl du3) ed_int (rd_ixT (i := 1) rfl)) H3 X3.ok _ fun x G4 H4 X4 dx => ?_⟩
      obtain rfl := dp_int dx
      refine (ed_op (ed_var rfl (dp_mono X4.gg du3)) ed_int (rd_ixT (i := 2) rfl)) H4 X4.ok _ fun x G5 H5 X5 dx => ?_
      obtain rfl := dp_int dx
      have Y := Y3.trans (X4.trans X5)
      exact ⟨B, G5, v, wn, hn, ls, gl, n, c, X5.ok, rfl, dp_mono Y.gg dv, hw, hh, hl, hn3, hg, fun z => (r z).mono Y, fun z => RetSW.mono Y (RetW.of (q z))⟩

/-! _law_said -/
/-- the errors of used, glazed, shattered -/
def qErr (K : Fg) (D : Addr) : Prop := D = He.ga K "BadQuarter" ∨ D = He.ga K "BadColour" ∨ D = He.ga K "Glazed" ∨ D = He.ga K "NoGlass"
def tsQ (K : Fg) (a D : Addr) : TS := tAsg (tCall (spCls K a D none) [] E0 (tCons (tVar 4) tNil)) (gName 3)
noncomputable def saidA (w h : Nat) (ls : List (List Int)) (gl : List Int) (a : Ask) : PyData := .tuple [.str (askW (4 * w * h) gl a), if askW (4 * w * h) gl a = "" then askD w h ls gl a else .none]
def sp__law_said (K : Fg) : Sp := fun vs H Q E => ∃ (B : Bg) (G : Hp) (v u : V) (wn hn : Nat) (ls : List (List Int)) (gl : List Int) (a : Ask), Ok K B G H ∧ vs = [v, u] ∧ Dp K G v (.tuple [.int (wn : Int), .int (hn : Int), .tuple (ls.map encT), encT gl]) ∧ Gk K G v (.tuple [.int (wn : Int), .int (hn : Int), .tuple (ls.map encT), encT gl]) ∧ Dp K G u a.d ∧ (1 ≤ wn ∧ wn ≤ 9) ∧ (1 ≤ hn ∧ hn ≤ 9) ∧ ls.length ≤ 1000 ∧ (∀ l ∈ ls, l ≠ []) ∧ gl.length = 4 * wn * hn ∧ Ret K B G H Q (saidA wn hn ls gl a)
theorem askW_or (N : Nat) (gl : List Int) (a : Ask) : askW N gl a = "" ∨ askW N gl a = "BadQuarter" ∨ askW N gl a = "BadColour" ∨ askW N gl a = "Glazed" ∨ askW N gl a = "NoGlass" := by
  cases a with
  | used c =>
    show (if okC c then ("" : Str) else "BadColour") = "" ∨ _
    by_cases z : okC c
    · rw [if_pos z]; exact .inl rfl
    · exact .inr (.inr (.inl (if_neg z)))
  | shat n =>
    by_cases z : ¬ (0 ≤ n ∧ n < (N : Int))
    · exact .inr (.inl (if_pos z))
    · by_cases y : gl.getD n.toNat 0 = 0
      · exact .inr (.inr (.inr (.inr ((if_neg z).trans (if_pos y)))))
      · exact .inl ((if_neg z).trans (if_neg y))
  | gl1 n =>
    by_cases z : ¬ (0 ≤ n ∧ n < (N : Int))
    · exact .inr (.inl (if_pos z))
    · by_cases y : gl.getD n.toNat 0 ≠ 0
      · exact .inr (.inr (.inr (.inl ((if_neg z).trans ((if_neg (fun k => k (by decide))).trans (if_pos y))))))
      · exact .inl ((if_neg z).trans ((if_neg (fun k => k (by decide))).trans (if_neg y)))
  | gl2 n c =>
    by_cases z : ¬ (0 ≤ n ∧ n < (N : Int))
    · exact .inr (.inl (if_pos z))
    · by_cases x : ¬ okC c
      · exact .inr (.inr (.inl ((if_neg z).trans (if_pos x))))
      · by_cases y : gl.getD n.toNat 0 ≠ 0
        · exact .inr (.inr (.inr (.inl ((if_neg z).trans ((if_neg x).trans (if_pos y))))))
        · exact .inl ((if_neg z).trans ((if_neg x).trans (if_neg y)))
theorem suiteQ {B : Bg} {G H : Hp} {σ : L2.St} {D' : Ends} {a D : Addr} {bs : Nat → Bool} (hk : ∀ (i : Nat) (n : Str), clsN[i]? = some n → PySem.W.kitOne K (.ref D) (.ref (He.ga K n)) = some (bs i)) (e : Ok K B G H) (hσ : σ[4]? = some (some (.ref a)))
    (k : ∀ G2 H2, Ext K B G H G2 H2 → D'.nx (σ.set 3 (some (.str (Txt.join " " (clsW bs))))) H2) : tsQ K a D D' σ H :=
  ⟨.ref a, hσ, B, G, bs, e, rfl, hk, fun _ z => (nomatch z), fun v G2 H2 X dv => by
    obtain rfl := dp_str dv
    exact k G2 H2 X⟩
theorem hk_BadQuarter (T : Txt K mg) : ∀ (i : Nat) (n : Str), clsN[i]? = some n → PySem.W.kitOne K (.ref (He.ga K "BadQuarter")) (.ref (He.ga K n)) = some (i == 8) := fun i n h => match i, h with
  | 0, h => by cases h; exact T.kit_BadQuarter_BadPoint
  | 1, h => by cases h; exact T.kit_BadQuarter_BadTurn
  | 2, h => by cases h; exact T.kit_BadQuarter_BadMany
  | 3, h => by cases h; exact T.kit_BadQuarter_Off
  | 4, h => by cases h; exact T.kit_BadQuarter_Taken
  | 5, h => by cases h; exact T.kit_BadQuarter_Crossing
  | 6, h => by cases h; exact T.kit_BadQuarter_Framed
  | 7, h => by cases h; exact T.kit_BadQuarter_NoLead
  | 8, h => by cases h; exact T.kit_BadQuarter_BadQuarter
  | 9, h => by cases h; exact T.kit_BadQuarter_BadColour
  | 10, h => by cases h; exact T.kit_BadQuarter_Glazed
  | 11, h => by cases h; exact T.kit_BadQuarter_NoGlass
  | 12, h => by cases h; exact T.kit_BadQuarter_Full
  | k + 13, h => by cases h
theorem hk_BadColour (T : Txt K mg) : ∀ (i : Nat) (n : Str), clsN[i]? = some n → PySem.W.kitOne K (.ref (He.ga K "BadColour")) (.ref (He.ga K n)) = some (i == 9) := fun i n h => match i, h with
  | 0, h => by cases h; exact T.kit_BadColour_BadPoint
  | 1, h => by cases h; exact T.kit_BadColour_BadTurn
  | 2, h => by cases h; exact T.kit_BadColour_BadMany
  | 3, h => by cases h; exact T.kit_BadColour_Off
  | 4, h => by cases h; exact T.kit_BadColour_Taken
  | 5, h => by cases h; exact T.kit_BadColour_Crossing
  | 6, h => by cases h; exact T.kit_BadColour_Framed
  | 7, h => by cases h; exact T.kit_BadColour_NoLead
  | 8, h => by cases h; exact T.kit_BadColour_BadQuarter
  | 9, h => by cases h; exact T.kit_BadColour_BadColour
  | 10, h => by cases h; exact T.kit_BadColour_Glazed
  | 11, h => by cases h; exact T.kit_BadColour_NoGlass
  | 12, h => by cases h; exact T.kit_BadColour_Full
  | k + 13, h => by cases h
theorem hk_Glazed (T : Txt K mg) : ∀ (i : Nat) (n : Str), clsN[i]? = some n → PySem.W.kitOne K (.ref (He.ga K "Glazed")) (.ref (He.ga K n)) = some (i == 10) := fun i n h => match i, h with
  | 0, h => by cases h; exact T.kit_Glazed_BadPoint
  | 1, h => by cases h; exact T.kit_Glazed_BadTurn
  | 2, h => by cases h; exact T.kit_Glazed_BadMany
  | 3, h => by cases h; exact T.kit_Glazed_Off
  | 4, h => by cases h; exact T.kit_Glazed_Taken
  | 5, h => by cases h; exact T.kit_Glazed_Crossing
  | 6, h => by cases h; exact T.kit_Glazed_Framed
  | 7, h => by cases h; exact T.kit_Glazed_NoLead
  | 8, h => by cases h; exact T.kit_Glazed_BadQuarter
  | 9, h => by cases h; exact T.kit_Glazed_BadColour
  | 10, h => by cases h; exact T.kit_Glazed_Glazed
  | 11, h => by cases h; exact T.kit_Glazed_NoGlass
  | 12, h => by cases h; exact T.kit_Glazed_Full
  | k + 13, h => by cases h
theorem hk_NoGlass (T : Txt K mg) : ∀ (i : Nat) (n : Str), clsN[i]? = some n → PySem.W.kitOne K (.ref (He.ga K "NoGlass")) (.ref (He.ga K n)) = some (i == 11) := fun i n h => match i, h with
  | 0, h => by cases h; exact T.kit_NoGlass_BadPoint
  | 1, h => by cases h; exact T.kit_NoGlass_BadTurn
  | 2, h => by cases h; exact T.kit_NoGlass_BadMany
  | 3, h => by cases h; exact T.kit_NoGlass_Off
  | 4, h => by cases h; exact T.kit_NoGlass_Taken
  | 5, h => by cases h; exact T.kit_NoGlass_Crossing
  | 6, h => by cases h; exact T.kit_NoGlass_Framed
  | 7, h => by cases h; exact T.kit_NoGlass_NoLead
  | 8, h => by cases h; exact T.kit_NoGlass_BadQuarter
  | 9, h => by cases h; exact T.kit_NoGlass_BadColour
  | 10, h => by cases h; exact T.kit_NoGlass_Glazed
  | 11, h => by cases h; exact T.kit_NoGlass_NoGlass
  | 12, h => by cases h; exact T.kit_NoGlass_Full
  | k + 13, h => by cases h
abbrev N__law_said : List Str := ["_law_plan_here", "_law_deed", "_law_told", "_law_word", "_law_e"]
theorem sc__law_said : FnScope N__law_said ["_law_plan_here", "_law_deed"] (defScope s__law_said) := ⟨rfl, rfl, rfl, by decide +kernel, rfl, by decide +kernel, by decide +kernel⟩
theorem ok__law_said (T : Txt K mg) (G__law_asked : Good P w K mg base (L2N.CX P w) 11 "_law_asked" ["_law_plan_here", "_law_deed"] [] (sp__law_asked P w K)) (G__law_class : ∀ (a D : Addr) (d : Option Addr), ExcC K D → GoodE P w K mg base (L2.CX (P) w) 1 "_law_class" ["_law_e"] (PhE a D d) (spCls K a D d)) : Good P w K mg base (L2N.CX P w) 12 "_law_said" ["_law_plan_here", "_law_deed"] [] (sp__law_said K) := by
  obtain ⟨fd, F⟩ := T.c.def_ 53 (d := d__law_said) rfl
  have b : Binds K fd ["_law_plan_here", "_law_deed"] [] := F.bindsN fun _ _ _ _ _ _ us hl => match us, hl with | [_, _], _ => rfl
  refine ⟨⟨fd, [], F.ok sc__law_said (fun vs H Q E h => ?_) (fun cdv A outer s H vs Q E hr h => ?_), .nil, b⟩, T.g__law_said, F.kp⟩
  · obtain ⟨B, G, v, u, wn, hn, ls, gl, a, e, rfl, _⟩ := h
    all_goals rfl
  · obtain ⟨B, G, v, u, wn, hn, ls, gl, a0, e, rfl, dv, gk, du, hw, hh, hl, hn3, hg, q⟩ := h
    all_goals refine ⟨_, PSs.nox (pss_cons (ps_set (i := 2) sc__law_said.nd rfl (Or.inl rfl) pe_non) (pss_cons (ps_set (i := 3) sc__law_said.nd rfl (Or.inl rfl) pe_str) (pss_cons (ps_try2N (i := 4) (Wout := fun _ _ _ _ => False) rfl rfl sc__law_said.nd rfl rfl ⟨rfl, by decide, .inl T.g_LeadError⟩ ⟨rfl, by decide, .inl T.g_Missing⟩ takes0N (fun W pn xe tk _ => (pss_one (ps_set (i := 2) sc__law_said.nd rfl (Or.inl rfl) (pe_ownS G__law_asked (hr.mono (by decide)) (by rfl) (fun σ => L2N.passAt tk σ) (pa_cons (pv 0) (pa_cons (pv 1) pa_nil))))))
    (fun a oe cls d pn hz hf => (pss_ex (α := Addr) (t := fun D => tsQ K a D) (p := fun D => qErr K D ∧ cls = .ref D ∧ d = none) fun D hD => (by obtain ⟨hor, rfl, rfl⟩ := hD; have hor : qErr K D := hor; have ec : ExcC K D := (by rcases hor with rfl | rfl | rfl | rfl; exact T.ec_BadQuarter; exact T.ec_BadColour; exact T.ec_Glazed; exact T.ec_NoGlass); unfold tsQ; exact (pss_one (ps_set (i := 3) sc__law_said.nd rfl (Or.inl rfl) (pe_ownE (G__law_class a D none ec) (roomH_as (hr.mono (by decide)) rfl rfl) (hf.elim fun vs hv => ⟨(a, oe), ⟨rfl, vs, hv, hz.2.2 vs hv⟩, ⟨rfl, hz, vs, hv⟩, List.mem_cons_self⟩) (by rfl) (pa_cons (pv 4) pa_nil)))))))) (pss_one (ps_ret (pe_tup (pa_cons (pv 3) (pa_cons (pv 2) pa_nil)))))))), ?_⟩
    refine sq_set ed_non e (fun v1 G1 H1 X1 d1 => ?_)
    obtain rfl := dp_non d1
    refine sq_set ed_str X1.ok (fun v2 G2 H2 X2 d2 => ?_)
    obtain rfl := dp_str d2
    have Y := X1.trans X2
    have fin : ∀ {s : Str} {G5 H5 : Hp} {v2 : V} {d3 : PyData} {y : Option V}, Ext K B G2 H2 G5 H5 → Dp K G5 v2 d3 → saidA wn hn ls gl a0 = .tuple [.str s, d3] → tRet (tTup (tCons (tVar 3) (tCons (tVar 2) tNil))) { nx := fun x H' => Q V.non H', rt := Q } [some v, some u, some v2, some (.str s), y] H5 := fun X d3 es => by
      rw [es] at q
      exact st_ret (ed_tup (ea_cons (ed_var rfl (.str _)) (ea_cons (ed_var rfl d3) ea_nil)) (Nat.le_of_ble_eq_true rfl)) X.ok (q.mono (Y.trans X))
    have bad : ∀ {s : Str}, s ≠ "" → askW (4 * wn * hn) gl a0 = s → saidA wn hn ls gl a0 = .tuple [.str s, .none] := fun ne es => by
      unfold saidA
      rw [es, if_neg ne]
    refine ⟨v, rfl, u, rfl, B, G2, v, u, wn, hn, ls, gl, a0, X2.ok, rfl, dp_mono Y.gg dv, gk.mono Y.gg, dp_mono Y.gg du, hw, hh, hl, hn3, hg, fun z G3 H3 X3 => ?_, fun z v3 G3 H3 X3 d3 => ?_⟩
    · rcases askW_or (4 * wn * hn) gl a0 with h | h | h | h | h
      · exact absurd h z
      · rw [h]
        exact ⟨true, exm_two T.exm_BadQuarter_LeadError T.exm_BadQuarter_Missing, fun _ a ha => ⟨He.ga K "BadQuarter", ⟨.inl rfl, rfl, rfl⟩, suiteQ (hk_BadQuarter T) X3.ok rfl fun G6 H6 X6 => fin (s := "BadQuarter") (X3.trans X6) .non (bad (by decide +kernel) h)⟩, fun z => Bool.noConfusion z⟩
      · rw [h]
        exact ⟨true, exm_two T.exm_BadColour_LeadError T.exm_BadColour_Missing, fun _ a ha => ⟨He.ga K "BadColour", ⟨.inr (.inl rfl), rfl, rfl⟩, suiteQ (hk_BadColour T) X3.ok rfl fun G6 H6 X6 => fin (s := "BadColour") (X3.trans X6) .non (bad (by decide +kernel) h)⟩, fun z => Bool.noConfusion z⟩
      · rw [h]
        exact ⟨true, exm_two T.exm_Glazed_LeadError T.exm_Glazed_Missing, fun _ a ha => ⟨He.ga K "Glazed", ⟨.inr (.inr (.inl rfl)), rfl, rfl⟩, suiteQ (hk_Glazed T) X3.ok rfl fun G6 H6 X6 => fin (s := "Glazed") (X3.trans X6) .non (bad (by decide +kernel) h)⟩, fun z => Bool.noConfusion z⟩
      · rw [h]
        exact ⟨true, exm_two T.exm_NoGlass_LeadError T.exm_NoGlass_Missing, fun _ a ha => ⟨He.ga K "NoGlass", ⟨.inr (.inr (.inr rfl)), rfl, rfl⟩, suiteQ (hk_NoGlass T) X3.ok rfl fun G6 H6 X6 => fin (s := "NoGlass") (X3.trans X6) .non (bad (by decide +kernel) h)⟩, fun z => Bool.noConfusion z⟩
    · exact fin (s := "") X3 d3 (by unfold saidA; rw [z, if_pos rfl])
theorem ed_saidA {B : Bg} {G : Hp} {σ : L2.St} {i : Nat} {v : V} {te : TE} {E : XK} {wn hn : Nat} {ls : List (List Int)} {gl : List Int} {a : Ask} (hσ : σ[i]? = some (some v)) (dv : Dp K G v (.tuple [.int (wn : Int), .int (hn : Int), .tuple (ls.map encT), encT gl])) (gk : Gk K G v (.tuple [.int (wn : Int), .int (hn : Int), .tuple (ls.map encT), encT gl])) (hu : EvD K B te σ G a.d) (hw : 1 ≤ wn ∧ wn ≤ 9) (hh : 1 ≤ hn ∧ hn ≤ 9) (hl : ls.length ≤ 1000) (hn3 : ∀ l ∈ ls, l ≠ []) (hg : gl.length = 4 * wn * hn) : EvD K B (tCall (sp__law_said K) [] E (tCons (tVar i) (tCons te tNil))) σ G (saidA wn hn ls gl a) := fun H e Q q =>
  ⟨v, hσ, hu H e _ fun u G2 H2 X du => ⟨B, G2, v, u, wn, hn, ls, gl, a, X.ok, rfl, dp_mono X.gg dv, gk.mono X.gg, du, hw, hh, hl, hn3, hg, q.mono X⟩⟩
/-! law -/
abbrev N_law : List Str := ["_law_script", "_law_bag_here", "_law_plan_here", "_law_k", "_law_some_here", "_law_quarter", "_law_dye", "_law_deed", "_law_full", "_law_word", "_law_due"]
theorem sc_law : FnScope N_law ["_law_script"] (defScope s_law) := ⟨rfl, rfl, rfl, by decide +kernel, rfl, by decide +kernel, by decide +kernel⟩
def spLaw (K : Fg) : Sp := fun vs H Q E => ∃ (a : Addr) (ns : List Int), vs = [.ref a] ∧ SqL K H a (ns.map V.int) ∧ ns.length ≤ 63 ∧ ∀ H', Q (.bl true) H'
/-- what is known of a drawn plan -/
structure Drn (w h : Nat) (ls : List (List Int)) : Prop where
  w9 : 1 ≤ w ∧ w ≤ 9
  h9 : 1 ≤ h ∧ h ≤ 9
  len : ls.length ≤ 400
  tri : ∀ l ∈ ls, ∃ x y t : Int, l = [x, y, t]
  ne : ∀ l ∈ ls, l ≠ []
  n4 : 4 ≤ 4 * w * h ∧ 4 * w * h ≤ 324
  em : ((4 * w * h : Nat) : Int) = 4 * (w : Int) * (h : Int)
theorem PlanOk.drn {w h : Nat} {ls : List (List Int)} {gl : List Int} (hp : PlanOk w h ls gl) : Drn w h ls := by
  have hw : 1 ≤ (w : Int) ∧ (w : Int) ≤ 9 := by
    have := hp.w9
    omega
  have hh : 1 ≤ (h : Int) ∧ (h : Int) ≤ 9 := by
    have := hp.h9
    omega
  have tri : ∀ l ∈ ls, ∃ x y t : Int, l = [x, y, t] := fun l hl => by
    obtain ⟨x, y, t, e, _⟩ := within_mem (w := (w : Int)) (h := (h : Int)) (by omega) (by omega) (hp.l.f.sub l hl)
    exact ⟨x, y, t, e⟩
  refine ⟨hp.w9, hp.h9, Nat.le_trans (nd_len ls _ hp.l.f.nd hp.l.f.sub) (Nat.le_trans (List.length_filter_le _ _) (allL_len hw hh)), tri, fun l hl => ?_, mul9n hp.w9 hp.h9, ?_⟩
  · obtain ⟨x, y, t, rfl⟩ := tri l hl
    exact List.cons_ne_nil _ _
  · rw [Int.natCast_mul, Int.natCast_mul]
    rfl
/-- what lies there, but the frame -/
theorem kB_in {w h : Int} {ls : List (List Int)} {x y t : Int} (f : frB w h x y t = false) : [x, y, t] ∈ kB w h ls ↔ [x, y, t] ∈ ls := by
  unfold kB
  rw [(srtL_perm _).mem_iff, List.mem_append]
  refine ⟨fun z => z.resolve_right fun q => ?_, .inl⟩
  have q2 : frB w h x y t = true := (List.mem_filter.mp q).2
  rw [f] at q2
  cases q2
theorem fr_odd {w h x y t : Int} (ht : t = 1 ∨ t = 3) : frB w h x y t = false := by
  rcases ht with rfl | rfl <;> rfl
theorem fr_in2 {w h x y : Int} (h0 : x ≠ 0) (h1 : x ≠ w) : frB w h x y 2 = false := by
  unfold frB
  rw [if_neg (by decide), decide_eq_false h0, decide_eq_false h1]
  rfl
theorem fr_in0 {w h x y : Int} (h0 : y ≠ 0) (h1 : y ≠ h) : frB w h x y 0 = false := by
  unfold frB
  rw [if_pos rfl, decide_eq_false h0, decide_eq_false h1]
  rfl
theorem here_q (w x y : Nat) (p : Nat) : ((hereN w x y + p : Nat) : Int) = qAt w x y p := by
  unfold qAt
  rw [Int.natCast_add, ← here_eq]
theorem pair_in {ls : List (List Int)} {w h x y : Nat} {p : Nat × Nat} (hx : x < w) (hy : y < h) (hp : p ∈ cellN ls w h x y) : p ∈ pairsN ls w h h := by
  unfold pairsN rowP
  exact List.mem_flatMap.mpr ⟨y, List.mem_range.mpr hy, List.mem_flatMap.mpr ⟨x, List.mem_range.mpr hx, hp⟩⟩
theorem part_in {ls : List (List Int)} {w h x y : Nat} {a b : Nat} (hx : x < w) (hy : y < h) (hp : (a, b) ∈ partsL (slantL ls x y)) : (hereN w x y + a, hereN w x y + b) ∈ pairsN ls w h h := by
  refine pair_in hx hy ?_
  unfold cellN cpL
  exact List.mem_append_left _ (List.mem_append_left _ (List.mem_map.mpr ⟨(a, b), hp, rfl⟩))
theorem slant_not3 {ls : List (List Int)} {x y : Int} (h : [x + 1, y, 3] ∉ ls) : slantL ls x y = 0 ∨ slantL ls x y = 1 := by
  unfold slantL
  rw [if_neg h]
  split
  · exact .inr rfl
  · exact .inl rfl
theorem slant_not1 {ls : List (List Int)} {x y : Int} (h : [x, y, 1] ∉ ls) : slantL ls x y = 0 ∨ slantL ls x y = 3 := by
  unfold slantL
  rw [if_neg h]
  split
  · exact .inr rfl
  · exact .inl rfl
theorem part_a {s : Int} (h : s = 0 ∨ s = 1) : (0, 1) ∈ partsL s ∧ (2, 3) ∈ partsL s := by
  rcases h with rfl | rfl <;> decide
theorem part_b {s : Int} (h : s = 0 ∨ s = 3) : (1, 2) ∈ partsL s ∧ (0, 3) ∈ partsL s := by
  rcases h with rfl | rfl <;> decide
/-- each neighbour is a pair -/
theorem adj_pair {w h : Nat} {ls : List (List Int)} (hw : 1 ≤ w) (hh : 1 ≤ h) {i j : Nat} (hi : i < 4 * w * h) (hj : j ∈ adN w (kB w h ls) i) : (i, j) ∈ pairsN ls w h h ∨ (j, i) ∈ pairsN ls w h h := by
  have em : ((4 * w * h : Nat) : Int) = 4 * (w : Int) * (h : Int) := by
    rw [Int.natCast_mul, Int.natCast_mul]
    rfl
  have R := rim_ok (w := (w : Int)) (h := (h : Int)) (ls := ls) (by omega) (by omega)
  have c := cel_of (w := (w : Int)) (h := (h : Int)) (n := (i : Int)) (by omega) (by omega) (by omega)
  obtain ⟨z, hz, rfl⟩ := List.mem_map.mp hj
  rw [adI_cel (by omega) c] at hz
  have cx := c.cx
  have cy := c.cy
  have cp := c.cp
  have cn := c.cn
  clear c hj
  generalize (i : Int) / 4 % (w : Int) = X at *
  generalize (i : Int) / 4 / (w : Int) = Y at *
  generalize (i : Int) % 4 = p at *
  obtain ⟨x, rfl⟩ : ∃ x : Nat, X = (x : Int) := ⟨X.toNat, by omega⟩
  obtain ⟨y, rfl⟩ : ∃ y : Nat, Y = (y : Int) := ⟨Y.toNat, by omega⟩
  have xl : x < w := by omega
  have yl : y < h := by omega
  have num : ∀ {n : Nat} {x y p : Nat}, (n : Int) = qAt w x y p → n = hereN w x y + p := fun {n x y p} e => by
    have := here_q w x y p
    omega
  have numT : ∀ {x y p : Nat}, (qAt (w : Int) x y p).toNat = hereN w x y + p := fun {x y p} => by
    rw [← here_q, Int.toNat_natCast]
  have o1 : ∀ {t : Int} {a b : Int}, t = 1 ∨ t = 3 → [a, b, t] ∉ kB w h ls → [a, b, t] ∉ ls := fun ht n q => n ((kB_in (fr_odd ht)).mpr q)
  have : p = 0 ∨ p = 1 ∨ p = 2 ∨ p = 3 := by omega
  rcases adC_mem.mp hz with ⟨a, rfl⟩ | ⟨a, rfl⟩ | ⟨a, rfl⟩
  · rcases this with rfl | rfl | rfl | rfl
    · have e1 := num (p := 0) cn
      have e2 : (qAt (w : Int) x y ((0 + 1) % 4)).toNat = hereN w x y + 1 := numT (p := 1)
      rw [e1, e2]
      exact .inl (part_in xl yl (part_a (slant_not3 (o1 (.inr rfl) a))).1)
    · have e1 := num (p := 1) cn
      have e2 : (qAt (w : Int) x y ((1 + 1) % 4)).toNat = hereN w x y + 2 := numT (p := 2)
      rw [e1, e2]
      exact .inl (part_in xl yl (part_b (slant_not1 (o1 (.inl rfl) a))).1)
    · have e1 := num (p := 2) cn
      have e2 : (qAt (w : Int) x y ((2 + 1) % 4)).toNat = hereN w x y + 3 := numT (p := 3)
      rw [e1, e2]
      exact .inl (part_in xl yl (part_a (slant_not3 (o1 (.inr rfl) a))).2)
    · have e1 := num (p := 3) cn
      have e2 : (qAt (w : Int) x y ((3 + 1) % 4)).toNat = hereN w x y + 0 := numT (p := 0)
      rw [e1, e2]
      exact .inr (part_in xl yl (part_b (slant_not1 (o1 (.inl rfl) a))).2)
  · rcases this with rfl | rfl | rfl | rfl
    · have e1 := num (p := 0) cn
      have e2 : (qAt (w : Int) x y ((0 + 3) % 4)).toNat = hereN w x y + 3 := numT (p := 3)
      rw [e1, e2]
      exact .inl (part_in xl yl (part_b (slant_not1 (o1 (.inl rfl) a))).2)
    · have e1 := num (p := 1) cn
      have e2 : (qAt (w : Int) x y ((1 + 3) % 4)).toNat = hereN w x y + 0 := numT (p := 0)
      rw [e1, e2]
      exact .inr (part_in xl yl (part_a (slant_not3 (o1 (.inr rfl) a))).1)
    · have e1 := num (p := 2) cn
      have e2 : (qAt (w : Int) x y ((2 + 3) % 4)).toNat = hereN w x y + 1 := numT (p := 1)
      rw [e1, e2]
      exact .inr (part_in xl yl (part_b (slant_not1 (o1 (.inl rfl) a))).1)
    · have e1 := num (p := 3) cn
      have e2 : (qAt (w : Int) x y ((3 + 3) % 4)).toNat = hereN w x y + 2 := numT (p := 2)
      rw [e1, e2]
      exact .inr (part_in xl yl (part_a (slant_not3 (o1 (.inr rfl) a))).2)
  · rcases this with rfl | rfl | rfl | rfl
    · have a : [(x : Int) + 0, (y : Int) + 0, 0] ∉ kB w h ls := a
      rw [Int.add_zero, Int.add_zero] at a
      have y0 : (y : Int) ≠ 0 := fun z => a (by rw [z]; exact (R.1 x (by omega) (by omega)).1)
      obtain ⟨v, rfl⟩ : ∃ v, y = v + 1 := ⟨y - 1, by omega⟩
      have e1 := num (p := 0) cn
      have e2 : (qAt (w : Int) ((x : Int) + 1 * dx (stT 0)) (((v + 1 : Nat) : Int) + 1 * dy (stT 0)) ((0 + 2) % 4)).toNat = hereN w x v + 2 := by
        have e3 : (x : Int) + 1 * dx (stT 0) = (x : Int) := by show (x : Int) + 1 * 0 = x; omega
        have e4 : ((v + 1 : Nat) : Int) + 1 * dy (stT 0) = (v : Int) := by show ((v + 1 : Nat) : Int) + 1 * (-1) = v; omega
        rw [e3, e4]
        exact numT (p := 2)
      rw [e1, e2]
      refine .inr (pair_in (y := v) xl (by omega) ?_)
      unfold cellN belL
      refine List.mem_append_right _ ?_
      have e5 : ((v + 1 : Nat) : Int) = (v : Int) + 1 := by omega
      rw [e5] at a
      rw [if_pos ⟨yl, fun q => a ((kB_in (fr_in0 (by omega) (by omega))).mpr q)⟩]
      refine List.mem_singleton.mpr (congrArg (fun z => (hereN w x v + 2, z)) ?_)
      unfold hereN
      rw [Nat.add_mul]
      omega
    · have a : [(x : Int) + 1, (y : Int) + 0, 2] ∉ kB w h ls := a
      rw [Int.add_zero] at a
      have x0 : (x : Int) + 1 ≠ w := fun z => a (by rw [z]; exact (R.2 y (by omega) (by omega)).2)
      have e1 := num (p := 1) cn
      have e2 : (qAt (w : Int) ((x : Int) + 1 * dx (stT 1)) ((y : Int) + 1 * dy (stT 1)) ((1 + 2) % 4)).toNat = hereN w x y + 4 + 3 := by
        have e3 : (x : Int) + 1 * dx (stT 1) = ((x + 1 : Nat) : Int) := by show (x : Int) + 1 * 1 = _; omega
        have e4 : (y : Int) + 1 * dy (stT 1) = (y : Int) := by show (y : Int) + 1 * 0 = y; omega
        rw [e3, e4]
        have := numT (x := x + 1) (y := y) (p := 3)
        have e5 : (1 + 2) % 4 = ((3 : Nat) : Int) := rfl
        rw [e5, this]
        unfold hereN
        omega
      rw [e1, e2]
      refine .inl (pair_in xl yl ?_)
      unfold cellN rgtL
      refine List.mem_append_left _ (List.mem_append_right _ ?_)
      rw [if_pos ⟨by omega, fun q => a ((kB_in (fr_in2 (by omega) (by omega))).mpr q)⟩]
      exact List.mem_singleton.mpr rfl
    · have a : [(x : Int) + 0, (y : Int) + 1, 0] ∉ kB w h ls := a
      rw [Int.add_zero] at a
      have y0 : (y : Int) + 1 ≠ h := fun z => a (by rw [z]; exact (R.1 x (by omega) (by omega)).2)
      have e1 := num (p := 2) cn
      have e2 : (qAt (w : Int) ((x : Int) + 1 * dx (stT 2)) ((y : Int) + 1 * dy (stT 2)) ((2 + 2) % 4)).toNat = hereN w x y + 4 * w := by
        have e3 : (x : Int) + 1 * dx (stT 2) = (x : Int) := by show (x : Int) + 1 * 0 = x; omega
        have e4 : (y : Int) + 1 * dy (stT 2) = ((y + 1 : Nat) : Int) := by show (y : Int) + 1 * 1 = _; omega
        rw [e3, e4]
        have := numT (x := x) (y := y + 1) (p := 0)
        have e5 : (2 + 2) % 4 = ((0 : Nat) : Int) := rfl
        rw [e5, this]
        unfold hereN
        rw [Nat.add_mul]
        omega
      rw [e1, e2]
      refine .inl (pair_in xl yl ?_)
      unfold cellN belL
      refine List.mem_append_right _ ?_
      rw [if_pos ⟨by omega, fun q => a ((kB_in (fr_in0 (by omega) (by omega))).mpr q)⟩]
      exact List.mem_singleton.mpr rfl
    · have a : [(x : Int) + 0, (y : Int) + 0, 2] ∉ kB w h ls := a
      rw [Int.add_zero, Int.add_zero] at a
      have x0 : (x : Int) ≠ 0 := fun z => a (by rw [z]; exact (R.2 y (by omega) (by omega)).1)
      obtain ⟨v, rfl⟩ : ∃ v, x = v + 1 := ⟨x - 1, by omega⟩
      have e1 := num (p := 3) cn
      have e2 : (qAt (w : Int) (((v + 1 : Nat) : Int) + 1 * dx (stT 3)) ((y : Int) + 1 * dy (stT 3)) ((3 + 2) % 4)).toNat = hereN w v y + 1 := by
        have e3 : ((v + 1 : Nat) : Int) + 1 * dx (stT 3) = (v : Int) := by show ((v + 1 : Nat) : Int) + 1 * (-1) = v; omega
        have e4 : (y : Int) + 1 * dy (stT 3) = (y : Int) := by show (y : Int) + 1 * 0 = y; omega
        rw [e3, e4]
        exact numT (p := 1)
      rw [e1, e2]
      refine .inr (pair_in (x := v) (by omega) yl ?_)
      unfold cellN rgtL
      refine List.mem_append_left _ (List.mem_append_right _ ?_)
      have e5 : ((v + 1 : Nat) : Int) = (v : Int) + 1 := by omega
      rw [e5] at a
      rw [if_pos ⟨xl, fun q => a ((kB_in (fr_in2 (by omega) (by omega))).mpr q)⟩]
      refine List.mem_singleton.mpr (congrArg (fun z => (hereN w v y + 1, z)) ?_)
      unfold hereN
      omega
/-- each pair is of neighbours -/
theorem pair_adj {w h : Nat} {ls : List (List Int)} (hw : 1 ≤ w) (hh : 1 ≤ h) (hf : ∀ x y : Int, [x, y, 1] ∈ ls → [x + 1, y, 3] ∉ ls) {i j : Nat} (hp : (i, j) ∈ pairsN ls w h h) : j ∈ adN w (kB w h ls) i := by
  unfold pairsN rowP at hp
  obtain ⟨y, hy, hp⟩ := List.mem_flatMap.mp hp
  obtain ⟨x, hx, hp⟩ := List.mem_flatMap.mp hp
  have hy := List.mem_range.mp hy
  have hx := List.mem_range.mp hx
  have fin : ∀ {p : Nat} {z : Int}, p ≤ 3 → i = hereN w x y + p → z = (j : Int) → z ∈ adC w (kB w h ls) x y p → j ∈ adN w (kB w h ls) i := fun {p z} h3 ei ez hz => by
    unfold adN
    refine List.mem_map.mpr ⟨z, ?_, by omega⟩
    have c : Cel4 (w : Int) (h : Int) (i : Int) x y p := ⟨⟨by omega, by omega⟩, ⟨by omega, by omega⟩, ⟨by omega, by omega⟩, by rw [ei, here_q]⟩
    rw [adI_cel (by omega) c]
    exact hz
  have o1 : ∀ {t : Int} {a b : Int}, t = 1 ∨ t = 3 → [a, b, t] ∉ ls → [a, b, t] ∉ kB w h ls := fun ht n q => n ((kB_in (fr_odd ht)).mp q)
  unfold cellN at hp
  rcases mem_or hp with hp | hp
  · rcases mem_or hp with hp | hp
    · unfold cpL at hp
      obtain ⟨q, hq, e⟩ := List.mem_map.mp hp
      injection e with e1 e2
      -- the slant, and what it leaves
      have ka : slantL ls x y = 0 ∨ slantL ls x y = 1 → [(x : Int) + 1, (y : Int), 3] ∉ ls := fun s z => by
        unfold slantL at s
        rw [if_pos z] at s
        split at s
        · rename_i z1
          exact hf _ _ z1 z
        · omega
      have kb : slantL ls x y = 0 ∨ slantL ls x y = 3 → [(x : Int), (y : Int), 1] ∉ ls := fun s z => by
        unfold slantL at s
        rw [if_pos z] at s
        omega
      have mem4 : (q = (0, 1) ∧ (slantL ls x y = 0 ∨ slantL ls x y = 1)) ∨ (q = (2, 3) ∧ (slantL ls x y = 0 ∨ slantL ls x y = 1)) ∨ (q = (1, 2) ∧ (slantL ls x y = 0 ∨ slantL ls x y = 3)) ∨ (q = (0, 3) ∧ (slantL ls x y = 0 ∨ slantL ls x y = 3)) := by
        rcases slant_cases ls x y with s | s | s
        · rw [s] at hq ⊢
          have hq : q ∈ [(0, 1), (1, 2), (2, 3), (0, 3)] := hq
          simp at hq ⊢
          rcases hq with h | h | h | h <;> simp [h]
        · rw [s] at hq ⊢
          have hq : q ∈ [(0, 1), (2, 3)] := hq
          simp at hq ⊢
          rcases hq with h | h <;> simp [h]
        · rw [s] at hq ⊢
          have hq : q ∈ [(0, 3), (1, 2)] := hq
          simp at hq ⊢
          rcases hq with h | h <;> simp [h]
      rcases mem4 with ⟨rfl, s⟩ | ⟨rfl, s⟩ | ⟨rfl, s⟩ | ⟨rfl, s⟩
      · exact fin (p := 0) (z := qAt w x y 1) (by decide) e1.symm (by rw [← e2]; exact (here_q w x y 1).symm) (adC_mem.mpr (.inl ⟨o1 (.inr rfl) (ka s), rfl⟩))
      · exact fin (p := 2) (z := qAt w x y 3) (by decide) e1.symm (by rw [← e2]; exact (here_q w x y 3).symm) (adC_mem.mpr (.inl ⟨o1 (.inr rfl) (ka s), rfl⟩))
      · exact fin (p := 1) (z := qAt w x y 2) (by decide) e1.symm (by rw [← e2]; exact (here_q w x y 2).symm) (adC_mem.mpr (.inl ⟨o1 (.inl rfl) (kb s), rfl⟩))
      · exact fin (p := 0) (z := qAt w x y 3) (by decide) e1.symm (by rw [← e2]; exact (here_q w x y 3).symm) (adC_mem.mpr (.inr (.inl ⟨o1 (.inl rfl) (kb s), rfl⟩)))
    · unfold rgtL at hp
      split at hp
      · rename_i k
        have e := List.mem_singleton.mp hp
        injection e with e1 e2
        refine fin (p := 1) (z := qAt w (x + 1) y 3) (by decide) e1 ?_ (adC_mem.mpr (.inr (.inr ⟨?_, ?_⟩)))
        · have := here_q w (x + 1) y 3
          rw [e2]
          have e3 : ((x + 1 : Nat) : Int) = (x : Int) + 1 := by omega
          rw [e3] at this
          rw [show ((3 : Nat) : Int) = 3 from rfl] at this
          rw [← this]
          unfold hereN
          omega
        · show [(x : Int) + 1, (y : Int) + 0, 2] ∉ kB w h ls
          rw [Int.add_zero]
          exact fun z => k.2 ((kB_in (fr_in2 (by omega) (by omega))).mp z)
        · show qAt w ((x : Int) + 1) y 3 = qAt w ((x : Int) + 1 * 1) ((y : Int) + 1 * 0) 3
          rw [show (x : Int) + 1 * 1 = (x : Int) + 1 by omega, show (y : Int) + 1 * 0 = (y : Int) by omega]
      · cases hp
  · unfold belL at hp
    split at hp
    · rename_i k
      have e := List.mem_singleton.mp hp
      injection e with e1 e2
      refine fin (p := 2) (z := qAt w x (y + 1) 0) (by decide) e1 ?_ (adC_mem.mpr (.inr (.inr ⟨?_, ?_⟩)))
      · have := here_q w x (y + 1) 0
        rw [e2]
        have e3 : ((y + 1 : Nat) : Int) = (y : Int) + 1 := by omega
        rw [e3] at this
        rw [show ((0 : Nat) : Int) = 0 from rfl] at this
        rw [← this]
        unfold hereN
        rw [Nat.add_mul]
        omega
      · show [(x : Int) + 0, (y : Int) + 1, 0] ∉ kB w h ls
        rw [Int.add_zero]
        exact fun z => k.2 ((kB_in (fr_in0 (by omega) (by omega))).mp z)
      · show qAt w x ((y : Int) + 1) 0 = qAt w ((x : Int) + 1 * 0) ((y : Int) + 1 * 1) 0
        rw [show (x : Int) + 1 * 0 = (x : Int) by omega, show (y : Int) + 1 * 1 = (y : Int) + 1 by omega]
    · cases hp
theorem panes_eq {w h : Nat} {ls : List (List Int)} (hw : 1 ≤ w ∧ w ≤ 9) (hh : 1 ≤ h) (hf : ∀ x y : Int, [x, y, 1] ∈ ls → [x + 1, y, 3] ∉ ls) : labsB w h ls = panesL ls w h :=
  lab_same (graph_ok hw (rim_ok (by omega) (by omega))).1 (lab_joined pairsN_lt) pairsN_lt (fun i j hi hj => adj_pair hw.1 hh hi hj) fun i j h => pair_adj hw.1 hh hf h
/-! slants do not cross -/
theorem found_ov {w h : Int} {ls : List (List Int)} (f : FoundOk w h ls) (x y : Int) (z : [x, y, 1] ∈ ls) : [x + 1, y, 3] ∉ ls := by
  have := f.ov _ z [x + 2 - 1, y, 4 - 1] rfl
  rw [show x + 2 - 1 = x + 1 by omega] at this
  exact this
/-- a pair whose second is known -/
theorem st_setPairW {i : Nat} {B : Bg} {G H : Hp} {σ : L2.St} {ta tb : TE} {D : Ends} {d1 d2 : PyData} {P' : Hp → V → PyData → Prop} (h1 : EvD K B ta σ G d1) (h2 : EvW K B tb σ G d2 P') (mp : MonoP P') (e : Ok K B G H) (k : ∀ p v1 v2 G2 H2, Ext K B G H G2 H2 → SqT K G2 p [v1, v2] → Dp K G2 v1 d1 → Dp K G2 v2 d2 → P' G2 v2 d2 → D.nx (σ.set i (some (.ref p))) H2) : tAsg (tTup (tCons ta (tCons tb tNil))) (gName i) D σ H :=
  h1 H e _ fun v1 G1 H1 X1 a1 => h2.mono mp X1.gg e.c H1 X1.ok _ fun d v2 G2 H2 s X2 a2 k2 => ⟨sz (n := 2) (Nat.le_of_ble_eq_true rfl), fun p hp => by
    subst s
    have eg := Ex.new (o := .tup [v1, v2]) (X2.ok.e.off hp)
    exact k p v1 v2 _ _ (X1.trans (X2.trans (Ext.new X2.ok hp))) (SqT.of upd_same) (dp_mono (X2.gg.trans eg) a1) (dp_mono eg a2) (mp _ _ _ _ eg k2)⟩
/-- the law's own deed for what is asked -/
def fullA : Ask → Deed
  | .used _ => .shatter 0
  | .shat n => .shatter n
  | .gl1 n => .glaze n 1
  | .gl2 n c => .glaze n c
theorem fit_pl {n : Nat} {w h : Int} {ls : List (List Int)} {gl : List Int} (hl : ls.length ≤ 100000) (hg : gl.length ≤ 100000) (h3 : ∀ l ∈ ls, l.length ≤ 100000) : fit (n + 4) (.tuple [.int w, .int h, .tuple (ls.map encT), encT gl]) := by
  refine fit_tup (Nat.le_of_ble_eq_true rfl) (fa_cons fit_int (fa_cons fit_int (fa_cons (fit_tup (by rw [List.length_map]; exact hl) fun x hx => ?_) (fa_cons (fit_tup (by rw [List.length_map]; exact hg) fun x hx => ?_) fa_nil))))
  · obtain ⟨l, hl, rfl⟩ := List.mem_map.mp hx
    refine fit_tup (by rw [List.length_map]; exact h3 l hl) fun y hy => ?_
    obtain ⟨i, _, rfl⟩ := List.mem_map.mp hy
    exact fit_int
  · obtain ⟨i, _, rfl⟩ := List.mem_map.mp hx
    exact fit_int
theorem inQ_g {N : Nat} {gl : List Int} {n c : Int} (h : wordG N gl n c = "") : 0 ≤ n ∧ n < (N : Int) := by
  by_cases z : 0 ≤ n ∧ n < (N : Int)
  · exact z
  · unfold wordG at h
    rw [if_pos z] at h
    exact absurd h (by decide +kernel)
theorem inQ_s {N : Nat} {gl : List Int} {n : Int} (h : wordS N gl n = "") : 0 ≤ n ∧ n < (N : Int) := by
  by_cases z : 0 ≤ n ∧ n < (N : Int)
  · exact z
  · unfold wordS at h
    rw [if_pos z] at h
    exact absurd h (by decide +kernel)
theorem fn_law (T : Txt K mg) {fd : FuncData} (F : FunD K "law" "law" (defArgs s_law) (defBody s_law) (defScope s_law) [] [] (He.ga K "law") fd) (G__law_bag : Good P w K mg base (L2N.CX P w) 1 "_law_bag" ["_law_script"] [] (sp__law_bag K)) (G__law_plan : Good P w K mg base (L2N.CX P w) 7 "_law_plan" ["_law_bag_here"] [] (sp__law_plan K)) (G__law_pull : Good P w K mg base (L2N.CX P w) 1 "_law_pull" ["_law_bag_here", "_law_upto"] [] (sp__law_pull K)) (G__law_glass_word : Good P w K mg base (L2N.CX P w) 1 "_law_glass_word" ["_law_plan_here", "_law_deed"] [] (sp__law_glass_word K)) (G__law_after : Good P w K mg base (L2N.CX P w) 5 "_law_after" ["_law_world_here", "_law_deed"] [] (sp__law_after K)) (G__law_world : Good P w K mg base (L2N.CX P w) 1 "_law_world" ["_law_plan_here"] [] (sp__law_world K)) (G__law_same : Good P w K mg base (L2N.CX P w) 8 "_law_same" ["_law_found", "_law_due"] [] (sp__law_same K)) (G__law_said : Good P w K mg base (L2N.CX P w) 12 "_law_said" ["_law_plan_here", "_law_deed"] [] (sp__law_said K)) : FnOk P w K mg base CX0 13 (He.ga K "law") fd ["_law_script"] (spLaw K) := by
  refine F.ok sc_law (fun vs H Q E h => ?_) (fun cdv A outer s H vs Q E hr h => ?_)
  · obtain ⟨a, ns, rfl, _⟩ := h
    rfl
  · obtain ⟨a, ns, rfl, hS, hl, q⟩ := h
    refine ⟨_, PSs.nox (pss_cons (ps_set (i := 1) sc_law.nd rfl (Or.inl rfl) (pe_own G__law_bag (hr.mono (by decide)) (by rfl) passLN (pa_cons (pv 0) pa_nil))) (pss_cons (ps_set (i := 2) sc_law.nd rfl (Or.inl rfl) (pe_own G__law_plan (hr.mono (by decide)) (by rfl) passLN (pa_cons (pv 1) pa_nil))) (pss_cons (ps_for PassesOwn.never rfl (pi_range1 (by rfl) T.f_range (pa_cons pe_int pa_nil)) (pg_name (i := 3) sc_law.nd rfl (Or.inl rfl)) (pss_cons (ps_set (i := 4) sc_law.nd rfl (Or.inl rfl) (pe_own G__law_pull (hr.mono (by decide)) (by rfl) passLN (pa_cons (pv 1) (pa_cons (pe_callB (r := rLenS K) call_len_seq (by rfl) T.f_len (by decide +kernel) (pa_cons (pe_ix (r := rIxT K) ix_tup (pv 2) pe_int (fun _ _ => rfl)) pa_nil)) pa_nil)))) (pss_cons (ps_set (i := 5) sc_law.nd rfl (Or.inl rfl) (pe_ix (r := rIxL K) ix_list (pe_lst (pa_cons (pv 4) (pa_cons (pv 4) (pa_cons (pe_op op_sub pe_int pe_int) (pa_cons (pe_callB (r := rLenS K) call_len_seq (by rfl) T.f_len (by decide +kernel) (pa_cons (pe_ix (r := rIxT K) ix_tup (pv 2) pe_int (fun _ _ => rfl)) pa_nil)) pa_nil))))) (pe_own G__law_pull (hr.mono (by decide)) (by rfl) passLN (pa_cons (pv 1) (pa_cons pe_int pa_nil))) (fun _ _ => rfl))) (pss_cons (ps_set (i := 6) sc_law.nd rfl (Or.inl rfl) (pe_ix (r := rIxL K) ix_list (pe_lst (pa_cons (pe_op op_add pe_int (pe_own G__law_pull (hr.mono (by decide)) (by rfl) passLN (pa_cons (pv 1) (pa_cons pe_int pa_nil)))) (pa_cons pe_int (pa_cons pe_int (pa_cons pe_int (pa_cons (pe_op op_sub pe_int pe_int) pa_nil)))))) (pe_own G__law_pull (hr.mono (by decide)) (by rfl) passLN (pa_cons (pv 1) (pa_cons pe_int pa_nil))) (fun _ _ => rfl))) (pss_cons (ps_for PassesOwn.never rfl (pi_list (pe_lst (pa_cons (pe_tup (pa_cons pe_str (pa_cons (pv 5) (pa_cons (pv 6) pa_nil)))) (pa_cons (pe_tup (pa_cons pe_str (pa_cons (pv 5) pa_nil))) (pa_cons (pe_tup (pa_cons pe_str (pa_cons (pv 5) pa_nil))) pa_nil))))) (pg_name (i := 7) sc_law.nd rfl (Or.inl rfl)) (pss_cons (ps_set (i := 8) sc_law.nd rfl (Or.inl rfl) (pe_ifExp (pt_cmpR op_eq (pe_ix (r := rIxT K) ix_tup (pv 7) pe_int (fun _ _ => rfl)) pe_str (nomark _)) (pv 7) (pe_tup (pa_cons pe_str (pa_cons (pv 5) (pa_cons (pe_ix (r := rIxT K) ix_tup (pe_op (r := rCatA K) op_catA (pv 7) (pe_tup (pa_cons pe_int pa_nil))) pe_int (fun _ _ => rfl)) pa_nil)))))) (pss_cons (ps_set (i := 9) sc_law.nd rfl (Or.inl rfl) (pe_own G__law_glass_word (hr.mono (by decide)) (by rfl) passLN (pa_cons (pv 2) (pa_cons (pv 8) pa_nil)))) (pss_cons (ps_set (i := 10) sc_law.nd rfl (Or.inl rfl) (pe_tup (pa_cons (pv 9) (pa_cons pe_non pa_nil)))) (pss_cons (ps_if (pt_cmpR op_eq (pv 9) pe_str (nomark _)) (pss_one (ps_set (i := 10) sc_law.nd rfl (Or.inl rfl) (pe_tup (pa_cons pe_str (pa_cons (pe_dget (hu_of hr) (pe_own G__law_after (hr.mono (by decide)) (by rfl) passLN (pa_cons (pe_own G__law_world (hr.mono (by decide)) (by rfl) passLN (pa_cons (pv 2) pa_nil)) (pa_cons (pv 8) pa_nil))) pe_str (fun _ _ => rfl)) pa_nil))))) pss_nil) (pss_cons (ps_if (pt_not (pt_val (pe_own G__law_same (hr.mono (by decide)) (by rfl) passLN (pa_cons (pe_own G__law_said (hr.mono (by decide)) (by rfl) passLN (pa_cons (pv 2) (pa_cons (pv 7) pa_nil))) (pa_cons (pv 10) pa_nil))))) (pss_one (ps_ret pe_bl)) pss_nil) (pss_one (ps_if (PW.pt (pw_and (pt_cmpR op_eq (pv 9) pe_str (nomark _)) (pw_and1 (pt_cmpR op_eq (pe_own G__law_pull (hr.mono (by decide)) (by rfl) passLN (pa_cons (pv 1) (pa_cons pe_int pa_nil))) pe_int (nomark _))))) (pss_one (ps_set (i := 2) sc_law.nd rfl (Or.inl rfl) (pe_ix (r := rIxT K) ix_tup (pv 10) pe_int (fun _ _ => rfl)))) pss_nil)))))))) (pss_cons (ps_set (i := 10) sc_law.nd rfl (Or.inl rfl) (pe_ifExp (pt_chain op_le op_le pe_int (pv 6) pe_int) (pe_tup (pa_cons pe_str (pa_cons (pe_tcount PySem.F.plainAttrs_tuple PySem.F.slot_tuple_count PySem.F.type_tuple_count (mt_countT (hu65 hr)) (pe_ix (r := rIxT K) ix_tup (pv 2) pe_int (fun _ _ => rfl)) (pa_cons (pv 6) pa_nil)) pa_nil))) (pe_tup (pa_cons pe_str (pa_cons pe_non pa_nil))))) (pss_one (ps_if (pt_not (pt_val (pe_own G__law_same (hr.mono (by decide)) (by rfl) passLN (pa_cons (pe_own G__law_said (hr.mono (by decide)) (by rfl) passLN (pa_cons (pv 2) (pa_cons (pe_tup (pa_cons pe_str (pa_cons (pv 6) pa_nil))) pa_nil))) (pa_cons (pv 10) pa_nil))))) (pss_one (ps_ret pe_bl)) pss_nil)))))))) (pss_one (ps_ret pe_bl))))), ?_⟩
    refine ⟨.ref a, rfl, a, ns, rfl, hS, hl, fun b c G1 H1 e1 => ?_⟩
    refine sq_setW (ek_plan rfl) e1 (fun d v2 G2 H2 sd X2 d2 k2 => ?_)
    obtain ⟨pw, ph, ls, gl0, hp, rfl⟩ := sd
    have hw := hp.w9
    have hh := hp.h9
    have n1 : 1 ≤ 4 * pw * ph := Nat.le_trans (by decide) (Nat.mul_le_mul (Nat.mul_le_mul_left 4 hw.1) hh.1)
    have n4 : 4 * pw * ph ≤ 324 := Nat.le_trans (Nat.mul_le_mul (Nat.mul_le_mul_left 4 hw.2) hh.2) (by decide)
    have tri := hp.drn.tri
    have few := hp.drn.len
    have hn3 := hp.drn.ne
    have h3 : ∀ l ∈ ls, l.length ≤ 100000 := fun l hl => by
      obtain ⟨x, y, t, rfl⟩ := tri l hl
      exact Nat.le_of_ble_eq_true rfl
    have pe : labsB pw ph ls = panesL ls pw ph := panes_eq hw hh.1 (found_ov hp.l.f)
    have g0 : gl0.length = 4 * pw * ph := by
      obtain ⟨col, _, rfl⟩ := hp.g
      rw [List.length_map]
      exact joined_len _ _
    refine sq_forR (K := K) (B := some (b, c)) (n := 6) (Pv := fun _ σ' G' _ => ∃ (v2 : V) (gl : List Int) (y3 y4 y5 y6 y7 y8 y9 y10 : Option V), σ' = [some (.ref a), some (.ref b), some v2, y3, y4, y5, y6, y7, y8, y9, y10] ∧ gl.length = 4 * pw * ph ∧ Dp K G' v2 (planP pw ph ls gl) ∧ Gk K G' v2 (planP pw ph ls gl)) (ea_cons ed_int ea_nil) (by decide) X2.ok (fun G3 H3 X3 => ⟨_, _, _, _, _, _, _, _, _, _, rfl, g0, dp_mono X3.gg d2, k2.mono X3.gg⟩) (fun G3 H3 X3 j σ4 G4 H4 hj X4 pv => ?_) (fun σ3 G3 H3 X3 pv => q _)
    obtain ⟨v2, gl, y3, y4, y5, y6, y7, y8, y9, y10, rfl, hg, p4, k4⟩ := pv
    have lenT : ∀ {σ : L2.St} {G' : Hp}, σ[2]? = some (some v2) → Ex G4 G' → EvD K (some (b, c)) (tCB (rLenS K) (tCons (tOp (rIxT K) (tVar 2) (tC (.int 3))) tNil)) σ G' (.int ((4 * pw * ph : Nat) : Int)) := fun h2 eg => ed_len (n := 4 * pw * ph) (ed_op (ed_var h2 (dp_mono eg p4)) ed_int (rd_ixT (i := 3) rfl)) (congrArg some ((List.length_map _).trans hg))
    refine sq_setS (es_pull rfl (lenT rfl (Ex.refl _)) (by omega) (by omega)) X4.ok (fun d v4 G5 H5 s5 X5 d5 => ?_)
    obtain ⟨so, rfl, _⟩ := s5
    obtain rfl := dp_int d5
    refine sq_setS (S := fun d => ∃ n : Int, d = .int n) (es_op (EvD.toS (S := fun d => d = .list [.int so, .int so, .int (0 - 1), .int ((4 * pw * ph : Nat) : Int)]) (EvF.ed (ef_lst (ea_cons (ed_var rfl (.int so)) (ea_cons (ed_var rfl (.int so)) (ea_cons (ed_op ed_int ed_int rd_I0) (ea_cons (lenT rfl X5.gg) ea_nil)))) (Nat.le_of_ble_eq_true rfl))) rfl) (es_pull (u := 4) rfl ed_int (by decide) (by decide)) ?_) X5.ok (fun d v5 G6 H6 s6 X6 d6 => ?_)
    · rintro x y rfl ⟨n, rfl, h0, h1⟩
      have : n = 0 ∨ n = 1 ∨ n = 2 ∨ n = 3 := by omega
      rcases this with rfl | rfl | rfl | rfl
      · exact ⟨_, ⟨so, rfl⟩, rd_ixL rfl⟩
      · exact ⟨_, ⟨so, rfl⟩, rd_ixL rfl⟩
      · exact ⟨_, ⟨_, rfl⟩, rd_ixL rfl⟩
      · exact ⟨_, ⟨_, rfl⟩, rd_ixL rfl⟩
    obtain ⟨nq, rfl⟩ := s6
    obtain rfl := dp_int d6
    refine sq_setS (S := fun d => ∃ n : Int, d = .int n) (es_op (es_lst (S := fun ds => ∃ k : Int, ds = [.int k, .int 1, .int 0, .int 10, .int (0 - 1)]) (eas_cons (S1 := fun d => ∃ k : Int, d = .int k) (es_op (EvD.toS (S := fun d => d = .int 1) ed_int rfl) (es_pull (u := 9) rfl ed_int (by decide) (by decide)) ?_) (fun d hd => eas_of (ds := [.int 1, .int 0, .int 10, .int (0 - 1)]) (ea_cons ed_int (ea_cons ed_int (ea_cons ed_int (ea_cons (ed_op ed_int ed_int rd_I0) ea_nil)))) (by obtain ⟨k, rfl⟩ := hd; exact ⟨k, rfl⟩))) (fun ds hd => by obtain ⟨k, rfl⟩ := hd; exact Nat.le_of_ble_eq_true rfl)) (es_pull (u := 5) rfl ed_int (by decide) (by decide)) ?_) X6.ok (fun d v6 G7 H7 s7 X7 d7 => ?_)
    · rintro x y rfl ⟨n, rfl, _⟩
      exact ⟨_, ⟨1 + n, rfl⟩, rd_I0⟩
    · rintro x y ⟨ds, rfl, k, rfl⟩ ⟨n, rfl, h0, h1⟩
      have : n = 0 ∨ n = 1 ∨ n = 2 ∨ n = 3 ∨ n = 4 := by omega
      rcases this with rfl | rfl | rfl | rfl | rfl
      · exact ⟨_, ⟨k, rfl⟩, rd_ixL rfl⟩
      · exact ⟨_, ⟨_, rfl⟩, rd_ixL rfl⟩
      · exact ⟨_, ⟨_, rfl⟩, rd_ixL rfl⟩
      · exact ⟨_, ⟨_, rfl⟩, rd_ixL rfl⟩
      · exact ⟨_, ⟨_, rfl⟩, rd_ixL rfl⟩
    obtain ⟨dy, rfl⟩ := s7
    obtain rfl := dp_int d7
    have Y7 := (X5.trans X6).trans X7
    refine sq_forL (K := K) (B := some (b, c)) (ds := [(Ask.gl2 nq dy).d, (Ask.shat nq).d, (Ask.gl1 nq).d]) (Pv := fun _ σ' G' _ => ∃ (v2 : V) (gl : List Int) (y7 y8 y9 y10 : Option V), σ' = [some (.ref a), some (.ref b), some v2, some (.int (j : Int)), some (.int so), some (.int nq), some (.int dy), y7, y8, y9, y10] ∧ gl.length = 4 * pw * ph ∧ Dp K G' v2 (planP pw ph ls gl) ∧ Gk K G' v2 (planP pw ph ls gl)) (EvF.ed (ef_lst (ea_cons (ed_tup (ea_cons ed_str (ea_cons (ed_var rfl (.int nq)) (ea_cons (ed_var rfl (.int dy)) ea_nil))) (Nat.le_of_ble_eq_true rfl)) (ea_cons (ed_tup (ea_cons ed_str (ea_cons (ed_var rfl (.int nq)) ea_nil)) (Nat.le_of_ble_eq_true rfl)) (ea_cons (ed_tup (ea_cons ed_str (ea_cons (ed_var rfl (.int nq)) ea_nil)) (Nat.le_of_ble_eq_true rfl)) ea_nil))) (Nat.le_of_ble_eq_true rfl))) X7.ok (fun G8 H8 X8 => ⟨_, _, _, _, _, _, rfl, hg, dp_mono (Y7.trans X8).gg p4, k4.mono (Y7.trans X8).gg⟩) (fun G8 H8 X8 jj d v7 σ8 G9 H9 hd X9 pv d9 => ?_) (fun σ8 G8 H8 X8 pv => ?_)
    · obtain ⟨v2, gl, y7, y8, y9, y10, rfl, hg, p9, k9⟩ := pv
      obtain ⟨aa, hor, rfl⟩ : ∃ aa : Ask, (aa = .gl2 nq dy ∨ aa = .shat nq ∨ aa = .gl1 nq) ∧ d = aa.d := by
        match jj, hd with
        | 0, hd => exact ⟨_, .inl rfl, (Option.some.inj hd).symm⟩
        | 1, hd => exact ⟨_, .inr (.inl rfl), (Option.some.inj hd).symm⟩
        | 2, hd => exact ⟨_, .inr (.inr rfl), (Option.some.inj hd).symm⟩
      have isg : isG (fullA aa) := by rcases hor with rfl | rfl | rfl <;> exact trivial
      refine sq_set (d := (fullA aa).d) ?_ X9.ok (fun v8 GA HA XA dA => ?_)
      · rcases hor with rfl | rfl | rfl
        · have d9 : Dp K G9 v7 (.tuple [.str "glaze", .int nq, .int dy]) := d9
          exact ed_if (b := false) (eb_is (eb_test (ed_op (ed_op (ed_var rfl d9) ed_int (rd_ixT (i := 0) rfl)) ed_str (rd_eq rfl))) (dsB.trans (decide_eq_false nolay2.1))) (fun z => by cases z) (fun _ => ed_tup (ea_cons ed_str (ea_cons (ed_var rfl (.int nq)) (ea_cons (ed_op (ed_op (ed_var rfl d9) (ed_tup (ea_cons ed_int ea_nil) (Nat.le_of_ble_eq_true rfl)) (rd_catA (Nat.le_of_ble_eq_true rfl))) ed_int (rd_ixT (i := 2) rfl)) ea_nil))) (Nat.le_of_ble_eq_true rfl))
        · have d9 : Dp K G9 v7 (.tuple [.str "shatter", .int nq]) := d9
          exact ed_if (b := true) (eb_is (eb_test (ed_op (ed_op (ed_var rfl d9) ed_int (rd_ixT (i := 0) rfl)) ed_str (rd_eq rfl))) (dsB.trans (decide_eq_true rfl))) (fun _ => ed_var rfl d9) (fun z => by cases z)
        · have d9 : Dp K G9 v7 (.tuple [.str "glaze", .int nq]) := d9
          exact ed_if (b := false) (eb_is (eb_test (ed_op (ed_op (ed_var rfl d9) ed_int (rd_ixT (i := 0) rfl)) ed_str (rd_eq rfl))) (dsB.trans (decide_eq_false nolay2.1))) (fun z => by cases z) (fun _ => ed_tup (ea_cons ed_str (ea_cons (ed_var rfl (.int nq)) (ea_cons (ed_op (ed_op (ed_var rfl d9) (ed_tup (ea_cons ed_int ea_nil) (Nat.le_of_ble_eq_true rfl)) (rd_catA (Nat.le_of_ble_eq_true rfl))) ed_int (rd_ixT (i := 2) rfl)) ea_nil))) (Nat.le_of_ble_eq_true rfl))
      have gw : gwW (4 * pw * ph) gl (fullA aa) = askW (4 * pw * ph) gl aa := by rcases hor with rfl | rfl | rfl <;> rfl
      have pA := dp_mono XA.gg p9
      have kA := k9.mono XA.gg
      have aA := dp_mono XA.gg d9
      refine sq_set (ed_is (ed_gword (ea_cons (ed_var rfl pA) (ea_cons (ed_var rfl dA) ea_nil)) hg isg) (congrArg PyData.str gw)) XA.ok (fun v9 GB HB XB dB => ?_)
      obtain rfl := dp_str dB
      refine sq_set (d := .tuple [.str (askW (4 * pw * ph) gl aa), .none]) (ed_tup (ea_cons (ed_var rfl (.str _)) (ea_cons ed_non ea_nil)) (Nat.le_of_ble_eq_true rfl)) XB.ok (fun v10 GC HC XC dC => ?_)
      have XAC := XA.trans (XB.trans XC)
      have YC := XB.gg.trans XC.gg
      by_cases w0 : askW (4 * pw * ph) gl aa = ""
      · have oq : onQ pw ph (fullA aa) := by
          rcases hor with rfl | rfl | rfl
          · exact inQ_g w0
          · exact inQ_s w0
          · exact inQ_g w0
        have al : (aftW pw ph ls gl (fullA aa)).ls = ls := by rcases hor with rfl | rfl | rfl <;> rfl
        have gll : (aftW pw ph ls gl (fullA aa)).gl.length = 4 * pw * ph := by
          have pl : (panesL ls pw ph).length = 4 * pw * ph := joined_len _ _
          rcases hor with rfl | rfl | rfl <;> exact (List.length_map _).trans (List.length_range.trans pl)
        have sd : saidA pw ph ls gl aa = .tuple [.str "", planP pw ph ls (aftW pw ph ls gl (fullA aa)).gl] := by
          unfold saidA
          rw [w0, if_pos rfl]
          rcases hor with rfl | rfl | rfl
          · show PyData.tuple [.str "", dyeP pw ph ls gl nq.toNat dy] = _
            unfold dyeP
            rw [pe]
            rfl
          · show PyData.tuple [.str "", dyeP pw ph ls gl nq.toNat 0] = _
            unfold dyeP
            rw [pe]
            rfl
          · show PyData.tuple [.str "", dyeP pw ph ls gl nq.toNat 1] = _
            unfold dyeP
            rw [pe]
            rfl
        refine sq_if (b := true) (eb_is (eb_test (ed_op (ed_var rfl (.str _)) ed_str (rd_eq rfl))) (dsB.trans (decide_eq_true w0))) XC.ok (fun _ GD HD XD => ?_) (fun z => by cases z)
        have YD := YC.trans XD.gg
        refine st_setPairW (d1 := .str "") (d2 := planP pw ph ls (aftW pw ph ls gl (fullA aa)).gl) ed_str ((ek_wo1 (ew_afterC (ls := ls) (gl := gl) (wn := pw) (hn := ph) (d := fullA aa) (lo := []) (ds := []) (ew_worldK (i := 2) rfl (dp_mono YD pA) (kA.mono YD)) (j := 8) rfl (dp_mono YD dA) hw.2 hh.2 hg (by omega) hn3 (Nat.zero_le _) (Nat.zero_le _) oq isg)).to fun d z => by rw [z, al]; rfl) mono_Gk XD.ok (fun p v1 vn GE HE XE sE e1 e2 ke => ?_)
        have YE := YD.trans XE.gg
        have dE : Dp K GE (.ref p) (.tuple [.str "", planP pw ph ls (aftW pw ph ls gl (fullA aa)).gl]) := .tup sE (.cons e1 (.cons e2 .nil))
        refine sq_if (b := false) (eb_is (eb_not (eb_B (ed_same (d := .tuple [.str "", planP pw ph ls (aftW pw ph ls gl (fullA aa)).gl]) (ea_cons (ed_is (ed_saidA rfl (dp_mono YE pA) (kA.mono YE) (ed_var rfl (dp_mono YE aA)) hw hh (by omega) hn3 hg) sd) (ea_cons (ed_var rfl dE) ea_nil)) (fit_tup (Nat.le_of_ble_eq_true rfl) (fa_cons fit_str (fa_cons (fit_pl (n := 1) (by omega) (by omega) h3) fa_nil)))))) rfl) XE.ok (fun z => by cases z) (fun _ GF HF XF => ?_)
        refine (eba_and (eba_of (eb_test (ed_op (ed_var rfl (.str _)) ed_str (rd_eq rfl)))) (eba_test (es_op (es_pull (u := 2) rfl ed_int (by decide) (by decide)) (EvD.toS (S := fun d => d = .int 0) ed_int rfl) ?_))) HF XF.ok _ (fun bb GG HG XG => ?_)
        · rintro x y ⟨n, rfl, _⟩ rfl
          exact ⟨_, ⟨_, rfl⟩, rd_eq rfl⟩
        have XEG := XF.trans XG
        have all := XAC.trans (XD.trans (XE.trans XEG))
        cases bb with
        | true => exact ⟨.ref p, rfl, p, [v1, vn], 1, vn, rfl, rfl, ex_t XG.ok.e (ex_t XEG.gg sE), rfl, ⟨GG, X9.trans all, vn, _, _, _, _, _, rfl, gll, dp_mono XEG.gg e2, ke.mono XEG.gg⟩⟩
        | false => exact ⟨GG, X9.trans all, v2, gl, _, _, _, _, rfl, hg, dp_mono all.gg p9, k9.mono all.gg⟩
      · have sd : saidA pw ph ls gl aa = .tuple [.str (askW (4 * pw * ph) gl aa), .none] := by
          unfold saidA
          rw [if_neg w0]
        refine sq_if (b := false) (eb_is (eb_test (ed_op (ed_var rfl (.str _)) ed_str (rd_eq rfl))) (dsB.trans (decide_eq_false w0))) XC.ok (fun z => by cases z) (fun _ GD HD XD => ?_)
        have YD := YC.trans XD.gg
        refine sq_if (b := false) (eb_is (eb_not (eb_B (ed_same (d := .tuple [.str (askW (4 * pw * ph) gl aa), .none]) (ea_cons (ed_is (ed_saidA rfl (dp_mono YD pA) (kA.mono YD) (ed_var rfl (dp_mono YD aA)) hw hh (by omega) hn3 hg) sd) (ea_cons (ed_var rfl (dp_mono XD.gg dC)) ea_nil)) (fit_tup (Nat.le_of_ble_eq_true rfl) (fa_cons fit_str (fa_cons fit_none fa_nil)))))) rfl) XD.ok (fun z => by cases z) (fun _ GF HF XF => ?_)
        refine st_if (b := false) (eb_and (b := false) (c := false) (eb_is (eb_test (ed_op (ed_var rfl (.str _)) ed_str (rd_eq rfl))) (dsB.trans (decide_eq_false w0))) (fun z => by cases z)) XF.ok (fun z => by cases z) (fun _ GG HG XG => ?_)
        have all := XAC.trans (XD.trans (XF.trans XG))
        exact ⟨GG, X9.trans all, v2, gl, _, _, _, _, rfl, hg, dp_mono all.gg p9, k9.mono all.gg⟩
    · obtain ⟨v2, gl, y7, y8, y9, y10, rfl, hg, p8, k8⟩ := pv
      have sd : saidA pw ph ls gl (.used dy) = .tuple [.str (if okC dy then "" else "BadColour"), if okC dy then .int ((gl.count dy : Nat) : Int) else .none] := by
        by_cases ok : okC dy
        · show PyData.tuple [.str (if okC dy then "" else "BadColour"), if (if okC dy then ("" : Str) else "BadColour") = "" then .int ((gl.count dy : Nat) : Int) else .none] = _
          rw [if_pos ok, if_pos rfl, if_pos ok]
        · show PyData.tuple [.str (if okC dy then "" else "BadColour"), if (if okC dy then ("" : Str) else "BadColour") = "" then .int ((gl.count dy : Nat) : Int) else .none] = _
          rw [if_neg ok, if_neg (by decide +kernel), if_neg ok]
      have fin : ∀ {σ : L2.St} {GA HA : Hp} {v10 : V} {D : Ends}, σ = [some (.ref a), some (.ref b), some v2, some (.int (j : Int)), some (.int so), some (.int nq), some (.int dy), y7, y8, y9, some v10] → Ext K (some (b, c)) G8 H8 GA HA → Dp K GA v10 (saidA pw ph ls gl (.used dy)) → (∀ GF HF, Ext K (some (b, c)) GA HA GF HF → D.nx σ HF) → tIfS (tNot (tB (tCall (sp__law_same K) [] E0 (tCons (tCall (sp__law_said K) [] E0 (tCons (tVar 2) (tCons (tTup (tCons (tC (.str "used")) (tCons (tVar 6) tNil))) tNil))) (tCons (tVar 10) tNil))))) (tRet (tC (.bl false))) tNext D σ HA := fun eσ XA dA k => by
        subst eσ
        refine st_ifD (b := false) (eb_is (eb_not (eb_B (ed_same (d := saidA pw ph ls gl (.used dy)) (ea_cons (ed_saidA rfl (dp_mono XA.gg p8) (k8.mono XA.gg) (ed_tup (ea_cons ed_str (ea_cons (ed_var rfl (.int dy)) ea_nil)) (Nat.le_of_ble_eq_true rfl)) hw hh (by omega) hn3 hg) (ea_cons (ed_var rfl dA) ea_nil)) ?_))) rfl) XA.ok (fun z => by cases z) (fun _ GF HF XF => k GF HF XF)
        rw [sd]
        refine fit_tup (Nat.le_of_ble_eq_true rfl) (fa_cons fit_str (fa_cons ?_ fa_nil))
        by_cases ok : okC dy
        · rw [if_pos ok]
          exact fit_int
        · rw [if_neg ok]
          exact fit_none
      have out : ∀ {σ : L2.St} {GA HA GF HF : Hp} {v10 : V}, Ext K (some (b, c)) G8 H8 GA HA → Ext K (some (b, c)) GA HA GF HF → ∃ G', Ext K (some (b, c)) G3 H3 G' HF ∧ ∃ (v2' : V) (gl : List Int) (z3 z4 z5 z6 z7 z8 z9 z10 : Option V), [some (.ref a), some (.ref b), some v2, some (.int (j : Int)), some (.int so), some (.int nq), some (.int dy), y7, y8, y9, some v10] = [some (.ref a), some (.ref b), some v2', z3, z4, z5, z6, z7, z8, z9, z10] ∧ gl.length = 4 * pw * ph ∧ Dp K G' v2' (planP pw ph ls gl) ∧ Gk K G' v2' (planP pw ph ls gl) := fun XA XF => ⟨_, X4.trans (Y7.trans (X8.trans (XA.trans XF))), v2, gl, _, _, _, _, _, _, _, _, rfl, hg, dp_mono (XA.trans XF).gg p8, k8.mono (XA.trans XF).gg⟩
      by_cases ok : okC dy
      · rw [if_pos ok, if_pos ok] at sd
        refine sq_set (d := .tuple [.str "", .int ((gl.count dy : Nat) : Int)]) (ed_if (b := true) (eb_is (eb_test (ed_chain (k1 := decide (1 ≤ dy)) (k2 := decide (dy ≤ 9)) ed_int (ed_var rfl (.int dy)) (fun _ => ed_int) rd_B0 (fun _ => rd_B0))) (by rw [decide_eq_true ok.1, decide_eq_true ok.2]; rfl)) (fun _ => ed_tup (ea_cons ed_str (ea_cons (ed_is (ed_tcount (ek_ix (n := 3) rfl k8 rfl rfl) (ed_var rfl (.int dy)) (shp_enc gl) (shp_int dy)) (congrArg (fun n : Nat => PyData.int (n : Int)) (count_ints gl dy))) ea_nil)) (Nat.le_of_ble_eq_true rfl)) (fun z => by cases z)) X8.ok (fun v10 GA HA XA dA => ?_)
        exact fin rfl XA (by rw [sd]; exact dA) fun GF HF XF => out (σ := []) XA XF
      · rw [if_neg ok, if_neg ok] at sd
        refine sq_set (d := .tuple [.str "BadColour", .none]) (ed_if (b := false) (eb_is (eb_test (ed_chain (k1 := decide (1 ≤ dy)) (k2 := decide (dy ≤ 9)) ed_int (ed_var rfl (.int dy)) (fun _ => ed_int) rd_B0 (fun _ => rd_B0))) (by rw [← Bool.decide_and]; exact decide_eq_false ok)) (fun z => by cases z) (fun _ => ed_tup (ea_cons ed_str (ea_cons ed_non ea_nil)) (Nat.le_of_ble_eq_true rfl))) X8.ok (fun v10 GA HA XA dA => ?_)
        exact fin rfl XA (by rw [sd]; exact dA) fun GF HF XF => out (σ := []) XA XF
theorem law_ok (T : Txt K mg) {fa : Addr} (hfa : mg "law" = some (.ref fa)) : ∃ fd : FuncData, (∀ (s : Shared) (v : Value), BindsTo s fd ⟨[v], []⟩ [("_law_script", v)]) ∧ ∀ base : Heap, K.In base → base.Ns mainGlobals mg → FnOk P w K mg base CX0 13 fa fd ["_law_script"] (spLaw K) := by
  obtain ⟨fd, F⟩ := T.c.def_ 54 (d := d_law) rfl
  have e := hfa.symm.trans T.g_law
  cases e
  have b := FunD.bindsA (ps := ["_law_script"]) F fun _ _ _ _ _ _ us hl => match us, hl with | [_], _ => rfl
  refine ⟨fd, fun s v => b s [v] rfl, fun base _ _ => ?_⟩
  have G_AtStep_init := ok_AtStep_init (P := P) (w := w) (base := base) T 
  have G_NoLead_init := ok_NoLead_init (P := P) (w := w) (base := base) T 
  have G_check_turn := ok_check_turn (P := P) (w := w) (base := base) T 
  have G_is_size := ok_is_size (P := P) (w := w) (base := base) T 
  have G_check_size := ok_check_size (P := P) (w := w) (base := base) T G_is_size
  have G_is_point := ok_is_point (P := P) (w := w) (base := base) T 
  have G_step := ok_step (P := P) (w := w) (base := base) T G_check_turn
  have G_step_d1 := ok_step_d1 (P := P) (w := w) (base := base) T G_check_turn
  have G_step_many := ok_step_many (P := P) (w := w) (base := base) T G_check_turn
  have G_step_turn_y_x := ok_step_turn_y_x (P := P) (w := w) (base := base) T G_check_turn
  have G_is_frame := ok_is_frame (P := P) (w := w) (base := base) T G_check_size
  have G_stays := ok_stays (P := P) (w := w) (base := base) T G_step_d1 G_is_point
  have G_all_leads := ok_all_leads (P := P) (w := w) (base := base) T G_check_size G_stays
  have G_frame := ok_frame (P := P) (w := w) (base := base) T G_all_leads G_is_frame
  have G_count_quarters := ok_count_quarters (P := P) (w := w) (base := base) T 
  have G_place_of := ok_place_of (P := P) (w := w) (base := base) T G_count_quarters
  have G_quarter_at := ok_quarter_at (P := P) (w := w) (base := base) T 
  have G_leads_of := ok_leads_of (P := P) (w := w) (base := base) T G_frame
  have G_lying := ok_lying (P := P) (w := w) (base := base) T G_leads_of
  have G_side_lead := ok_side_lead (P := P) (w := w) (base := base) T 
  have G_slant_behind := ok_slant_behind (P := P) (w := w) (base := base) T 
  have G_tied_to := ok_tied_to (P := P) (w := w) (base := base) T G_place_of G_slant_behind G_quarter_at G_side_lead G_step_d1
  have G_fill := ok_fill (P := P) (w := w) (base := base) T G_tied_to
  have G_names := ok_names (P := P) (w := w) (base := base) T G_lying G_count_quarters G_fill
  have G_check_colour := ok_check_colour (P := P) (w := w) (base := base) T 
  have G_coloured := ok_coloured (P := P) (w := w) (base := base) T G_names
  have G_glazed := ok_glazed (P := P) (w := w) (base := base) T G_place_of G_check_colour G_coloured
  have G_glazed_d1 := ok_glazed_d1 (P := P) (w := w) (base := base) T G_place_of G_check_colour G_coloured
  have G_shattered := ok_shattered (P := P) (w := w) (base := base) T G_place_of G_coloured
  have G_used := ok_used (P := P) (w := w) (base := base) T G_check_colour
  have G__law_bag := ok__law_bag (P := P) (w := w) (base := base) T 
  have G__law_pull := ok__law_pull (P := P) (w := w) (base := base) T 
  have G__law_whole := ok__law_whole (P := P) (w := w) (base := base) T 
  have G__law_same := ok__law_same (P := P) (w := w) (base := base) T G__law_whole
  have G__law_go := ok__law_go (P := P) (w := w) (base := base) T 
  have G__law_name := ok__law_name (P := P) (w := w) (base := base) T G__law_go
  have G__law_tips := ok__law_tips (P := P) (w := w) (base := base) T G__law_go
  have G__law_on := ok__law_on (P := P) (w := w) (base := base) T 
  have G__law_rim := ok__law_rim (P := P) (w := w) (base := base) T G__law_tips
  have G__law_all := ok__law_all (P := P) (w := w) (base := base) T G__law_on G__law_go
  have G__law_within := ok__law_within (P := P) (w := w) (base := base) T G__law_all G__law_rim
  have G__law_over := ok__law_over (P := P) (w := w) (base := base) T 
  have G__law_joined := ok__law_joined (P := P) (w := w) (base := base) T 
  have G__law_slant := ok__law_slant (P := P) (w := w) (base := base) T 
  have G__law_cell_pairs := ok__law_cell_pairs (P := P) (w := w) (base := base) T G__law_slant
  have G__law_panes := ok__law_panes (P := P) (w := w) (base := base) T G__law_cell_pairs G__law_joined
  have G__law_size := ok__law_size (P := P) (w := w) (base := base) T G__law_pull
  have G__law_some := ok__law_some (P := P) (w := w) (base := base) T G__law_within G__law_pull G__law_over
  have G__law_glass := ok__law_glass (P := P) (w := w) (base := base) T G__law_pull G__law_panes
  have G__law_leaded := ok__law_leaded (P := P) (w := w) (base := base) T G__law_size G__law_pull G__law_some
  have G__law_plan := ok__law_plan (P := P) (w := w) (base := base) T G__law_glass G__law_leaded
  have G__law_settled := ok__law_settled (P := P) (w := w) (base := base) T G__law_panes
  have G__law_row := ok__law_row (P := P) (w := w) (base := base) T G__law_on G__law_go G__law_name
  have G__law_glass_word := ok__law_glass_word (P := P) (w := w) (base := base) T 
  have G__law_dyed := ok__law_dyed (P := P) (w := w) (base := base) T G__law_panes
  have G__law_world := ok__law_world (P := P) (w := w) (base := base) T 
  have G__law_after := ok__law_after (P := P) (w := w) (base := base) T G__law_row G__law_settled G__law_dyed G__law_panes
  have G__law_class := ok__law_class (P := P) (w := w) (base := base) T 
  have G__law_class := ok__law_class (P := P) (w := w) (base := base) T 
  have G__law_asked := ok__law_asked (P := P) (w := w) (base := base) T G_used G_shattered G_glazed_d1 G_glazed
  have G__law_said := ok__law_said (P := P) (w := w) (base := base) T G__law_asked G__law_class
  exact fn_law T F G__law_bag G__law_plan G__law_pull G__law_glass_word G__law_after G__law_world G__law_same G__law_said
end
end K30
set_option maxHeartbeats 0
open PySem PySem.W PySem.Calls PyProof.Rows
theorem PySem.Challenge.cw_leadlight_k30_glass_set_and_broken_holds : PySem.Challenge.rw_leadlight_k30_glass_set_and_broken.Holds := by
  w_on; o_law
  refine HandSHeadRun.head_any (r := OpenLaw.row PySem.Challenge.rw_leadlight_k30_glass_set_and_broken) (q := view (OpenLaw.row PySem.Challenge.rw_leadlight_k30_glass_set_and_broken).prog [83]) (H := K30.hk) (ob := K30.ob) (M := 8000) (loose := K30.loose) (d := HandSHeadRun.topDef (OpenLaw.row PySem.Challenge.rw_leadlight_k30_glass_set_and_broken).prog 83) (kwd := []) K30.ob_eq
    (by kernel_rfl) (fun s => by kernel_rfl) K30.run (by kernel_rfl) (by kernel_rfl) (by kernel_rfl) (by rfl) (by first | assumption | decide +kernel) (by decide +kernel) ⟨rfl, rfl, rfl, rfl, rfl, by decide +kernel⟩ ?hw ?hc
  case hw => w_witness2
  case hc =>
    refine L2.walk_ofE (l := PySem.Challenge.rw_leadlight_k30_glass_set_and_broken) (n := 63) (k := 13) (x := "_law_script") (CX := L2.CX0) rfl (by decide) (by kernel_rfl) ⟨rfl, by decide, by decide⟩ ?F (fun _ _ _ _ z => z)
    intro w mg fa h Y G hmg0
    obtain ⟨K, KX, c⟩ := Y
    have hmg : mg ("law" : PySem.Str) = some (.ref fa) := by
      have e : (HandSHeadRun.topDef (OpenLaw.row PySem.Challenge.rw_leadlight_k30_glass_set_and_broken).prog 83).name = ("law" : PySem.Str) := by kernel_rfl
      rw [← e]
      exact hmg0
    obtain ⟨fd, hb, hF⟩ := K30.law_ok (P := (PySem.Challenge.rw_leadlight_k30_glass_set_and_broken).prog) (w := w) (K30.Txt.of KX G c.t c.more) hmg
    exact ⟨K, fd, K30.spLaw K, KX, hb, fun H a ns hl _ hS => ⟨a, ns, rfl, hS, hl, fun _ => rfl⟩, hF⟩
