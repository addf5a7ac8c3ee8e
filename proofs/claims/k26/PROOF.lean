import PyProof.Rows.All
import Wide.All
import OpenK.AllK
import Wide.FinOn
import HandS.ForMost
import HandS.ForExc
import HandS.IsInst
import HandS.ExcIs
import HandS.Wide
import HandS.Defaults
import HandS.CallSlots
import HandS.MakeKwOnly
import HandS.Head0
import HandS.Head1
import HandS.Head2
import HandS.HeadEnd
import HandS.HeadHook1
import HandS.HeadHook2
import HandS.HeadHook3
import HandS.HeadHook4
import HandS.Evl
import HandS.MakeKw
import HandS.Sort
import HandS.SortOrd
import HandS.SortRule
import HandS.SortInts
import HandS.NamedTupSort
import HandS.Deep
import HandS.Set
import HandS.Strs
import HandS.SetFor
import HandS.Conv
import HandS.TupMul
import HandS.Dict
import HandS.TupSets
import PyProof.WalksMore
import PyProof.FactsAll.subtypes_4
import HandS.TupAny
import KE.GoesEnum
import HandS.Walk
import HandS.Zip
import HandS.DictComp
import HandS.Style
import KE.KTryMore
import HandS.Exc
import HandS.Text
import HandS.StrMore
import HandS.RaiseMore
import HandS.Star
import HandS.WrittenGet
import KE.KUnpackStar
import HandS.ExcInit
import HandS.ExcField
import KE.GoesZip
import HandS.SortKw
import KE.KExcInit
import KE.KExcIs
import KE.KDictPairs
import HandS.TupLen
import KE.KDictSum
import HandS.SetKeys
import KE.KDictDisplayH
import HandS.Finally
import HandS.WordsDict
import HandS.SetBool
import HandS.DictTup
import KE.KItemsList
import HandS.HotCalls
import HandS.FStr
import HandS.Steps
import HandS.Flow
import PyProof.FactsAll.tuple_0
import PyProof.ExcBaseAll.LookupError
import PyProof.ExcBaseAll.IndexError
import HandS.MethStar
import KE.KFmtOwn
import OpenK.KOps
import PyProof.CallStr
import PyProof.Rows.Range3
import PyProof.MeetsIn
import HandS.TryOnly
import PyProof.InstEq
import HandS.SlotsOwn
import HandS.More
import HandS.Codes
import HandS.SuiteRaise
import HandS.RaiseFrom
import HandS.ExcInitHot
import KE.GoesEnumKw
import PySem.Challenge.RW_leadlight_k26_moves_of_plans
set_option Elab.async false
set_option linter.all false
set_option maxRecDepth 100000
set_option maxHeartbeats 4400000
namespace Lw
open PySem.Spec PySem L2 PyProof.Rows
abbrev Fg := PySem.W.Frag
section
variable {α β : Type} {a x : α} {l m : List α}
theorem mem_or (h : x ∈ l ++ m) : x ∈ l ∨ x ∈ m := List.mem_append.mp h
theorem mem_1 (h : x ∈ [a]) : x = a := List.mem_singleton.mp h
theorem mem_c (h : x ∈ a :: l) : x = a ∨ x ∈ l := List.mem_cons.mp h
theorem len_mr {n : Nat} {f : Nat → β} : ((List.range n).map f).length = n := by simp
theorem getD_q {i : Nat} : l.getD i a = (l[i]?).getD a := List.getD_eq_getElem?_getD
end
theorem ifF {p q : Prop} : (if false = true then p else q) = q := if_neg Bool.false_ne_true
/-! ### heaps: G the part that stays, H the whole -/
-- one heap within another: the library's
open Evl (Ex Ex.refl Ex.trans Ex.new ex_rd ex_l ex_t)
theorem _root_.Evl.Ex.off {H H' : Hp} {p : Addr} (e : Ex H H') (h : H' p = none) : H p = none := by
  cases h1 : H p with
  | none => rfl
  | some o =>
    rw [e p o h1] at h
    cases h

def join (G G2 : Hp) : Hp := fun a => match G a with
  | some o => some o
  | none => G2 a
theorem join_l {G G2 : Hp} : Ex G (join G G2) := fun a o h => by
  show (match G a with
    | some o => some o
    | none => G2 a) = some o
  rw [h]
theorem join_r {G G2 H : Hp} (e : Ex G H) (e2 : Ex G2 H) : Ex G2 (join G G2) := fun a o h => by
  show (match G a with
    | some o => some o
    | none => G2 a) = some o
  cases q : G a with
  | none => exact h
  | some u =>
    have z := e a u q
    rw [e2 a o h] at z
    exact z.symm
theorem join_of {G G2 H : Hp} (e : Ex G H) (e2 : Ex G2 H) : Ex (join G G2) H := fun a o h => by
  have h' : (match G a with
    | some o => some o
    | none => G2 a) = some o := h
  cases q : G a with
  | none =>
    rw [q] at h'
    exact e2 a o h'
  | some u =>
    rw [q] at h'
    exact e a o (q.trans h')
theorem join_none {G G2 : Hp} {a : Addr} (h : G a = none) (h2 : G2 a = none) : join G G2 a = none := by
  show (match G a with
    | some o => some o
    | none => G2 a) = none
  rw [h]
  exact h2
/-! ### the heap: G the part that stays, b the law's bag, H the whole -/
/-- B: where the law's bag of numbers stands, and the list of its cells, which stays -/
abbrev Bg := Option (Addr × Addr)
def Cel (K : Fg) (B : Bg) (G : Hp) : Prop := ∀ b c, B = some (b, c) → ∃ ns : List Int, SqL K G c (ns.map V.int)
def Bag (B : Bg) (G H : Hp) : Prop := ∀ b c, B = some (b, c) → (G b = none ∧ c ≠ b) ∧ ∃ i r m : Int, H b = some (.lst [.ref c, .int i, .int r, .int m]) ∧ 0 ≤ i
def isB (B : Bg) (a : Addr) : Prop := ∃ c, B = some (a, c)
structure Ok (K : Fg) (B : Bg) (G H : Hp) : Prop where
  e : Ex G H
  c : Cel K B G
  b : Bag B G H
structure Ext (K : Fg) (B : Bg) (G H G2 H2 : Hp) : Prop where
  gg : Ex G G2
  hh : ∀ a o, ¬ isB B a → H a = some o → H2 a = some o
  fr : ∀ a o, H a = some o → G a = none → G2 a = none
  ok : Ok K B G2 H2
section
variable {K : Fg} {B : Bg} {G G' H G1 H1 G2 H2 : Hp} {p : Addr} {o : HO}
theorem Cel.mono (e : Ex G G2) (h : Cel K B G) : Cel K B G2 := fun b c q => by
  obtain ⟨ns, z⟩ := h b c q
  exact ⟨ns, ex_l e z⟩
theorem Bag.ne (h : Bag B G H) (hp : H p = none) : ¬ isB B p := fun ⟨c, q⟩ => by
  obtain ⟨_, i, r, m, z, _⟩ := h p c q
  rw [hp] at z
  cases z
theorem Bag.keep (h : Bag B G H) (hg : ∀ a, isB B a → G a = none → G2 a = none) (q : ∀ a o, isB B a → H a = some o → H2 a = some o) : Bag B G2 H2 := fun b c z => by
  obtain ⟨g, i, r, m, e, k⟩ := h b c z
  exact ⟨⟨hg b ⟨c, z⟩ g.1, g.2⟩, i, r, m, q b _ ⟨c, z⟩ e, k⟩
theorem Ext.refl (h : Ok K B G H) : Ext K B G H G H := ⟨Ex.refl G, fun _ _ _ h => h, fun _ _ _ h => h, h⟩
theorem Ext.trans (a : Ext K B G H G1 H1) (b : Ext K B G1 H1 G2 H2) : Ext K B G H G2 H2 :=
  ⟨a.gg.trans b.gg, fun x o n h => b.hh x o n (a.hh x o n h), fun x o h g => by
    have g1 := a.fr x o h g
    by_cases c : isB B x
    · obtain ⟨y, q⟩ := c
      exact (b.ok.b x y q).1.1
    · exact b.fr x o (a.hh x o c h) g1, b.ok⟩
theorem ex_upd (e : Ex G H) : Ex (upd G p o) (upd H p o) := fun a u h => by
  by_cases c : a = p
  · subst c
    rw [upd_same] at h ⊢
    exact h
  · rw [upd_ne c] at h ⊢
    exact e a u h
theorem Bag.upd (h : Bag B G H) (hp : ¬ isB B p) : Bag B G (upd H p o) := h.keep (fun _ _ g => g) fun a u z q => by
  rw [upd_ne (show a ≠ p from fun c => hp (by rw [← c]; exact z))]
  exact q
theorem Ok.new (h : Ok K B G H) (hp : H p = none) : Ok K B (upd G p o) (upd H p o) := ⟨ex_upd h.e, h.c.mono (Ex.new (h.e.off hp)), (h.b.upd (h.b.ne hp)).keep (fun a z g => by
  rw [upd_ne (show a ≠ p from fun c => h.b.ne hp (by rw [← c]; exact z))]
  exact g) fun _ _ _ q => q⟩
theorem Ok.loose (h : Ok K B G H) (hp : H p = none) : Ok K B G (upd H p o) := ⟨h.e.trans (Ex.new hp), h.c, h.b.upd (h.b.ne hp)⟩
theorem Ext.new (e : Ok K B G H) (hp : H p = none) : Ext K B G H (upd G p o) (upd H p o) :=
  ⟨Ex.new (e.e.off hp), fun a u _ h => Ex.new hp a u h, fun a u h g => by
    rw [upd_ne (ne_of_none h hp)]
    exact g, e.new hp⟩
/-- a new object that may change later on -/
theorem Ext.loose (e : Ok K B G H) (hp : H p = none) : Ext K B G H G (upd H p o) :=
  ⟨Ex.refl G, fun a u _ h => Ex.new hp a u h, fun _ _ _ g => g, e.loose hp⟩
theorem Ok.less (e : Ex G G') (c : Cel K B G) (h : Ok K B G' H) : Ok K B G H := ⟨e.trans h.e, c, h.b.keep (fun a _ g => e.off g) fun _ _ _ q => q⟩
theorem Ext.wide (e : Ex G G') (h : Ok K B G' H) (x : Ext K B G H G2 H2) : Ext K B G' H (join G' G2) H2 ∧ Ex G2 (join G' G2) := by
  have z : Ex G' H2 := fun a o q => x.hh a o (fun ⟨c, k⟩ => by
    rw [(h.b a c k).1.1] at q
    cases q) (h.e a o q)
  refine ⟨⟨join_l, x.hh, fun a o q g => join_none g (x.fr a o q (e.off g)), ⟨join_of z x.ok.e, h.c.mono join_l, x.ok.b.keep (fun a ⟨c, k⟩ g => ?_) fun _ _ _ q => q⟩⟩, join_r z x.ok.e⟩
  exact join_none (h.b a c k).1.1 g
/-- an object outside of G may change -/
theorem Ok.mut (e : Ok K B G H) (hg : G p = none) (hb : ¬ isB B p) : Ok K B G (upd H p o) := ⟨fun a w h => by
  rw [upd_ne (ne_of_none h hg)]
  exact e.e a w h, e.c, e.b.upd hb⟩
end
/-! ### data -/
mutual
theorem dp_mono {K : Fg} {H H' : Hp} (e : Ex H H') : ∀ {v : V} {d : PyData}, Dp K H v d → Dp K H' v d
  | _, _, .non => .non
  | _, _, .bl b => .bl b
  | _, _, .int i => .int i
  | _, _, .str x => .str x
  | _, _, .lst h a => .lst (ex_l e h) (dpAll_mono e a)
  | _, _, .tup h a => .tup (ex_t e h) (dpAll_mono e a)
theorem dpAll_mono {K : Fg} {H H' : Hp} (e : Ex H H') : ∀ {vs : List V} {ds : List PyData}, DpAll K H vs ds → DpAll K H' vs ds
  | _, _, .nil => .nil
  | _, _, .cons h a => .cons (dp_mono e h) (dpAll_mono e a)
end
section
variable {K : Fg} {H : Hp} {v : V} {vs : List V} {ds : List PyData} {d : PyData}
theorem dp_int {i : Int} (h : Dp K H v (.int i)) : v = .int i := by cases h; rfl
theorem dp_bl {b : Bool} (h : Dp K H v (.bool b)) : v = .bl b := by cases h; rfl
theorem dp_non (h : Dp K H v .none) : v = .non := by cases h; rfl
theorem dp_tup (h : Dp K H v (.tuple ds)) : ∃ a xs, v = .ref a ∧ SqT K H a xs ∧ DpAll K H xs ds := by
  cases h with
  | tup h a => exact ⟨_, _, rfl, h, a⟩
theorem dp_lst (h : Dp K H v (.list ds)) : ∃ a xs, v = .ref a ∧ SqL K H a xs ∧ DpAll K H xs ds := by
  cases h with
  | lst h a => exact ⟨_, _, rfl, h, a⟩
theorem dpAll_len : ∀ {vs : List V} {ds : List PyData}, DpAll K H vs ds → vs.length = ds.length
  | _, _, .nil => rfl
  | _, _, .cons _ a => congrArg Nat.succ (dpAll_len a)
theorem dpAll_get : ∀ {vs : List V} {ds : List PyData} {i : Nat} {d : PyData}, DpAll K H vs ds → ds[i]? = some d → ∃ v, vs[i]? = some v ∧ Dp K H v d
  | _, _, 0, _, .cons h _, e => ⟨_, rfl, by cases (Option.some.inj e); exact h⟩
  | _, _, i + 1, d, .cons _ a, e => dpAll_get (i := i) a e
theorem dpAll_at : ∀ {vs : List V} {ds : List PyData} {i : Nat} {v : V}, DpAll K H vs ds → vs[i]? = some v → ∃ d, ds[i]? = some d ∧ Dp K H v d
  | _, _, 0, _, .cons h _, e => ⟨_, rfl, by cases (Option.some.inj e); exact h⟩
  | _, _, i + 1, d, .cons _ a, e => dpAll_at (i := i) a e
theorem dpAll_app : ∀ {vs us : List V} {ds es : List PyData}, DpAll K H vs ds → DpAll K H us es → DpAll K H (vs ++ us) (ds ++ es)
  | _, _, _, _, .nil, h => h
  | _, _, _, _, .cons a b, h => .cons a (dpAll_app b h)
theorem dpAll_ints : ∀ (ns : List Int), DpAll K H (ns.map V.int) (ns.map PyData.int)
  | [] => .nil
  | n :: r => .cons (.int n) (dpAll_ints r)
theorem atI_dp {i : Int} (h : DpAll K H vs ds) (e : atI ds i = some d) : ∃ v, atI vs i = some v ∧ Dp K H v d := by
  unfold atI at e ⊢
  rw [dpAll_len h]
  cases q : ixN ds.length i with
  | none =>
    rw [q] at e
    cases e
  | some j =>
    rw [q] at e
    exact dpAll_get h e
end
/-! ### what evaluates to which data -/
def Ret (K : Fg) (B : Bg) (G H : Hp) (Q : VK) (d : PyData) : Prop := ∀ v G2 H2, Ext K B G H G2 H2 → Dp K G2 v d → Q v H2
def Rai (K : Fg) (B : Bg) (G H : Hp) (E : XK) (C : Addr) : Prop := ∀ G2 H2, Ext K B G H G2 H2 → E (.ref C) none H2
def EvD (K : Fg) (B : Bg) (te : TE) (σ : L2.St) (G : Hp) (d : PyData) : Prop := ∀ H, Ok K B G H → ∀ Q : VK, Ret K B G H Q d → te σ H Q
def EvB (K : Fg) (B : Bg) (tt : TT) (σ : L2.St) (G : Hp) (b : Bool) : Prop := ∀ H, Ok K B G H → ∀ Q : Bool → Hp → Prop, (∀ G2 H2, Ext K B G H G2 H2 → Q b H2) → tt σ H Q
def EvA (K : Fg) (B : Bg) (ta : TA) (σ : L2.St) (G : Hp) (ds : List PyData) : Prop := ∀ H, Ok K B G H → ∀ Q : List V → Hp → Prop, (∀ vs G2 H2, Ext K B G H G2 H2 → DpAll K G2 vs ds → Q vs H2) → ta σ H Q
def EvO (K : Fg) (B : Bg) (to : TO) (σ : L2.St) (G : Hp) (o : Option Int) : Prop := ∀ H, Ok K B G H → ∀ Q : Option Int → Hp → Prop, (∀ G2 H2, Ext K B G H G2 H2 → Q o H2) → to σ H Q
section
variable {K : Fg} {B : Bg} {σ : L2.St} {G G' H : Hp} {te ta tb tc : TE} {tt tu : TT} {tr : TA} {d x y z : PyData} {ds : List PyData} {r r' : R2} {b c : Bool}
theorem EvD.mono (e : Ex G G') (c : Cel K B G) (h : EvD K B te σ G d) : EvD K B te σ G' d := fun H eH Q q =>
  h H (eH.less e c) Q fun v G2 H2 X dv => by
    obtain ⟨X2, e2⟩ := X.wide e eH
    exact q v _ H2 X2 (dp_mono e2 dv)
theorem EvB.mono (e : Ex G G') (c : Cel K B G) (h : EvB K B tt σ G b) : EvB K B tt σ G' b := fun H eH Q q =>
  h H (eH.less e c) Q fun G2 H2 X => q _ H2 (X.wide e eH).1
theorem EvA.mono (e : Ex G G') (c : Cel K B G) (h : EvA K B tr σ G ds) : EvA K B tr σ G' ds := fun H eH Q q =>
  h H (eH.less e c) Q fun v G2 H2 X dv => by
    obtain ⟨X2, e2⟩ := X.wide e eH
    exact q v _ H2 X2 (dpAll_mono e2 dv)
theorem Ret.mono {Q : VK} {G1 H1 : Hp} (X : Ext K B G H G1 H1) (h : Ret K B G H Q d) : Ret K B G1 H1 Q d := fun v G2 H2 X2 dv => h v G2 H2 (X.trans X2) dv
theorem Ret.here {Q : VK} {v : V} (h : Ret K B G H Q d) (e : Ok K B G H) (dv : Dp K G v d) : Q v H := h v G H (Ext.refl e) dv
theorem ed_var {i : Nat} {v : V} (h : σ[i]? = some (some v)) (dv : Dp K G v d) : EvD K B (tVar i) σ G d := fun H e Q q => ⟨v, h, q.here e dv⟩
theorem ed_c {v : V} (dv : Dp K G v d) : EvD K B (tC v) σ G d := fun H e Q q => q.here e dv
theorem ed_int {i : Int} : EvD K B (tC (.int i)) σ G (.int i) := ed_c (.int i)
theorem ed_non : EvD K B (tC .non) σ G .none := ed_c .non
theorem ed_str {i : Str} : EvD K B (tC (.str i)) σ G (.str i) := ed_c (.str i)
/-- what an operation on values gives -/
def RvD (K : Fg) (B : Bg) (r : R2) (G : Hp) (x y z : PyData) : Prop := ∀ u v G2 H2, Ex G G2 → Ok K B G2 H2 → Dp K G2 u x → Dp K G2 v y → ∀ Q, Ret K B G2 H2 Q z → r u v H2 Q
theorem ed_op (ha : EvD K B ta σ G x) (hb : EvD K B tb σ G y) (hr : RvD K B r G x y z) : EvD K B (tOp r ta tb) σ G z := fun H e Q q =>
  ha H e _ fun u G2 H2 X2 d2 => hb.mono X2.gg e.c H2 X2.ok _ fun v G3 H3 X3 d3 =>
    hr u v G3 H3 (X2.gg.trans X3.gg) X3.ok (dp_mono X3.gg d2) d3 Q (q.mono (X2.trans X3))
theorem rd_I0 {g : Int → Int → Int} {i j : Int} : RvD K B (rI0 fun i j => .int (g i j)) G (.int i) (.int j) (.int (g i j)) := fun u v G2 H2 _ e du dv Q q => ⟨i, j, dp_int du, dp_int dv, q.here e (.int _)⟩
theorem rd_B0 {g : Int → Int → Bool} {i j : Int} : RvD K B (rI0 fun i j => .bl (g i j)) G (.int i) (.int j) (.bool (g i j)) := fun u v G2 H2 _ e du dv Q q => ⟨i, j, dp_int du, dp_int dv, q.here e (.bl _)⟩
theorem rd_I {C : Int → Int → Prop} {g : Int → Int → Int} {i j : Int} (hc : C i j) : RvD K B (rI C fun i j => .int (g i j)) G (.int i) (.int j) (.int (g i j)) := fun u v G2 H2 _ e du dv Q q => ⟨i, j, dp_int du, dp_int dv, hc, q.here e (.int _)⟩
theorem rd_ixT {i : Int} (h : atI ds i = some d) : RvD K B (rIxT K) G (.tuple ds) (.int i) d := fun u v G2 H2 _ e du dv Q q => by
  obtain ⟨a, xs, rfl, hs, hx⟩ := dp_tup du
  obtain ⟨w, hw, dw⟩ := atI_dp hx h
  exact ⟨a, xs, i, w, rfl, dp_int dv, ex_t e.e hs, hw, q.here e dw⟩
theorem rd_ixL {i : Int} (h : atI ds i = some d) : RvD K B (rIxL K) G (.list ds) (.int i) d := fun u v G2 H2 _ e du dv Q q => by
  obtain ⟨a, xs, rfl, hs, hx⟩ := dp_lst du
  obtain ⟨w, hw, dw⟩ := atI_dp hx h
  exact ⟨a, xs, i, w, rfl, dp_int dv, ex_l e.e hs, hw, q.here e dw⟩
def scalD : PyData → PyData → Bool
  | .none, .none => true
  | .none, .int _ => true
  | .int _, .none => true
  | .none, .bool _ => true
  | .bool _, .none => true
  | .none, .str _ => true
  | .str _, .none => true
  | .int _, .int _ => true
  | .bool _, .bool _ => true
  | .str _, .str _ => true
  | .int _, .str _ => true
  | .str _, .int _ => true
  | .bool _, .str _ => true
  | .str _, .bool _ => true
  | _, _ => false
def vOf : PyData → V
  | .none => .non
  | .bool b => .bl b
  | .int i => .int i
  | .str x => .str x
  | _ => .non
theorem rd_eq (h : scalD x y = true) : RvD K B rEq G x y (.bool (decide (vOf x = vOf y))) := fun u v G2 H2 _ e du dv Q q => by
  cases du <;> cases dv <;> first
    | exact ⟨rfl, q.here e (.bl _)⟩
    | exact Bool.noConfusion h
theorem rd_ne (h : scalD x y = true) : RvD K B rNe G x y (.bool (!decide (vOf x = vOf y))) := fun u v G2 H2 _ e du dv Q q => by
  cases du <;> cases dv <;> first
    | exact ⟨rfl, q.here e (.bl _)⟩
    | exact Bool.noConfusion h
theorem ed_chain {k1 k2 : Bool} (ha : EvD K B ta σ G x) (hb : EvD K B tb σ G y) (hc : k1 = true → EvD K B tc σ G z) (hr : RvD K B r G x y (.bool k1)) (hr' : k1 = true → RvD K B r' G y z (.bool k2)) : EvD K B (tChain r r' ta tb tc) σ G (.bool (k1 && k2)) := fun H e Q q =>
  ha H e _ fun u G2 H2 X2 d2 => hb.mono X2.gg e.c H2 X2.ok _ fun v G3 H3 X3 d3 =>
    hr u v G3 H3 (X2.gg.trans X3.gg) X3.ok (dp_mono X3.gg d2) d3 _ fun w G4 H4 X4 d4 => by
      refine ⟨k1, dp_bl d4, ?_⟩
      have X := X2.trans (X3.trans X4)
      cases k1 with
      | true =>
        rw [if_pos rfl]
        exact (hc rfl).mono X.gg e.c H4 X.ok _ fun w5 G5 H5 X5 d5 => hr' rfl v w5 G5 H5 (X.gg.trans X5.gg) X5.ok (dp_mono (X4.gg.trans X5.gg) d3) d5 Q (q.mono (X.trans X5))
      | false =>
        rw [ifF]
        exact q _ G4 H4 X (.bl false)
theorem eb_test (h : EvD K B te σ G (.bool b)) : EvB K B (tTest te) σ G b := fun H e Q q => h H e _ fun v G2 H2 X dv => ⟨b, dp_bl dv, q G2 H2 X⟩
theorem eb_B (h : EvD K B te σ G (.bool b)) : EvB K B (tB te) σ G b := fun H e Q q => h H e _ fun v G2 H2 X dv => ⟨b, dp_bl dv, q G2 H2 X⟩
theorem eb_not (h : EvB K B tt σ G b) : EvB K B (tNot tt) σ G (!b) := fun H e Q q => h H e _ fun G2 H2 X => q G2 H2 X
theorem eb_and (h : EvB K B tt σ G b) (h2 : b = true → EvB K B tu σ G c) : EvB K B (tAnd tt tu) σ G (b && c) := fun H e Q q => h H e _ fun G2 H2 X => by
  cases b with
  | true =>
    rw [if_pos rfl]
    exact (h2 rfl).mono X.gg e.c H2 X.ok Q fun G3 H3 X3 => q G3 H3 (X.trans X3)
  | false =>
    rw [ifF]
    exact q G2 H2 X
theorem eb_or (h : EvB K B tt σ G b) (h2 : b = false → EvB K B tu σ G c) : EvB K B (tOr tt tu) σ G (b || c) := fun H e Q q => h H e _ fun G2 H2 X => by
  cases b with
  | true =>
    rw [if_pos rfl]
    exact q G2 H2 X
  | false =>
    rw [ifF]
    exact (h2 rfl).mono X.gg e.c H2 X.ok Q fun G3 H3 X3 => q G3 H3 (X.trans X3)
theorem ed_andV (h : EvD K B ta σ G (.bool b)) (h2 : b = true → EvD K B tb σ G (.bool c)) : EvD K B (tAndV ta tb) σ G (.bool (b && c)) := fun H e Q q => h H e _ fun v G2 H2 X dv => by
  refine ⟨b, dp_bl dv, ?_⟩
  cases b with
  | true =>
    rw [if_pos rfl]
    exact (h2 rfl).mono X.gg e.c H2 X.ok Q (q.mono X)
  | false =>
    rw [ifF]
    exact q _ G2 H2 X (.bl _)
theorem ed_orV (h : EvD K B ta σ G (.bool b)) (h2 : b = false → EvD K B tb σ G (.bool c)) : EvD K B (tOrV ta tb) σ G (.bool (b || c)) := fun H e Q q => h H e _ fun v G2 H2 X dv => by
  refine ⟨b, dp_bl dv, ?_⟩
  cases b with
  | true =>
    rw [if_pos rfl]
    exact q _ G2 H2 X (.bl _)
  | false =>
    rw [ifF]
    exact (h2 rfl).mono X.gg e.c H2 X.ok Q (q.mono X)
theorem ed_notV (h : EvD K B ta σ G (.bool b)) : EvD K B (tNotV ta) σ G (.bool (!b)) := fun H e Q q => h H e _ fun v G2 H2 X dv => ⟨b, dp_bl dv, q _ G2 H2 X (.bl _)⟩
theorem ed_if (h : EvB K B tt σ G b) (h1 : b = true → EvD K B ta σ G d) (h2 : b = false → EvD K B tb σ G d) : EvD K B (tIf tt ta tb) σ G d := fun H e Q q => h H e _ fun G2 H2 X => by
  cases b with
  | true =>
    rw [if_pos rfl]
    exact (h1 rfl).mono X.gg e.c H2 X.ok Q (q.mono X)
  | false =>
    rw [ifF]
    exact (h2 rfl).mono X.gg e.c H2 X.ok Q (q.mono X)
theorem ed_is (h : EvD K B te σ G d) (e : d = x) : EvD K B te σ G x := e ▸ h
theorem eb_is (h : EvB K B tt σ G b) (e : b = c) : EvB K B tt σ G c := e ▸ h
theorem ea_nil : EvA K B tNil σ G [] := fun H e Q q => q [] G H (Ext.refl e) .nil
theorem ea_cons (h : EvD K B ta σ G d) (hr : EvA K B tr σ G ds) : EvA K B (tCons ta tr) σ G (d :: ds) := fun H e Q q =>
  h H e _ fun v G2 H2 X dv => hr.mono X.gg e.c H2 X.ok _ fun vs G3 H3 X3 dvs => q _ G3 H3 (X.trans X3) (.cons (dp_mono X3.gg dv) dvs)
theorem sz {n : Nat} (h : n ≤ 100000) : n ≤ sizeLine := Nat.le_trans h (by decide)
theorem szl {n : Nat} (h : n < 100000) : n < sizeLine := Nat.lt_of_lt_of_le h (by decide)
theorem ed_tup (h : EvA K B tr σ G ds) (hl : ds.length ≤ 100000) : EvD K B (tTup tr) σ G (.tuple ds) := fun H e Q q =>
  h H e _ fun vs G2 H2 X dv => ⟨by rw [dpAll_len dv]; exact sz hl, fun p hp =>
    q _ _ _ (X.trans (Ext.new X.ok hp)) (.tup (SqT.of upd_same) (dpAll_mono (Ex.new (X.ok.e.off hp)) dv))⟩
theorem ed_lst (h : EvA K B tr σ G ds) (hl : ds.length ≤ 100000) : EvD K B (tLst tr) σ G (.list ds) := fun H e Q q =>
  h H e _ fun vs G2 H2 X dv => ⟨by rw [dpAll_len dv]; exact sz hl, fun p hp =>
    q _ _ _ (X.trans (Ext.new X.ok hp)) (.lst (SqL.of upd_same) (dpAll_mono (Ex.new (X.ok.e.off hp)) dv))⟩
/-- a call of an own def -/
theorem ed_call {sp : Sp} {dvs : List V} {E : XK} (ha : EvA K B tr σ G ds) (hs : ∀ vs G2 H2, Ex G G2 → Ok K B G2 H2 → DpAll K G2 vs ds → ∀ Q, Ret K B G2 H2 Q d → sp (vs ++ dvs) H2 Q E) : EvD K B (tCall sp dvs E tr) σ G d := fun H e Q q =>
  ha H e _ fun vs G2 H2 X dv => hs vs G2 H2 X.gg X.ok dv Q (q.mono X)
/-- a call of a builtin -/
theorem ed_cb {r : List V → Hp → VK → Prop} (ha : EvA K B tr σ G ds) (hs : ∀ vs G2 H2, Ex G G2 → Ok K B G2 H2 → DpAll K G2 vs ds → ∀ Q, Ret K B G2 H2 Q d → r vs H2 Q) : EvD K B (tCB r tr) σ G d := fun H e Q q =>
  ha H e _ fun vs G2 H2 X dv => hs vs G2 H2 X.gg X.ok dv Q (q.mono X)
/-! ### statements -/
variable {D : Ends} {t u : TS}
theorem st_set {i : Nat} (h : EvD K B te σ G d) (e : Ok K B G H) (k : ∀ v G2 H2, Ext K B G H G2 H2 → Dp K G2 v d → D.nx (σ.set i (some v)) H2) : tAsg te (gName i) D σ H := h H e _ fun v G2 H2 X dv => k v G2 H2 X dv
theorem sq_set {i : Nat} (h : EvD K B te σ G d) (e : Ok K B G H) (k : ∀ v G2 H2, Ext K B G H G2 H2 → Dp K G2 v d → u D (σ.set i (some v)) H2) : tSeq (tAsg te (gName i)) u D σ H := h H e _ fun v G2 H2 X dv => k v G2 H2 X dv
theorem st_ret (h : EvD K B te σ G d) (e : Ok K B G H) (k : Ret K B G H D.rt d) : tRet te D σ H := h H e _ k
theorem st_if (h : EvB K B tt σ G b) (e : Ok K B G H) (k1 : b = true → ∀ G2 H2, Ext K B G H G2 H2 → t D σ H2) (k2 : b = false → ∀ G2 H2, Ext K B G H G2 H2 → u D σ H2) : tIfS tt t u D σ H := h H e _ fun G2 H2 X => by
  cases b with
  | true =>
    rw [if_pos rfl]
    exact k1 rfl G2 H2 X
  | false =>
    rw [ifF]
    exact k2 rfl G2 H2 X
theorem sq_if {w : TS} (h : EvB K B tt σ G b) (e : Ok K B G H) (k1 : b = true → ∀ G2 H2, Ext K B G H G2 H2 → t { D with nx := w D } σ H2) (k2 : b = false → ∀ G2 H2, Ext K B G H G2 H2 → u { D with nx := w D } σ H2) : tSeq (tIfS tt t u) w D σ H := st_if h e k1 k2
end
end Lw

namespace Lw
open PySem.Spec PySem L2 PyProof.Rows
open Evl (Ex Ex.refl Ex.trans Ex.new Ex.off ex_rd ex_l ex_t)
/-! ### own defs by their promises -/
structure Good (P : Program) (w : World) (K : Fg) (mg : Str → Option Value) (base : Heap) (CX : CXT) (k : Nat) (x : Str) (ps : List Str) (dvs : List V) (sp : Sp) : Prop where
  ex : ∃ fd ds, FnOk P w K mg base CX k (He.ga K x) fd ps sp ∧ Vals dvs ds ∧ Binds K fd ps ds
  g : mg x = some (.ref (He.ga K x))
  kp : PySem.W.keepIn K (.ref (He.ga K x)) = true
structure GoodK (P : Program) (w : World) (K : Fg) (mg : Str → Option Value) (base : Heap) (CX : CXT) (k : Nat) (x : Str) (ps : List Str) (n : Nat) (ks : List Str) (gV : List V → List V → List V) (sp : Sp) : Prop where
  ex : ∃ fd g, FnOk P w K mg base CX k (He.ga K x) fd ps sp ∧ KBn K fd ps n ks g gV
  g : mg x = some (.ref (He.ga K x))
  kp : PySem.W.keepIn K (.ref (He.ga K x)) = true
section
variable {X : Cx} {CX : CXT} {k n : Nat} {ps ks : List Str} {sp : Sp} {E : XK} {x : Str} {p pos : Pos} {e : Expr} {es : List Expr} {kws : List Keyword} {t tk : TA} {dvs : List V} {gV : List V → List V → List V}
/-- what is seen of the text of a call by places -/
structure Tx1 (X : Cx) (pos : Pos) (x : Str) (e : Expr) (es : List Expr) : Prop where
  nm : (x == ("__debug__" : Str)) = false
  fst : starEach (e :: es) X.env = (false, eval e X.env) :: starEach es X.env
  no : (backTo pos (starEach es X.env)).any (·.1) = false
/-- and of one by names -/
structure Tx2 (X : Cx) (pos : Pos) (kws : List Keyword) (ks : List Str) : Prop where
  all : (backToKw pos (keywordEach kws X.env)).all (·.1.isSome) = true
  nms : (backToKw pos (keywordEach kws X.env)).filterMap (·.1) = ks
theorem pe_own (F : Good X.prog X.w X.K X.mg X.base CX k x ps dvs sp) (hr : Room k X.A) (hg : Gl X x) (hx : Passes CX X E) (ha : PA X (e :: es) t)
    (tx : Tx1 X pos x e es := by exact ⟨by decide, by rfl, by rfl⟩) : PE X (.Call (.Name x p) (e :: es) [] pos) (tCall sp dvs E t) := by
  obtain ⟨fd, ds, G, r, b⟩ := F.ex
  exact pe_call G hr hg F.g F.kp b r hx ha tx.nm tx.fst tx.no
theorem pe_ownS {E : L2.St → XK} (F : Good X.prog X.w X.K X.mg X.base CX k x ps dvs sp) (hr : Room k X.A) (hg : Gl X x) (hx : ∀ σ, PassesAt CX X σ (E σ)) (ha : PA X (e :: es) t)
    (tx : Tx1 X pos x e es := by exact ⟨by decide, by rfl, by rfl⟩) : PE X (.Call (.Name x p) (e :: es) [] pos) (tCallSD sp dvs E t) := by
  obtain ⟨fd, ds, G, r, b⟩ := F.ex
  exact pe_callSD G hr hg F.g F.kp b r hx ha tx.nm tx.fst tx.no
end
end Lw
namespace L2
open PySem.Spec PySem PyProof.Rows
/-- what isinstance of a caught error of the class at D wants -/
def excCB (K : PySem.W.Frag) (D : Addr) : Bool :=
  He.eqO (PySem.W.findIn K (.ref D) "__getattribute__") (some (some (.builtin "BaseException.__getattribute__"))) && (He.eqO (PySem.W.findIn K (.ref D) "__getattr__") (some none) && (decide (PySem.W.subIn K (.ref D) (.type "BaseException") = some true) && (PySem.W.hasDictIn K D && (He.eqO (PySem.W.findIn K (.ref D) "__class__") (some (some (.builtin "object.__class__"))) && (He.eqO (PySem.W.specialIn K (.builtin "object.__class__") "__get__") (some (some (.builtin "getset_descriptor.__get__"))) && (decide (PySem.W.takesIn K (.builtin "object.__class__") = some true) && decide (PySem.W.mroIn K D (.type "object") = some true)))))))
theorem excC_of {K : PySem.W.Frag} {D : Addr} (h : excCB K D = true) : ExcC K D := by
  obtain ⟨h1, h⟩ := He.ba h
  obtain ⟨h2, h⟩ := He.ba h
  obtain ⟨h3, h⟩ := He.ba h
  obtain ⟨h4, h⟩ := He.ba h
  obtain ⟨h5, h⟩ := He.ba h
  obtain ⟨h6, h⟩ := He.ba h
  obtain ⟨h7, h8⟩ := He.ba h
  exact ⟨He.eqO_ok h1, He.eqO_ok h2, of_decide_eq_true h3, h4, He.eqO_ok h5, He.eqO_ok h6, of_decide_eq_true h7, of_decide_eq_true h8⟩
end L2

namespace Lw
open PySem.Spec PySem L2 PyProof.Rows
open Evl (Ex Ex.refl Ex.trans Ex.new Ex.off ex_rd ex_l ex_t)
section
variable {K : Fg} {B : Bg} {σ : L2.St} {G G' H : Hp} {te ta tb tc : TE} {tt tu : TT} {tr : TA} {d x y z : PyData} {ds es : List PyData} {r r' : R2} {b c : Bool}
/-! ### kinds -/
def tyD : PyData → String
  | .none => "NoneType"
  | .bool _ => "bool"
  | .int _ => "int"
  | .str _ => "str"
  | .list _ => "list"
  | .tuple _ => "tuple"
  | .dict _ => "dict"
theorem tyX_of {v : V} (e : Ex G H) (h : Dp K G v d) : TyX K H v (.type (tyD d)) := by
  cases h with
  | non => exact .base .non
  | bl b => exact .base (.bl b)
  | int i => exact .base (.int i)
  | str x => exact .base (.str x)
  | lst h a =>
    rcases h with (h | ⟨o, h⟩) | ⟨o, its, n, hk, hc, _⟩
    · exact .base (.lst (e _ _ h))
    · exact .base (.frz (e _ _ h))
    · exact .kList hk hc
  | tup h a =>
    rcases h with (h | ⟨o, h⟩) | ⟨o, its, n, hk, hc, _⟩
    · exact .base (.tup (e _ _ h))
    · exact .fTuple (e _ _ h)
    · exact .kTuple hk hc
theorem ed_isi {n : String} (h : EvD K B ta σ G d) (hk : kitB (tyD d) n = some b) : EvD K B (tCB (rIsi K) (tCons ta (tCons (tC (.ty n)) tNil))) σ G (.bool b) := fun H e Q q =>
  h H e _ fun v G2 H2 X dv => ⟨v, .ty n, .type (tyD d), .type n, b, rfl, .ty n, tyX_of X.ok.e dv, kit_ty hk, q _ G2 H2 X (.bl b)⟩
abbrev rLenS (K : Fg) : List V → Hp → VK → Prop := fun xs H Q => ∃ p ys, xs = [.ref p] ∧ (SqL K H p ys ∨ SqT K H p ys) ∧ Q (.int ys.length) H
abbrev rListS (K : Fg) : List V → Hp → VK → Prop := fun xs H Q => ∃ p ys, xs = [.ref p] ∧ (SqL K H p ys ∨ SqT K H p ys) ∧ ∀ l, H l = none → Q (.ref l) (upd H l (.lst ys))
abbrev rTupS (K : Fg) : List V → Hp → VK → Prop := fun xs H Q => ∃ p ys, xs = [.ref p] ∧ ((SqL K H p ys ∧ ∀ l, H l = none → Q (.ref l) (upd H l (.tup ys))) ∨ (SqT K H p ys ∧ Q (.ref p) H))
def lenD : PyData → Option Nat
  | .list ds => some ds.length
  | .tuple ds => some ds.length
  | _ => none
theorem ed_len {n : Nat} (h : EvD K B ta σ G d) (hl : lenD d = some n) : EvD K B (tCB (rLenS K) (tCons ta tNil)) σ G (.int (n : Int)) := fun H e Q q =>
  h H e _ fun v G2 H2 X dv => by
    cases dv with
    | lst hs a =>
      have e1 := dpAll_len a
      have e2 : n = _ := (Option.some.inj hl).symm
      refine ⟨_, _, rfl, .inl (ex_l X.ok.e hs), q _ G2 H2 X ?_⟩
      rw [e1, e2]
      exact .int _
    | tup hs a =>
      have e1 := dpAll_len a
      have e2 : n = _ := (Option.some.inj hl).symm
      refine ⟨_, _, rfl, .inr (ex_t X.ok.e hs), q _ G2 H2 X ?_⟩
      rw [e1, e2]
      exact .int _
    | _ => cases hl
def isNon : PyData → Bool
  | .none => true
  | _ => false
theorem rd_isN : RvD K B (fun x y H Q => y = .non ∧ Q (.bl (decide (x = .non))) H) G d .none (.bool (isNon d)) := fun u v G2 H2 _ e du dv Q q => ⟨dp_non dv, by
  have z : decide (u = .non) = isNon d := by cases du <;> rfl
  rw [z]
  exact q.here e (.bl _)⟩
theorem rd_eqD (h1 : SeqAt.shaped x = true) (h2 : SeqAt.shaped y = true) : RvD K B (rEqD K) G x y (.bool (PyData.eqv x y)) := fun u v G2 H2 _ e du dv Q q => ⟨x, y, dp_mono e.e du, dp_mono e.e dv, h1, h2, q.here e (.bl _)⟩
theorem rd_neD (h1 : SeqAt.shaped x = true) (h2 : SeqAt.shaped y = true) : RvD K B (rNeD K) G x y (.bool (!PyData.eqv x y)) := fun u v G2 H2 _ e du dv Q q => ⟨x, y, dp_mono e.e du, dp_mono e.e dv, h1, h2, q.here e (.bl _)⟩
theorem rd_ixSL {i : Int} (h : atI ds i = some d) : RvD K B (rIx K) G (.list ds) (.int i) d := fun u v G2 H2 g e du dv Q q => .inl (rd_ixL (B := B) h u v G2 H2 g e du dv Q q)
theorem rd_ixST {i : Int} (h : atI ds i = some d) : RvD K B (rIx K) G (.tuple ds) (.int i) d := fun u v G2 H2 g e du dv Q q => .inr (.inl (rd_ixT (B := B) h u v G2 H2 g e du dv Q q))
/-! ### parts of tuples and lists -/
def cutD (ds : List PyData) (lo hi : Option Int) : List PyData := (ds.drop (HT.sIx ds.length 0 lo)).take (HT.sIx ds.length ds.length hi - HT.sIx ds.length 0 lo)
theorem dpAll_drop : ∀ {vs : List V} {ds : List PyData} (n : Nat), DpAll K H vs ds → DpAll K H (vs.drop n) (ds.drop n)
  | _, _, 0, h => h
  | _, _, _ + 1, .nil => .nil
  | _, _, n + 1, .cons _ a => dpAll_drop n a
theorem dpAll_take : ∀ {vs : List V} {ds : List PyData} (n : Nat), DpAll K H vs ds → DpAll K H (vs.take n) (ds.take n)
  | _, _, 0, _ => .nil
  | _, _, _ + 1, .nil => .nil
  | _, _, n + 1, .cons h a => .cons h (dpAll_take n a)
theorem dpAll_cut {vs : List V} {lo hi : Option Int} (h : DpAll K H vs ds) : DpAll K H (cutV vs lo hi) (cutD ds lo hi) := by
  unfold cutV cutD
  rw [dpAll_len h]
  exact dpAll_take _ (dpAll_drop _ h)
theorem eo_none : EvO K B tNoPart σ G none := fun H e Q q => q G H (Ext.refl e)
theorem EvO.mono {to : TO} {o : Option Int} (e : Ex G G') (c : Cel K B G) (h : EvO K B to σ G o) : EvO K B to σ G' o := fun H eH Q q => h H (eH.less e c) Q fun G2 H2 X => q _ H2 (X.wide e eH).1
theorem eo_some {i : Int} (h : EvD K B te σ G (.int i)) : EvO K B (tPart te) σ G (some i) := fun H e Q q => h H e _ fun v G2 H2 X dv => ⟨i, dp_int dv, q G2 H2 X⟩
theorem ed_slT {tl th : TO} {lo hi : Option Int} (h : EvD K B te σ G (.tuple ds)) (h1 : EvO K B tl σ G lo) (h2 : EvO K B th σ G hi) (hn : ¬ (HT.sIx ds.length 0 lo = 0 ∧ HT.sIx ds.length ds.length hi = ds.length)) :
    EvD K B (tSl (rSlT K) te tl th) σ G (.tuple (cutD ds lo hi)) := fun H e Q q =>
  h H e _ fun v G2 H2 X dv => h1.mono X.gg e.c H2 X.ok _ fun G3 H3 X3 => h2.mono (X.gg.trans X3.gg) e.c H3 X3.ok _ fun G4 H4 X4 => by
    obtain ⟨a, xs, rfl, hs, hx⟩ := dp_tup (dp_mono (X3.gg.trans X4.gg) dv)
    have Y := X.trans (X3.trans X4)
    refine ⟨a, xs, rfl, ex_t X4.ok.e hs, ?_, fun p hp => q _ _ _ (Y.trans (Ext.new Y.ok hp)) (.tup (SqT.of upd_same) (dpAll_mono (Ex.new (Y.ok.e.off hp)) (dpAll_cut hx)))⟩
    rw [dpAll_len hx]
    exact hn
theorem ed_slL {tl th : TO} {lo hi : Option Int} (h : EvD K B te σ G (.list ds)) (h1 : EvO K B tl σ G lo) (h2 : EvO K B th σ G hi) :
    EvD K B (tSl (rSlL K) te tl th) σ G (.list (cutD ds lo hi)) := fun H e Q q =>
  h H e _ fun v G2 H2 X dv => h1.mono X.gg e.c H2 X.ok _ fun G3 H3 X3 => h2.mono (X.gg.trans X3.gg) e.c H3 X3.ok _ fun G4 H4 X4 => by
    obtain ⟨a, xs, rfl, hs, hx⟩ := dp_lst (dp_mono (X3.gg.trans X4.gg) dv)
    have Y := X.trans (X3.trans X4)
    exact ⟨a, xs, rfl, ex_l X4.ok.e hs, fun p hp => q _ _ _ (Y.trans (Ext.new Y.ok hp)) (.lst (SqL.of upd_same) (dpAll_mono (Ex.new (Y.ok.e.off hp)) (dpAll_cut hx)))⟩
theorem rd_catT (h0 : ds ≠ []) (h1 : es ≠ []) (hl : ds.length + es.length ≤ 100000) : RvD K B (rCatT K) G (.tuple ds) (.tuple es) (.tuple (ds ++ es)) := fun u v G2 H2 _ e du dv Q q => by
  obtain ⟨a, xs, rfl, hs, hx⟩ := dp_tup du
  obtain ⟨a', ys, rfl, hs', hy⟩ := dp_tup dv
  refine ⟨a, a', xs, ys, rfl, rfl, ex_t e.e hs, ex_t e.e hs', fun z => ?_, ?_, fun z => ?_, fun _ p hp => ?_⟩
  · subst z
    cases hx
    exact h0 rfl
  · rw [dpAll_len hx, dpAll_len hy]
    exact sz hl
  · subst z
    cases hy
    exact absurd rfl h1
  · exact q _ _ _ (Ext.new e hp) (.tup (SqT.of upd_same) (dpAll_mono (Ex.new (e.e.off hp)) (dpAll_app hx hy)))
/-- a list made anew, outside of what stays -/
def RetF (K : Fg) (B : Bg) (G H : Hp) (Q : VK) (ds : List PyData) : Prop := ∀ p xs G2 H2, Ext K B G H G2 H2 → H p = none → G2 p = none → ¬ isB B p → H2 p = some (.lst xs) → DpAll K G2 xs ds → Q (.ref p) H2
def EvF (K : Fg) (B : Bg) (te : TE) (σ : L2.St) (G : Hp) (ds : List PyData) : Prop := ∀ H, Ok K B G H → ∀ Q : VK, RetF K B G H Q ds → te σ H Q
theorem Ext.freeze {G2 H2 : Hp} {p : Addr} {o : HO} (X : Ext K B G H G2 H2) (hp : H p = none) (hg : G2 p = none) (hb : ¬ isB B p) (h2 : H2 p = some o) : Ext K B G H (upd G2 p o) H2 :=
  ⟨X.gg.trans (Ex.new hg), X.hh, fun a u h g => by
    rw [upd_ne (ne_of_none h hp)]
    exact X.fr a u h g, ⟨fun a u h => by
      by_cases c : a = p
      · subst c
        rw [upd_same] at h
        rw [h2, ← h]
      · rw [upd_ne c] at h
        exact X.ok.e a u h, X.ok.c.mono (Ex.new hg), X.ok.b.keep (fun a z g => by
        rw [upd_ne (show a ≠ p from fun c => hb (by rw [← c]; exact z))]
        exact g) fun _ _ _ q => q⟩⟩
theorem RetF.of {Q : VK} (h : Ret K B G H Q (.list ds)) : RetF K B G H Q ds := fun p xs G2 H2 X hp hg hb h2 a =>
  h _ _ H2 (X.freeze hp hg hb h2) (.lst (SqL.of upd_same) (dpAll_mono (Ex.new hg) a))
theorem EvF.ed (h : EvF K B te σ G ds) : EvD K B te σ G (.list ds) := fun H e Q q => h H e Q (.of q)
theorem RetF.mono {Q : VK} {G1 H1 : Hp} (X : Ext K B G H G1 H1) (h : RetF K B G H Q ds) : RetF K B G1 H1 Q ds := fun p xs G2 H2 X2 hp hg hb h2 a => h p xs G2 H2 (X.trans X2) (by
  cases q : H p with
  | none => rfl
  | some o =>
    have z := X.hh p o hb q
    rw [hp] at z
    cases z) hg hb h2 a
theorem EvF.mono (e : Ex G G') (c : Cel K B G) (h : EvF K B te σ G ds) : EvF K B te σ G' ds := fun H eH Q q =>
  h H (eH.less e c) Q fun p xs G2 H2 X hp hg hb h2 a => by
    obtain ⟨X2, e2⟩ := X.wide e eH
    exact q p xs _ H2 X2 hp (join_none (eH.e.off hp) hg) hb h2 (dpAll_mono e2 a)
theorem ef_lst (h : EvA K B tr σ G ds) (hl : ds.length ≤ 100000) : EvF K B (tLst tr) σ G ds := fun H e Q q =>
  h H e _ fun vs G2 H2 X dv => ⟨by rw [dpAll_len dv]; exact sz hl, fun p hp => by
    have nb := X.ok.b.ne hp
    refine q p vs G2 _ (X.trans (Ext.loose X.ok hp)) ?_ (X.ok.e.off hp) nb upd_same dv
    cases z : H p with
    | none => rfl
    | some o =>
      have z2 := X.hh p o nb z
      rw [hp] at z2
      cases z2⟩
theorem Ext.old {G2 H2 : Hp} {p : Addr} (X : Ext K B G H G2 H2) (nb : ¬ isB B p) (hp : H2 p = none) : H p = none := by
  cases z : H p with
  | none => rfl
  | some o =>
    have z2 := X.hh p o nb z
    rw [hp] at z2
    cases z2
/-! ### comprehensions -/
theorem range_one (j : Nat) (f : Int → Option PyData) : (List.range (j + 1)).filterMap (fun i : Nat => f (i : Int)) = (List.range j).filterMap (fun i : Nat => f (i : Int)) ++ (f (j : Int)).toList := by
  rw [List.range_succ, List.filterMap_append]
  cases h : f (j : Int) <;> simp [List.filterMap_cons, h]
theorem lc_turn {G1 H1 : Hp} {D : Addr} {xs : List V} {es : List PyData} {o : Option PyData} {σ2 : L2.St} {H3 G3 : Hp} {Nx : Hp → Prop} (hD : H1 D = none) (nb : ¬ isB B D)
    (X : Ext K B G1 H1 G3 H3) (hg : G3 D = none) (h3 : H3 D = some (.lst xs)) (hx : DpAll K G3 xs es) (hl : es.length < 100000)
    (ht : EvB K B tt σ2 G3 o.isSome) (he : ∀ d, o = some d → EvD K B te σ2 G3 d)
    (k : ∀ G4 H4 ys, Ext K B G1 H1 G4 H4 → G4 D = none → H4 D = some (.lst ys) → DpAll K G4 ys (es ++ o.toList) → Nx H4) :
    tt σ2 H3 fun b H3 => if b = true then te σ2 H3 fun y H4 => ∃ acc, H4 D = some (.lst acc) ∧ acc.length < sizeLine ∧ Nx (upd H4 D (.lst (acc ++ [y]))) else Nx H3 :=
  ht H3 X.ok _ fun G4 H4 X4 => by
    have g4 := X4.fr D _ h3 hg
    have h4 := X4.hh D _ nb h3
    have a4 := dpAll_mono X4.gg hx
    cases o with
    | none =>
      show (if false = true then _ else _)
      rw [ifF]
      refine k G4 H4 xs (X.trans X4) g4 h4 ?_
      rw [Option.toList_none, List.append_nil]
      exact a4
    | some d =>
      refine (show (if true = true then _ else _) from ?_)
      rw [if_pos rfl]
      refine (he d rfl).mono X4.gg X.ok.c H4 X4.ok _ fun y G5 H5 X5 dy => ?_
      have h5 := X5.hh D _ nb h4
      have g5 := X5.fr D _ h4 g4
      refine ⟨xs, h5, by rw [dpAll_len hx]; exact szl hl, ?_⟩
      have Y := X.trans (X4.trans X5)
      refine k G5 _ (xs ++ [y]) ⟨Y.gg, fun a u n q => ?_, Y.fr, Y.ok.mut g5 nb⟩ g5 upd_same (dpAll_app (dpAll_mono X5.gg a4) (.cons dy .nil))
      rw [upd_ne (ne_of_none q hD)]
      exact Y.hh a u n q
/-- [e for x in range(n) if t] -/
theorem ef_lcR {i : Nat} {n : Nat} {f : Int → Option PyData} (ha : EvA K B tr σ G [.int (n : Int)]) (hn : n ≤ 100000)
    (ht : ∀ j : Nat, j < n → EvB K B tt ((σ.set i none).set i (some (.int (j : Int)))) G (f j).isSome)
    (he : ∀ (j : Nat) d, j < n → f j = some d → EvD K B te ((σ.set i none).set i (some (.int (j : Int)))) G d) :
    EvF K B (tLc (iRng1 tr) (gName i) tt te [i]) σ G ((List.range n).filterMap fun j : Nat => f (j : Int)) := fun H e Q q =>
  ha H e _ fun vs G1 H1 X dv => by
    have ev : vs = [.int (n : Int)] := by
      cases dv with
      | cons h a =>
        cases a
        rw [dp_int h]
    refine ⟨(n : Int), ev, by omega, by omega, fun D hD => ?_⟩
    have nb := X.ok.b.ne hD
    show ∃ W, _
    refine lc_range (lo := 0) (n := (n : Int).toNat) (Qd := fun H => Q (.ref D) H) (fun j H' => ∃ G' xs, Ext K B G1 H1 G' H' ∧ G' D = none ∧ H' D = some (.lst xs) ∧ DpAll K G' xs ((List.range j).filterMap fun j : Nat => f (j : Int)))
      ⟨G1, [], Ext.loose X.ok hD, X.ok.e.off hD, upd_same, .nil⟩ ?_ ?_
    · rintro j H' hj ⟨G', xs, X', g', h', a'⟩
      have hj' : j < n := by omega
      have ez : (0 : Int) + (j : Int) = (j : Int) := by omega
      refine ⟨?_, ?_⟩
      · show (((σ.set i none).set i (some (.int (0 + (j : Int))))).set i none) = σ.set i none
        rw [List.set_set, List.set_set]
      · rw [ez]
        have hlen : ((List.range j).filterMap fun j : Nat => f (j : Int)).length < 100000 := by
          have z := List.length_filterMap_le (fun j : Nat => f (j : Int)) (List.range j)
          rw [List.length_range] at z
          omega
        refine lc_turn (o := f j) hD nb X' g' h' a' hlen ((ht j hj').mono (X.gg.trans X'.gg) e.c) (fun d ed => (he j d hj' ed).mono (X.gg.trans X'.gg) e.c) fun G4 H4 ys X4 g4 h4 a4 => ⟨G4, ys, X4, g4, h4, ?_⟩
        rw [range_one]
        exact a4
    · rintro H' ⟨G', xs, X', g', h', a'⟩
      have z : (n : Int).toNat = n := Int.toNat_natCast n
      rw [z] at a'
      exact q D xs G' H' (X.trans X') (X.old nb hD) g' nb h' a'
theorem take_filterMap {ds : List PyData} {f : PyData → Option PyData} {j : Nat} {d : PyData} (h : ds[j]? = some d) : (ds.take (j + 1)).filterMap f = (ds.take j).filterMap f ++ (f d).toList := by
  rw [List.take_add_one, h, List.filterMap_append]
  cases q : f d <;> simp [q]
/-- [e for x in xs if t], xs a list -/
theorem ef_lcL {i : Nat} {f : PyData → Option PyData} (ha : EvD K B ta σ G (.list ds)) (hn : ds.length ≤ 100000)
    (ht : ∀ d v G', d ∈ ds → Ex G G' → Cel K B G' → Dp K G' v d → EvB K B tt ((σ.set i none).set i (some v)) G' (f d).isSome)
    (he : ∀ d v y G', d ∈ ds → Ex G G' → Cel K B G' → Dp K G' v d → f d = some y → EvD K B te ((σ.set i none).set i (some v)) G' y) :
    EvF K B (tLc (iList K ta) (gName i) tt te [i]) σ G (ds.filterMap f) := fun H e Q q =>
  ha H e _ fun v G1 H1 X dv => by
    obtain ⟨a, xs, rfl, hs, hx⟩ := dp_lst dv
    refine ⟨a, rfl, ⟨xs, ex_l X.ok.e hs⟩, fun D hD => ?_⟩
    have nb := X.ok.b.ne hD
    show ∃ W, _
    refine lc_list (K := K) (a := a) (xs := xs) (Qd := fun H => Q (.ref D) H) (fun j H' => ∃ G' ys, Ext K B G1 H1 G' H' ∧ G' D = none ∧ H' D = some (.lst ys) ∧ DpAll K G' ys ((ds.take j).filterMap f))
      ⟨G1, [], Ext.loose X.ok hD, X.ok.e.off hD, upd_same, .nil⟩ ?_ ?_ ?_
    · rintro j H' _ ⟨G', ys, X', _⟩
      exact ex_l (X'.gg.trans X'.ok.e) hs
    · rintro j x H' hj ⟨G', ys, X', g', h', a'⟩
      obtain ⟨d, hd, dx⟩ := dpAll_at hx hj
      have md : d ∈ ds := List.mem_of_getElem? hd
      have jl : j < ds.length := (List.getElem?_eq_some_iff.mp hd).1
      refine ⟨?_, ?_⟩
      · show (((σ.set i none).set i (some x)).set i none) = σ.set i none
        rw [List.set_set, List.set_set]
      · have hlen : ((ds.take j).filterMap f).length < 100000 := by
          have z := List.length_filterMap_le f (ds.take j)
          rw [List.length_take] at z
          omega
        have c' := (e.c.mono X.gg).mono X'.gg
        refine lc_turn (o := f d) hD nb X' g' h' a' hlen (ht d x G' md (X.gg.trans X'.gg) c' (dp_mono X'.gg dx)) (fun y ey => he d x y G' md (X.gg.trans X'.gg) c' (dp_mono X'.gg dx) ey) fun G4 H4 ys X4 g4 h4 a4 => ⟨G4, ys, X4, g4, h4, ?_⟩
        rw [take_filterMap hd]
        exact a4
    · rintro H' ⟨G', ys, X', g', h', a'⟩
      rw [dpAll_len hx, List.take_length] at a'
      exact q D ys G' H' (X.trans X') (X.old nb hD) g' nb h' a'
theorem eb_yes : EvB K B tYes σ G true := fun H e Q q => q G H (Ext.refl e)
/-- all(xs), a list of truths -/
theorem dpAll_bls : ∀ {vs : List V} {bs : List Bool}, DpAll K H vs (bs.map PyData.bool) → vs = bs.map V.bl
  | _, [], .nil => rfl
  | _, b :: bs, .cons h a => by rw [dp_bl h, dpAll_bls a]; rfl
theorem dpAll_intsV : ∀ {vs : List V} {bs : List Int}, DpAll K H vs (bs.map PyData.int) → vs = bs.map V.int
  | _, [], .nil => rfl
  | _, b :: bs, .cons h a => by rw [dp_int h, dpAll_intsV a]; rfl
theorem ed_all {bs : List Bool} (h : EvD K B ta σ G (.list (bs.map PyData.bool))) : EvD K B (tCB (rAll K) (tCons ta tNil)) σ G (.bool (bs.all id)) := fun H e Q q =>
  h H e _ fun v G2 H2 X dv => by
    obtain ⟨a, xs, rfl, hs, hx⟩ := dp_lst dv
    rw [dpAll_bls hx] at hs
    exact ⟨a, bs, rfl, ex_l X.ok.e hs, q _ G2 H2 X (.bl _)⟩
theorem ed_listOf {ds : List PyData} (h : EvD K B ta σ G (.list ds)) : EvF K B (tCB (rListS K) (tCons ta tNil)) σ G ds := fun H e Q q =>
  h H e _ fun v G2 H2 X dv => by
    obtain ⟨a, xs, rfl, hs, hx⟩ := dp_lst dv
    refine ⟨a, xs, rfl, .inl (ex_l X.ok.e hs), fun l hl => ?_⟩
    have nb := X.ok.b.ne hl
    exact q l xs G2 _ (X.trans (Ext.loose X.ok hl)) (X.old nb hl) (X.ok.e.off hl) nb upd_same hx
theorem ed_listOfT {ds : List PyData} (h : EvD K B ta σ G (.tuple ds)) : EvF K B (tCB (rListS K) (tCons ta tNil)) σ G ds := fun H e Q q =>
  h H e _ fun v G2 H2 X dv => by
    obtain ⟨a, xs, rfl, hs, hx⟩ := dp_tup dv
    refine ⟨a, xs, rfl, .inr (ex_t X.ok.e hs), fun l hl => ?_⟩
    have nb := X.ok.b.ne hl
    exact q l xs G2 _ (X.trans (Ext.loose X.ok hl)) (X.old nb hl) (X.ok.e.off hl) nb upd_same hx
/-! ### a value that is not told but by what holds of it -/
def RetS (K : Fg) (B : Bg) (G H : Hp) (Q : VK) (S : PyData → Prop) : Prop := ∀ d v G2 H2, S d → Ext K B G H G2 H2 → Dp K G2 v d → Q v H2
def EvS (K : Fg) (B : Bg) (te : TE) (σ : L2.St) (G : Hp) (S : PyData → Prop) : Prop := ∀ H, Ok K B G H → ∀ Q : VK, RetS K B G H Q S → te σ H Q
theorem EvD.toS {S : PyData → Prop} (h : EvD K B te σ G d) (hs : S d) : EvS K B te σ G S := fun H e Q q => h H e Q fun v G2 H2 X dv => q d v G2 H2 hs X dv
theorem EvS.mono {S : PyData → Prop} (e : Ex G G') (c : Cel K B G) (h : EvS K B te σ G S) : EvS K B te σ G' S := fun H eH Q q =>
  h H (eH.less e c) Q fun d v G2 H2 hs X dv => by
    obtain ⟨X2, e2⟩ := X.wide e eH
    exact q d v _ H2 hs X2 (dp_mono e2 dv)
theorem es_op {S1 S2 S : PyData → Prop} (ha : EvS K B ta σ G S1) (hb : EvS K B tb σ G S2) (hr : ∀ x y, S1 x → S2 y → ∃ z, S z ∧ RvD K B r G x y z) : EvS K B (tOp r ta tb) σ G S := fun H e Q q =>
  ha H e _ fun x u G2 H2 s1 X2 d2 => hb.mono X2.gg e.c H2 X2.ok _ fun y v G3 H3 s2 X3 d3 => by
    obtain ⟨z, sz, hr'⟩ := hr x y s1 s2
    exact hr' u v G3 H3 (X2.gg.trans X3.gg) X3.ok (dp_mono X3.gg d2) d3 Q fun w G4 H4 X4 d4 => q z w G4 H4 sz (X2.trans (X3.trans X4)) d4
def EvAS (K : Fg) (B : Bg) (ta : TA) (σ : L2.St) (G : Hp) (S : List PyData → Prop) : Prop := ∀ H, Ok K B G H → ∀ Q : List V → Hp → Prop, (∀ ds vs G2 H2, S ds → Ext K B G H G2 H2 → DpAll K G2 vs ds → Q vs H2) → ta σ H Q
theorem EvAS.mono {S : List PyData → Prop} (e : Ex G G') (c : Cel K B G) (h : EvAS K B tr σ G S) : EvAS K B tr σ G' S := fun H eH Q q =>
  h H (eH.less e c) Q fun d v G2 H2 hs X dv => by
    obtain ⟨X2, e2⟩ := X.wide e eH
    exact q d v _ H2 hs X2 (dpAll_mono e2 dv)
theorem eas_nil {S : List PyData → Prop} (h : S []) : EvAS K B tNil σ G S := fun H e Q q => q [] [] G H h (Ext.refl e) .nil
theorem eas_cons {S1 : PyData → Prop} {S : List PyData → Prop} (ha : EvS K B ta σ G S1) (hr : ∀ d, S1 d → EvAS K B tr σ G (fun ds => S (d :: ds))) : EvAS K B (tCons ta tr) σ G S := fun H e Q q =>
  ha H e _ fun d v G2 H2 s1 X dv => (hr d s1).mono X.gg e.c H2 X.ok _ fun ds vs G3 H3 s2 X3 dvs => q (d :: ds) (v :: vs) G3 H3 s2 (X.trans X3) (.cons (dp_mono X3.gg dv) dvs)
theorem es_lst {S : List PyData → Prop} (h : EvAS K B tr σ G S) (hl : ∀ ds, S ds → ds.length ≤ 100000) : EvS K B (tLst tr) σ G (fun d => ∃ ds, d = .list ds ∧ S ds) := fun H e Q q =>
  h H e _ fun ds vs G2 H2 s X dv => ⟨by rw [dpAll_len dv]; exact sz (hl ds s), fun p hp =>
    q _ _ _ _ ⟨ds, rfl, s⟩ (X.trans (Ext.new X.ok hp)) (.lst (SqL.of upd_same) (dpAll_mono (Ex.new (X.ok.e.off hp)) dv))⟩
variable {D : Ends} {t u : TS}
theorem sq_setS {i : Nat} {S : PyData → Prop} (h : EvS K B te σ G S) (e : Ok K B G H) (k : ∀ d v G2 H2, S d → Ext K B G H G2 H2 → Dp K G2 v d → u D (σ.set i (some v)) H2) : tSeq (tAsg te (gName i)) u D σ H := h H e _ fun d v G2 H2 s X dv => k d v G2 H2 s X dv
/-- a, b = e -/
theorem sq_unpack {n : Nat} {g : TGs} (h : EvD K B te σ G (.tuple ds)) (e : Ok K B G H) (hl : ds.length = n) (k : ∀ vs G2 H2, Ext K B G H G2 H2 → DpAll K G2 vs ds → g vs σ H2 (u D)) : tSeq (tAsg te (gTup K n g)) u D σ H :=
  h H e _ fun v G2 H2 X dv => by
    obtain ⟨a, xs, rfl, hs, hx⟩ := dp_tup dv
    exact ⟨a, xs, rfl, ex_t X.ok.e hs, (dpAll_len hx).trans hl, k xs G2 H2 X hx⟩
end
end Lw

namespace Lw
open PySem.Spec PySem L2 PyProof.Rows
open Evl (Ex Ex.refl Ex.trans Ex.new Ex.off ex_rd ex_l ex_t)
theorem pss_ex {X : Cx} {st : List Stmt} {α : Type} {t : α → TS} {p : α → Prop} (h : ∀ a, p a → PSs X st (t a)) : PSs X st (fun D σ H => ∃ a, p a ∧ t a D σ H) := ⟨fun pins s σ H D I ⟨a, hp, hw⟩ => (h a hp).run pins s σ H D I hw⟩
section
variable {K : Fg} {B : Bg} {σ : L2.St} {G G' H : Hp} {te ta tb tc : TE} {tt tu : TT} {tr : TA} {d x y z : PyData} {ds es : List PyData} {r r' : R2} {b c : Bool} {D : Ends} {t u : TS}
/-- the ends of a loop's turn -/
def lpE (D : Ends) (u : TS) (N : L2.St → Hp → Prop) : Ends := { D with nx := N, ct := N, bk := u D }
/-- for x in xs, a list -/
theorem sq_forL {i : Nat} {Pv : Nat → L2.St → Hp → Hp → Prop} (h : EvD K B te σ G (.list ds)) (e : Ok K B G H) (h0 : ∀ G2 H2, Ext K B G H G2 H2 → Pv 0 σ G2 H2)
    (hs : ∀ G1 H1, Ext K B G H G1 H1 → ∀ (j : Nat) d v σ' G' H', ds[j]? = some d → Ext K B G1 H1 G' H' → Pv j σ' G' H' → Dp K G' v d →
      t (lpE D u fun σ2 H2 => ∃ G2, Ext K B G1 H1 G2 H2 ∧ Pv (j + 1) σ2 G2 H2) (σ'.set i (some v)) H')
    (hd : ∀ σ' G' H', Ext K B G H G' H' → Pv ds.length σ' G' H' → u D σ' H') : tSeq (tFor (iList K te) (gName i) t) u D σ H :=
  h H e _ fun v G1 H1 X dv => by
    obtain ⟨a, xs, rfl, hl, hx⟩ := dp_lst dv
    refine ⟨a, rfl, ⟨xs, ex_l X.ok.e hl⟩, for_list (K := K) (a := a) (xs := xs) (fun j σ' H' => ∃ G', Ext K B G1 H1 G' H' ∧ Pv j σ' G' H') ⟨G1, Ext.refl X.ok, h0 G1 H1 X⟩ ?_ ?_ ?_⟩
    · rintro j σ' H' _ ⟨G', X', _⟩
      exact ex_l (X'.gg.trans X'.ok.e) hl
    · rintro j y σ' H' hj ⟨G', X', p⟩
      obtain ⟨d, hd', dy⟩ := dpAll_at hx hj
      exact hs G1 H1 X j d y σ' G' H' hd' X' p (dp_mono X'.gg dy)
    · rintro σ' H' ⟨G', X', p⟩
      rw [dpAll_len hx] at p
      exact hd σ' G' H' (X.trans X') p
/-- for x in range(n) -/
theorem sq_forR {i n : Nat} {Pv : Nat → L2.St → Hp → Hp → Prop} (h : EvA K B tr σ G [.int (n : Int)]) (hn : n ≤ 100000) (e : Ok K B G H) (h0 : ∀ G2 H2, Ext K B G H G2 H2 → Pv 0 σ G2 H2)
    (hs : ∀ G1 H1, Ext K B G H G1 H1 → ∀ (j : Nat) σ' G' H', j < n → Ext K B G1 H1 G' H' → Pv j σ' G' H' →
      t (lpE D u fun σ2 H2 => ∃ G2, Ext K B G1 H1 G2 H2 ∧ Pv (j + 1) σ2 G2 H2) (σ'.set i (some (.int (j : Int)))) H')
    (hd : ∀ σ' G' H', Ext K B G H G' H' → Pv n σ' G' H' → u D σ' H') : tSeq (tFor (iRng1 tr) (gName i) t) u D σ H :=
  h H e _ fun vs G1 H1 X dv => by
    have ev : vs = [.int (n : Int)] := dpAll_intsV (bs := [(n : Int)]) dv
    refine ⟨(n : Int), ev, by omega, by omega, for_range (lo := 0) (n := (n : Int).toNat) (fun j σ' H' => ∃ G', Ext K B G1 H1 G' H' ∧ Pv j σ' G' H') ⟨G1, Ext.refl X.ok, h0 G1 H1 X⟩ ?_ ?_⟩
    · rintro j σ' H' hj ⟨G', X', p⟩
      have ez : (0 : Int) + (j : Int) = (j : Int) := by omega
      have z := hs G1 H1 X j σ' G' H' (by omega) X' p
      rw [← ez] at z
      exact z
    · rintro σ' H' ⟨G', X', p⟩
      rw [Int.toNat_natCast] at p
      exact hd σ' G' H' (X.trans X') p
theorem lg {u : Int} (h0 : 0 < u) (h : u < 2 ^ 250) : u.natAbs.log2 < 9000 := Nat.lt_of_lt_of_le (PySem.Flt.log2_lt_of (k := 250) (by decide) (by omega)) (by decide)
theorem ed_isF (h : EvF K B te σ G ds) (e : ds = es) : EvF K B te σ G es := e ▸ h
theorem sq_ifN {w : TS} (h : EvB K B tt σ G b) (e : Ok K B G H) (k1 : b = true → ∀ G2 H2, Ext K B G H G2 H2 → t { D with nx := w D } σ H2) (k2 : b = false → ∀ G2 H2, Ext K B G H G2 H2 → w D σ H2) : tSeq (tIfS tt t tNext) w D σ H := st_if h e k1 k2
theorem st_ifD {b : Bool} (h : EvB K B tt σ G b) (e : Ok K B G H) (k : b = true → ∀ G2 H2, Ext K B G H G2 H2 → t D σ H2) (k2 : b = false → ∀ G2 H2, Ext K B G H G2 H2 → D.nx σ H2) : tIfS tt t tNext D σ H := st_if h e k k2
/-- a list of the same item, [x] * n -/
theorem rd_rep {n : Nat} (hl : ds.length * n ≤ 100000) (hn : n ≤ 100000) : ∀ {te : TE} {tb : TE}, EvF K B te σ G ds → EvD K B tb σ G (.int (n : Int)) → EvF K B (tOp rRep te tb) σ G (List.replicate n ds).flatten := fun {te tb} ha hb H e Q q =>
  ha H e _ fun p xs G2 H2 X hp hg nb h2 a => hb.mono X.gg e.c H2 X.ok _ fun v G3 H3 X3 d3 => by
    have h3 := X3.hh p _ nb h2
    refine ⟨p, (n : Int), xs, rfl, dp_int d3, h3, by omega, by omega, ?_, fun l hl2 => ?_⟩
    · rw [dpAll_len a, Int.toNat_natCast]
      exact sz hl
    · have Y := X.trans X3
      have nb2 := Y.ok.b.ne hl2
      refine q l _ G3 _ (Y.trans (Ext.loose Y.ok hl2)) (Y.old nb2 hl2) (Y.ok.e.off hl2) nb2 upd_same ?_
      rw [Int.toNat_natCast]
      have key : ∀ n : Nat, DpAll K G3 (List.replicate n xs).flatten (List.replicate n ds).flatten := fun n => by
        induction n with
        | zero => exact .nil
        | succ n ih =>
          simp only [List.replicate_succ, List.flatten_cons]
          exact dpAll_app (dpAll_mono X3.gg a) ih
      exact key n
end
end Lw

namespace Lw
open PySem.Spec PySem L2 PyProof.Rows
open Evl (Ex Ex.refl Ex.trans Ex.new Ex.off ex_rd ex_l ex_t)
section
variable {s : Shared} {prog : Program} {w : World} {A : Around} {E : Value → Shared → Prop}
/-! ### sorted of tuples of ints, of any length, any number of them -/
theorem kat_lexL {b : Bool} {Q : Bool → Shared → Prop} : ∀ {xs ys : List Value} {ns ms : List Int} (i : Nat), IntsAre xs ns → IntsAre ys ms → Q (HT.lexLt ns ms) s →
    PySem.W.KatLex prog w A b (decide (ns.length < ms.length)) Q (xs.zip ys) i s
  | _, _, _, _, _, .nil, .nil, h => PySem.W.kat_nil h
  | _, _, _, _, _, .nil, .cons (ns := ms) _ _ _, h => PySem.W.kat_nil (by
    rw [show decide (([] : List Int).length < (_ :: ms).length) = true from decide_eq_true (Nat.succ_pos _)]
    exact h)
  | _, _, _, _, _, .cons (ns := ns) _ _ _, .nil, h => PySem.W.kat_nil (by
    rw [show decide ((_ :: ns).length < ([] : List Int).length) = false from decide_eq_false (Nat.not_lt_zero _)]
    exact h)
  | _, _, _, _, i, .cons (ns := ns) p t hx, .cons (ns := ms) q u hy, h => by
    have e0 : decide ((p :: ns).length < (q :: ms).length) = decide (ns.length < ms.length) := decide_eq_decide.mpr ⟨Nat.lt_of_succ_lt_succ, Nat.succ_lt_succ⟩
    rw [e0]
    rw [HT.lexLt_cons] at h
    refine PySem.W.kat_cons ?_
    refine wpAny_eqBool_int ?_
    by_cases c : p = q
    · rw [if_pos c] at h
      rw [show (p == q) = true from beq_iff_eq.mpr c]
      exact PySem.W.kat_yes (kat_lexL (i + 1) hx hy h)
    · rw [if_neg c] at h
      rw [show (p == q) = false from beq_eq_false_iff_ne.mpr c]
      exact PySem.W.kat_no (TS.oneLt_ints _ h)
theorem kat_first {h : Heap} {k : Value → List Int} : ∀ {vs : List Value}, (∀ v ∈ vs, TS.TupInts h v (k v) ∧ k v ≠ []) → ∃ fs, PySem.W.KatTups h vs fs ∧ fs.length = vs.length ∧ ∀ f ∈ fs, ∃ n t, f = Value.int n t
  | [], _ => ⟨[], .nil, rfl, fun _ hm => by cases hm⟩
  | v :: vs, hp => by
    obtain ⟨fs, h1, h2, h3⟩ := kat_first (vs := vs) fun u hu => hp u (List.mem_cons_of_mem _ hu)
    obtain ⟨⟨a, xs, e, ⟨o, ho, hc, n, hd⟩, hi⟩, hn⟩ := hp v List.mem_cons_self
    generalize k v = ns at hi hn
    subst e
    cases q : xs.toList with
    | nil =>
      rw [q] at hi
      cases hi
      exact absurd rfl hn
    | cons y ys =>
      rw [q] at hi
      cases hi with
      | cons m t hr =>
        refine ⟨.int m t :: fs, .cons ho hc hd ?_ h1, congrArg Nat.succ h2, fun f hf => ?_⟩
        · rw [← Array.getElem?_toList, q]
          rfl
        · cases hf with
          | head => exact ⟨m, t, rfl⟩
          | tail _ hf => exact h3 f hf
theorem sortable_lexL {a : Addr} {vs : List Value} {k : Value → List Int} (h0 : 0 < vs.length) (hp : ∀ v ∈ vs, TS.TupInts s.heap v (k v) ∧ k v ≠ []) (ha : ∀ o, s.heap.get? a = some o → o.cls ≠ .type "tuple") :
    SrtO.SortableO prog w A s a vs fun v u => HT.lexLt (k v) (k u) := fun h' keep => by
  have hp' : ∀ v ∈ vs, TS.TupInts h' v (k v) ∧ k v ≠ [] := fun v hv => ⟨(hp v hv).1.keeps fun b o e c => keep b o (fun z => ha o (by rw [← z]; exact e) c) e, (hp v hv).2⟩
  obtain ⟨fs, h1, h2, h3⟩ := kat_first hp'
  refine ⟨tuples' true, fun Q E hq => PySem.W.kat_kind (T := .type "int") h1 (by omega) (fun f hf => ?_) rfl hq, fun p q hm hm' => ?_⟩
  · exact (h3 f hf).elim fun n z => z.elim fun t e => e ▸ PySem.W.Looks.of_pure rfl
  · obtain ⟨b, xs, e1, ⟨o, ho, hc, n, hd⟩, i1⟩ := (hp' _ hm).1
    obtain ⟨b', ys, e2, ⟨o', ho', hc', n', hd'⟩, i2⟩ := (hp' _ hm').1
    show wpAny _ _ (keyLt' (tuples' true) p.1 q.1) (fun r s' => s' = _ ∧ r = HT.lexLt (k p.1) (k q.1)) _ _
    rw [e1, e2] at *
    have l1 := (Array.length_toList (xs := xs)).symm.trans i1.length
    have l2 := (Array.length_toList (xs := ys)).symm.trans i2.length
    exact PySem.W.kat_lt ho hd ho' hd' (by rw [l1, l2]; exact kat_lexL 0 i1 i2 ⟨rfl, rfl⟩)
end
/-- sorted(xs), xs a list of tuples of ints (ks: where each stands, and its ints): a new list of them, rising -/
def rSortedL (K : Fg) : List V → Hp → VK → Prop := fun vs H Q => ∃ (a : Addr) (ks : List (Addr × List Int)), vs = [V.ref a] ∧ SqL K H a (ks.map fun p => V.ref p.1) ∧ (∀ p ∈ ks, SqT K H p.1 (p.2.map V.int) ∧ p.2 ≠ []) ∧
  ∀ (L : List (Addr × List Int)) (p : Addr), L.Perm ks → L.Pairwise (fun x y => HT.lexLt y.2 x.2 = false) → H p = none → Q (.ref p) (upd H p (.lst (L.map fun q => V.ref q.1)))
def adrV : Value → Addr
  | .ref a => a
  | _ => 0
theorem refs_vals : ∀ {ks : List (Addr × List Int)} {us : List Value}, Vals (ks.map fun p => V.ref p.1) us → us = ks.map fun p => Value.ref p.1
  | [], _, .nil => rfl
  | p :: ks, _, .cons r t => by
    obtain rfl := (show _ = Value.ref p.1 from r)
    rw [refs_vals t]
    rfl
theorem vals_refs : ∀ ks : List (Addr × List Int), Vals (ks.map fun p => V.ref p.1) (ks.map fun p => Value.ref p.1)
  | [] => .nil
  | p :: ks => .cons (show RelV (.ref p.1) (.ref p.1) from rfl) (vals_refs ks)
theorem cr_sortedL {X : Cx} : CallR X (.builtin "sorted") (rSortedL X.K) := by
  rintro pins s σ H _ us Q I r ⟨a, ks, rfl, hs, hx, q⟩
  rcases I.list hs with ⟨its, rv, hl, hz⟩
  rw [Vals.ref1 r]
  have ei := refs_vals rv
  have hT : ∀ p ∈ ks, TS.TupInts s.heap (.ref p.1) p.2 := fun p hp => by
    obtain ⟨ys, ry, ht, _⟩ := I.tuple (hx p hp).1
    exact ⟨p.1, ys.toArray, rfl, ht, ry.ints⟩
  have hk : ∀ p ∈ ks, TS.intsOf s.heap (.ref p.1) = p.2 := fun p hp => (hT p hp).ints
  refine SrtO.sorted_ord (NtL.swo_lexL (TS.intsOf s.heap)) hl.isList (by rw [← rv.length]; exact hz) (fun h2 h₁ a' ha kk => ?_) fun out h1 h2 => ?_
  · refine sortable_lexL (s := { s with heap := h₁ }) (by omega) (fun v hv => ?_) fun o e c => ?_
    · rw [ei] at hv
      obtain ⟨p, hp, rfl⟩ := List.mem_map.mp hv
      rw [hk p hp]
      exact ⟨(hT p hp).keeps fun b o e _ => (kk b o e).2, (hx p hp).2⟩
    · have e' : some o = some (seqObj "list" its.toArray 0) := e.symm.trans ha
      cases e'
      exact (by decide : ("list" : String) ≠ "tuple") (Value.type.inj c)
  · obtain ⟨ep, he⟩ := PyProof.Rows.sortedAll_at s.heap its out.toArray
    have pm : (out.map fun v => (adrV v, TS.intsOf s.heap v)).Perm ks := by
      have z := h2.perm.map fun v => (adrV v, TS.intsOf s.heap v)
      rw [ei, List.map_map] at z
      have e0 : ks.map ((fun v => (adrV v, TS.intsOf s.heap v)) ∘ fun p => Value.ref p.1) = ks := by
        refine (List.map_congr_left fun p hp => ?_).trans (List.map_id ks)
        show (p.1, TS.intsOf s.heap (.ref p.1)) = p
        rw [hk p hp]
      rw [e0] at z
      exact z
    have eo : (out.map fun v => (adrV v, TS.intsOf s.heap v)).map (fun p => Value.ref p.1) = out := by
      rw [List.map_map]
      refine (List.map_congr_left fun v hv => ?_).trans (List.map_id out)
      have hv' := h2.perm.mem_iff.mp hv
      rw [ei] at hv'
      obtain ⟨p, _, rfl⟩ := List.mem_map.mp hv'
      rfl
    have pw : (out.map fun v => (adrV v, TS.intsOf s.heap v)).Pairwise fun x y => HT.lexLt y.2 x.2 = false := List.pairwise_map.mpr h1
    generalize (out.map fun v => (adrV v, TS.intsOf s.heap v)) = L at pm eo pw
    have rl := vals_refs L
    rw [eo] at rl
    have hlen : (L.map fun p => V.ref p.1).length ≤ sizeLine := by
      rw [List.length_map, pm.length_eq]
      rw [List.length_map] at hz
      exact hz
    exact ⟨.ref _, upd H (s.heap.objs.size + 1) (.lst (L.map fun p => V.ref p.1)), I.laid (t' := s.toks) (fun _ _ => PyProof.Rows.sortedAll_old) (Nat.le_succ _) ⟨hlen, out, ep, rl, he⟩, rfl, q L _ pm pw (I.hok.fresh (Nat.le_succ _))⟩
end Lw

namespace Lw
open PySem.Spec PySem L2 PyProof.Rows
open Evl (Ex Ex.refl Ex.trans Ex.new Ex.off ex_rd ex_l ex_t)
/-- an empty set, as it is made -/
abbrev fsO (w : World) : Obj := { cls := .type "set", dict := none, data := .set #[] 0 (.fresh 0 0 (!w.params.followText "set-order")) }
section
variable {s : Shared} {P : Program} {w : World} {A : Around} {E : Value → Shared → Prop}
/-- set(xs), a list of ints -/
theorem set_of_list {l : Addr} {its : Array Value} (ns : List Int) {Q : Value → Shared → Prop} (hh : A.handled = none) (hl : s.heap.IsList l its) (hi : IntsAre its.toList ns) (hb : ns.length + 1 < scanBound)
    (k : ∀ (h' : Heap) (tk c : Nat), SetR w h' s.heap.objs.size (fun j => decide (j ∈ ns)) c → c ≤ ns.length → (∀ b o, s.heap.get? b = some o → h'.get? b = some o) → Q (.ref s.heap.objs.size) { s with heap := h', toks := tk }) : wpAny (model P w) A (call (.type "set") [.ref l]) Q E s := by
  have sz : its.size = ns.length := (Array.length_toList (xs := its)).symm.trans hi.length
  obtain ⟨mc, ml, mro⟩ := F.called_set.mro
  have made := F.called_set.made
  have sub := F.called_set.sub
  have nT := F.called_set.notType
  have cC := F.called_set.canCreate
  have tc := F.typeCall_set_1 (.ref l)
  refine wpAny_call (codeAny_of_tree (show wpAny _ _ (callAny (.type "set") _) _ _ _ from wpAny_pure ⟨Code.quiet_builtin _ (by decide +kernel), codeAny_builtin F.entry_type_call ?_⟩))
  have light := weight_type_call_type "set" [.ref l] []
  rw [Around.under_plain light rfl]
  repeat any_goals first | assumption | wp_step
  refine codeAny_mono (code_set_led1 (.ref l) (E := E) (Q₁ := fun v s₁ => v = .ref s.heap.objs.size ∧ s₁ = { s with heap := s.heap.push (fsO w) }) ⟨rfl, rfl⟩) fun r s₁ hr => ?_
  cases r with
  | error e => exact hr
  | ok fl =>
    cases fl with
    | ret v =>
      obtain ⟨rfl, rfl⟩ := hr
      have at0 : (s.heap.push (fsO w)).get? s.heap.objs.size = some (fsO w) := Heap.get?_push_size _ rfl
      have ty0 : Shared.TypeIs { s with heap := s.heap.push (fsO w) } (.ref s.heap.objs.size) "set" := ⟨_, at0, rfl⟩
      have li := F.called_set.init.lookup
      have bi := F.called_set.init.bind (.ref s.heap.objs.size)
      repeat any_goals first | assumption | wp_step
      refine codeAny_mono (codeAny_call_builtin (R := wants (fun r s₂ => r = .none ∧ ∃ h' tk c, s₂ = { s with heap := h', toks := tk } ∧ SetR w h' s.heap.objs.size (fun j => decide (j ∈ ns)) c ∧ c ≤ ns.length ∧ ∀ b o, s.heap.get? b = some o → h'.get? b = some o) E)
        F.called_set.init.plain F.entry_set_init (check_set_init_1 ty0 ?_)) fun r₂ s₂ hr₂ => ?_
      · obtain ⟨⟨oc, od, ot, os⟩, ho, rfl, n, rfl⟩ := hl
        have ho1 : (s.heap.push (fsO w)).get? l = some ⟨.type "list", od, .seq its n, os⟩ := Heap.get?_push_of_some _ ho
        have l1 : (s.heap.push (fsO w)).IsList l its := ⟨_, ho1, rfl, n, rfl⟩
        have ls := F.sub_list_set
        have lf := F.sub_list_frozenset
        have nd : (Value.type "list" == Value.type "dict") = false := by decide
        have lt : l < s.heap.objs.size := Heap.lt_size ho
        have z1 : (s.heap.push (fsO w)).objs.size = s.heap.objs.size + 1 := Heap.size_push ..
        have h3 : A.in1.in1.in1.handled = none := by simp [hh]
        unfold Builtin.«set.__init__»
        unfold noKeywords Builtin.Frozenset.updateFrom
        generalize eI : pyIter = PI
        wp_walk
        subst eI
        refine wpAny_pyIter_list l1 (wpAny_bind (wpAny_runValue ?_))
        have nI : l ≠ (s.heap.push (fsO w)).objs.size := by rw [z1]; exact Nat.ne_of_lt (Nat.lt_succ_of_lt lt)
        have nf : s.heap.objs.size ∉ [(s.heap.push (fsO w)).objs.size, l] := by
          rw [z1]
          intro m
          rcases List.mem_cons.mp m with e | m
          · exact absurd e (Nat.ne_of_lt (Nat.lt_succ_self _))
          · exact absurd (List.mem_singleton.mp m) (Nat.ne_of_gt lt)
        refine set_update_ints ((Walks.list h3 _ l nI its).toS) s.heap.objs.size nf ns sz hb (fun i v hv => ?_) (its.size - 0) 0 _ (by omega) (Nat.zero_le _)
          ⟨⟨_, Heap.get?_push_size _ rfl, rfl, rfl⟩, l1.push _⟩ ⟨0, Nat.le_refl 0, setR_new_at (Heap.get?_push_of_some _ at0)⟩ fun s' c' hm hc' hS' => ?_
        · have lt2 : i < ns.length := by rw [← sz]; exact (Array.getElem?_eq_some_iff.mp hv).1
          obtain ⟨t, e⟩ := PyProof.Rows.IntsAre.int_at hi i v ((Array.getElem?_toList ..).trans hv)
          refine ⟨ns[i], t, List.getElem?_eq_getElem lt2, e.trans ?_⟩
          rw [List.getD_eq_getElem?_getD, List.getElem?_eq_getElem lt2] <;> rfl
        · obtain ⟨h', g2, d2, t2, o2⟩ := s'
          obtain rfl : g2 = s.gens := hm.gens
          obtain rfl : d2 = s.drawn := hm.drawn
          obtain rfl : o2 = s.os := hm.os
          show wpAny _ _ _ _ _ _
          refine wpAny_pure (show wpAny _ _ (ret Value.none) _ _ _ from wpAny_pure ⟨rfl, h', t2, c', rfl, hS', by rw [← sz]; exact hc', fun b o e => ?_⟩)
          have lb : b < s.heap.objs.size := Heap.lt_size e
          refine hm.heap b o (fun m => ?_) (Heap.get?_push_of_some _ (Heap.get?_push_of_some _ e))
          rcases List.mem_cons.mp m with e | m
          · exact absurd e (Nat.ne_of_lt lb)
          · have e := List.mem_singleton.mp m
            rw [z1] at e
            exact absurd e (Nat.ne_of_lt (Nat.lt_succ_of_lt lb))
      · cases r₂ with
        | error e => exact hr₂
        | ok fl₂ =>
          cases fl₂ with
          | ret r =>
            rcases hr₂ with ⟨rfl, h', tk, c', rfl, hS', hc', hk'⟩
            repeat any_goals first | assumption | wp_step
            exact k _ _ _ hS' hc' hk'
          | _ => exact hr₂.elim
    | _ => exact hr.elim
/-- sorted(set of ints), any number -/
theorem sorted_of_set {a : Addr} {S : Int → Bool} {n : Nat} {Q : Value → Shared → Prop} (R : SetR w s.heap a S n) (hh : A.handled = none)
    (k : ∀ s' p (out : List Value) (c : Nat) (ns : List Int), (∀ b o, s.heap.get? b = some o → s'.heap.get? b = some o) → s'.gens = s.gens → s'.os = s.os → s.heap.objs.size ≤ p →
      s'.heap.get? p = some (seqObj "list" out.toArray c) → IntsAre out ns → ns.Pairwise (· < ·) → (∀ j, j ∈ ns ↔ S j = true) → ns.length = n → Q (.ref p) s') : wpAny (model P w) A (call (.builtin "sorted") [.ref a]) Q E s := by
  obtain ⟨o, es, ep, t, ho, hx, hd, ge, nd, hm, hb, hf, hn, ri, ld⟩ := R
  refine Calls.call_function_entry kind_sorted plain_sorted entry_sorted (args_sorted1 (.ref a)) ?_
  unfold Builtin.«sorted»
  refine wpAny_bind (m := checkCount "sorted" 1 1 _) (wpAny_pure (wpAny_bind (collect_set (A := A.in1) hh ⟨o, ho, hx.1, hd⟩ hf hb ri ld fun s1 vs k1 z1 g1 o1 pm => ?_)))
  have lv : vs.length = n := by
    rw [pm.length_eq, List.length_map, Array.length_toList]
    exact hn
  have iv : IntsAre vs (vs.map SrtO.iv) := SrtO.ints_iv fun v hv => by
    rcases List.mem_map.mp (pm.mem_iff.mp hv) with ⟨e, he, q⟩
    obtain ⟨j, tk, h1, _⟩ := ge e he
    exact ⟨j, tk, q.symm.trans h1⟩
  have pk : (vs.map SrtO.iv).Perm (es.toList.map keyOf) := by
    have q := pm.map SrtO.iv
    rw [List.map_map] at q
    have e0 : es.toList.map (SrtO.iv ∘ fun e => e.2) = es.toList.map keyOf := List.map_congr_left fun e he => by
      obtain ⟨j, tk, h1, _⟩ := ge e he
      show SrtO.iv e.2 = keyOf e
      unfold keyOf
      rw [h1]
      rfl
    rw [← e0]
    exact q
  have zl : vs.length ≤ sizeLine := by
    rw [lv, ← hn]
    exact fits_of_scanBound hb
  refine wpAny_bind (wpAny_newList ?_ zl)
  have oL : (s1.heap.push (seqObj "list" vs.toArray 0)).get? s1.heap.objs.size = some (seqObj "list" vs.toArray 0) := Heap.get?_push_size _ rfl
  refine wpAny_bind (wpAny_holding (wpAny_call_entry slot_list_sort ⟨_, oL, rfl⟩ entry_list_sort (SrtO.list_sort_ord SrtO.swo_int oL zl (fun h2 => SrtO.ints_sortable iv h2) fun out q1 q2 => ⟨_, rfl, ?_⟩) (args_list_sort _)))
  obtain ⟨c, hc⟩ := sortedHeap_at (vs := vs) (out := out.toArray) oL
  obtain ⟨i1, i2, i3⟩ := SrtO.ints_out iv q1 q2
  have pn := i2.trans pk
  refine wpAny_pure ⟨_, rfl, k _ s1.heap.objs.size out c _ (fun b u e => ?_) g1 o1 z1 hc i1 (lt_of_le_nodup _ i3 (pn.nodup_iff.mpr nd)) (fun j => by rw [pn.mem_iff, ← hm j]) ?_⟩
  · have q := k1 b u e
    have lt := Heap.lt_size q
    show (sortedHeap (s1.heap.push (seqObj "list" vs.toArray 0)) s1.heap.objs.size vs out.toArray).get? b = some u
    rw [sortedHeap_old (Nat.ne_of_lt lt) (by rw [size_push']; exact Nat.lt_succ_of_lt lt)]
    exact Heap.get?_push_of_some (seqObj "list" vs.toArray 0) q
  · rw [pn.length_eq, List.length_map, Array.length_toList]
    exact hn
end
def rSetI (K : Fg) (w : World) : List V → Hp → VK → Prop := fun xs H Q => ∃ (a : Addr) (ns : List Int), xs = [V.ref a] ∧ SqL K H a (ns.map V.int) ∧ ns.length < 4000 ∧ ∀ p n, H p = none → n ≤ ns.length → Q (.ref p) (upd H p (SetO w p (fun j => decide (j ∈ ns)) n))
def rSortI1 (w : World) : List V → Hp → VK → Prop := fun xs H Q => ∃ (a : Addr) (S : Int → Bool) (n : Nat), xs = [V.ref a] ∧ H a = some (SetO w a S n) ∧ n < 4000 ∧
  ∀ (ns : List Int) (p : Addr), ns.Pairwise (· < ·) → (∀ j : Int, j ∈ ns ↔ S j = true) → ns.length = n → H p = none → Q (.ref p) (upd H p (.lst (ns.map V.int)))
section
variable {X : Cx}
theorem cr_setI (hc : X.calm = true) : CallR X (.type "set") (rSetI X.K X.w) := by
  rintro pins s σ H _ us Q I r ⟨a, ns, rfl, hs, hl, q⟩
  rw [Vals.ref1 r]
  obtain ⟨its, rv, pl, _⟩ := I.list hs
  refine set_of_list (P := X.prog) (w := X.w) ns (I.ok.hd hc) pl.isList rv.ints (by show ns.length + 1 < 4096; omega) fun h' tk c R hc' kp => ?_
  exact ⟨.ref _, upd H s.heap.objs.size (SetO X.w s.heap.objs.size (fun j => decide (j ∈ ns)) c), I.laid (t' := tk) kp (Nat.le_refl _) (setO_new R), rfl, q _ c (I.hok.fresh (Nat.le_refl _)) hc'⟩
theorem cr_sortI1 (hc : X.calm = true) : CallR X (.builtin "sorted") (rSortI1 X.w) := by
  rintro pins s σ H _ us Q I r ⟨a, S, n, rfl, ha, hl, q⟩
  rw [Vals.ref1 r]
  refine sorted_of_set (setO_get I ha) (I.ok.hd hc) fun s' p out c ns k g o hp hg hi hs hm hn => ?_
  have zl : (ns.map V.int).length ≤ sizeLine := by
    rw [List.length_map, hn]
    exact Nat.le_trans (Nat.le_of_lt hl) (by decide)
  have hf : H p = none := I.hok.fresh hp
  have J : Inv X pins σ (upd H p (.lst (ns.map V.int))) { s with toks := s'.toks, drawn := s'.drawn, gens := s'.gens, heap := s'.heap } := I.call (ch := []) (Un.laid k hp hf) (I.hok.laid k hp ⟨zl, out, c, vals_of_ints hi, hg⟩) (by rw [g]; exact I.bare) (fun _ z => nomatch z)
  rcases s' with ⟨h', g', d', t', o'⟩
  obtain rfl := o
  exact ⟨.ref p, _, J, rfl, q ns p hs hm hn hf⟩
end
end Lw

namespace Lw
open PySem.Spec PySem L2 PyProof.Rows
open Evl (Ex Ex.refl Ex.trans Ex.new Ex.off ex_rd ex_l ex_t)
/-! ### tuples of ints as data -/
def encT (ns : List Int) : PyData := .tuple (ns.map .int)
def leL (x y : List Int) : Bool := !HT.lexLt y x
def srtL (ls : List (List Int)) : List (List Int) := ls.mergeSort leL
theorem lex_anti : ∀ x y : List Int, HT.lexLt x y = false → HT.lexLt y x = false → x = y
  | [], [], _, _ => rfl
  | [], _ :: _, h, _ => by
    rw [HT.lexLt_nil_cons] at h
    cases h
  | _ :: _, [], _, h => by
    rw [HT.lexLt_nil_cons] at h
    cases h
  | a :: x, b :: y, h1, h2 => by
    rw [HT.lexLt_cons] at h1 h2
    by_cases c : a = b
    · rw [if_pos c] at h1
      rw [if_pos c.symm] at h2
      rw [c, lex_anti x y h1 h2]
    · rw [if_neg c] at h1
      rw [if_neg fun e => c e.symm] at h2
      have := of_decide_eq_false h1
      have := of_decide_eq_false h2
      omega
theorem leL_iff {x y : List Int} : leL x y = true ↔ HT.lexLt y x = false := by
  unfold leL
  cases HT.lexLt y x <;> simp
theorem leL_trans (a b c : List Int) (h1 : leL a b = true) (h2 : leL b c = true) : leL a c = true := leL_iff.mpr (NtL.lex_tr a b c (leL_iff.mp h1) (leL_iff.mp h2))
theorem leL_total (a b : List Int) : (leL a b || leL b a) = true := by
  unfold leL
  cases h : HT.lexLt b a with
  | false => rfl
  | true =>
    rw [NtL.lex_asym b a h]
    rfl
theorem srtL_perm (ls : List (List Int)) : (srtL ls).Perm ls := List.mergeSort_perm ls leL
theorem srtL_srt (ls : List (List Int)) : (srtL ls).Pairwise fun x y => HT.lexLt y x = false := (List.pairwise_mergeSort leL_trans leL_total ls).imp fun h => leL_iff.mp h
theorem srtL_uniq {ls ms : List (List Int)} (p : ms.Perm ls) (h : ms.Pairwise fun x y => HT.lexLt y x = false) : ms = srtL ls :=
  List.Perm.eq_of_pairwise (fun a b _ _ h1 h2 => lex_anti a b h2 h1) h (srtL_srt ls) (p.trans (srtL_perm ls).symm)
section
variable {K : Fg} {B : Bg} {σ : L2.St} {G G' H : Hp} {te ta tb tc : TE} {tt tu : TT} {tr : TA} {d x y z : PyData} {ds es : List PyData} {r r' : R2} {b c : Bool} {D : Ends} {t u : TS}
theorem dp_enc {v : V} {ns : List Int} (h : Dp K G v (encT ns)) : ∃ a, v = .ref a ∧ SqT K G a (ns.map V.int) := by
  obtain ⟨a, xs, e, hs, hx⟩ := dp_tup h
  rw [dpAll_intsV hx] at hs
  exact ⟨a, e, hs⟩
theorem dp_encs : ∀ {vs : List V} {ls : List (List Int)}, DpAll K G vs (ls.map encT) → ∃ ks : List (Addr × List Int), vs = ks.map (fun p => V.ref p.1) ∧ ks.map (·.2) = ls ∧ ∀ p ∈ ks, SqT K G p.1 (p.2.map V.int)
  | _, [], .nil => ⟨[], rfl, rfl, fun _ h => by cases h⟩
  | _, l :: ls, .cons h a => by
    obtain ⟨p, e, hs⟩ := dp_enc h
    obtain ⟨ks, e1, e2, hk⟩ := dp_encs a
    refine ⟨(p, l) :: ks, by rw [e, e1]; rfl, by rw [← e2]; rfl, fun q hq => ?_⟩
    cases hq with
    | head => exact hs
    | tail _ hq => exact hk q hq
theorem encs_dp : ∀ {ks : List (Addr × List Int)}, (∀ p ∈ ks, SqT K G p.1 (p.2.map V.int)) → DpAll K G (ks.map fun p => V.ref p.1) ((ks.map (·.2)).map encT)
  | [], _ => .nil
  | p :: ks, h => .cons (.tup (h p List.mem_cons_self) (dpAll_ints p.2)) (encs_dp fun q hq => h q (List.mem_cons_of_mem _ hq))
/-- sorted(xs), tuples of ints -/
theorem ef_sorted {ls : List (List Int)} (h : EvD K B ta σ G (.list (ls.map encT))) (hn : ∀ l ∈ ls, l ≠ []) : EvF K B (tCB (rSortedL K) (tCons ta tNil)) σ G ((srtL ls).map encT) := fun H e Q q =>
  h H e _ fun v G2 H2 X dv => by
    obtain ⟨a, xs, rfl, hs, hx⟩ := dp_lst dv
    obtain ⟨ks, rfl, rfl, hk⟩ := dp_encs hx
    refine ⟨a, ks, rfl, ex_l X.ok.e hs, fun p hp => ⟨ex_t X.ok.e (hk p hp), hn _ (List.mem_map.mpr ⟨p, hp, rfl⟩)⟩, fun L p pm pw hp => ?_⟩
    have nb := X.ok.b.ne hp
    refine q p _ G2 _ (X.trans (Ext.loose X.ok hp)) (X.old nb hp) (X.ok.e.off hp) nb upd_same ?_
    have e0 : L.map (·.2) = srtL (ks.map (·.2)) := srtL_uniq (pm.map _) (List.pairwise_map.mpr pw)
    rw [← e0]
    exact encs_dp fun r hr => hk r (pm.mem_iff.mp hr)
/-! ### what is in what -/
def rInTD (K : Fg) : R2 := fun x y H Q => ∃ d ds, Dp K H x d ∧ Dp K H y (.tuple ds) ∧ SeqAt.shaped d = true ∧ SeqAt.shaped (.tuple ds) = true ∧ Q (.bl (ds.any fun z => PyData.eqv z d)) H
def rNotInTD (K : Fg) : R2 := fun x y H Q => ∃ d ds, Dp K H x d ∧ Dp K H y (.tuple ds) ∧ SeqAt.shaped d = true ∧ SeqAt.shaped (.tuple ds) = true ∧ Q (.bl (!ds.any fun z => PyData.eqv z d)) H
theorem op_inTD {X : Cx} (hu : X.A.units + 65 < cLine) : OpR X (compareOp .In) (rInTD X.K) := fun pins s σ H x y v u Q I rx ry ⟨d, ds, hd, he, sd, se, q⟩ => by
  obtain ⟨_, r1⟩ := Dp.reads I d x v hd rx
  obtain ⟨_, r2⟩ := Dp.reads I (.tuple ds) y u he ry
  exact SeqAt.in_tuple_reads r2 r1 (SeqAt.canLay_of_shaped se) (SeqAt.canLay_of_shaped sd) (room_in_shaped sd hu) ⟨.bl _, H, I, rfl, q⟩
theorem op_notInTD {X : Cx} (hu : X.A.units + 65 < cLine) : OpR X (compareOp .NotIn) (rNotInTD X.K) := fun pins s σ H x y v u Q I rx ry ⟨d, ds, hd, he, sd, se, q⟩ => by
  obtain ⟨_, r1⟩ := Dp.reads I d x v hd rx
  obtain ⟨_, r2⟩ := Dp.reads I (.tuple ds) y u he ry
  exact SeqAt.notIn_tuple_reads r2 r1 (SeqAt.canLay_of_shaped se) (SeqAt.canLay_of_shaped sd) (room_in_shaped sd hu) ⟨.bl _, H, I, rfl, q⟩
theorem lay_ints : ∀ ns : List Int, PyData.canLayAll0 (ns.map .int) = true ∧ PyData.depthAll (ns.map .int) = 0
  | [] => ⟨by simp [PyData.canLayAll0], by simp [PyData.depthAll]⟩
  | n :: ns => by
    obtain ⟨h1, h2⟩ := lay_ints ns
    exact ⟨by simp [PyData.canLayAll0, PyData.canLay0, h1], by simp [PyData.depthAll, PyData.depth, h2]⟩
theorem lay_encs : ∀ ls : List (List Int), PyData.canLayAll0 (ls.map encT) = true ∧ PyData.depthAll (ls.map encT) ≤ 1
  | [] => ⟨by simp [PyData.canLayAll0], by simp [PyData.depthAll]⟩
  | l :: ls => by
    obtain ⟨h1, h2⟩ := lay_encs ls
    obtain ⟨k1, k2⟩ := lay_ints l
    refine ⟨by simp [PyData.canLayAll0, PyData.canLay0, encT, k1, h1], ?_⟩
    simp only [List.map_cons, PyData.depthAll, encT, PyData.depth, k2]
    omega
theorem shp {d : PyData} (h1 : d.canLay0 = true) (h2 : d.depth ≤ 64) : SeqAt.shaped d = true := by
  show (d.canLay0 && decide (d.depth ≤ 64)) = true
  rw [h1, decide_eq_true h2]
  rfl
theorem shp_enc (l : List Int) : SeqAt.shaped (encT l) = true := by
  obtain ⟨k1, k2⟩ := lay_ints l
  exact shp (by simp [encT, PyData.canLay0, k1]) (by simp [encT, PyData.depth, k2])
theorem shp_none : SeqAt.shaped .none = true := by rfl
theorem shp_encsT (ls : List (List Int)) : SeqAt.shaped (.tuple (ls.map encT)) = true := by
  obtain ⟨k1, k2⟩ := lay_encs ls
  exact shp (by simp [PyData.canLay0, k1]) (by simp only [PyData.depth]; omega)
theorem shp_encsL (ls : List (List Int)) : SeqAt.shaped (.list (ls.map encT)) = true := by
  obtain ⟨k1, k2⟩ := lay_encs ls
  exact shp (by simp [PyData.canLay0, k1]) (by simp only [PyData.depth]; omega)
theorem eqv_ints : ∀ a b : List Int, PyData.eqvAll (a.map .int) (b.map .int) = decide (a = b)
  | [], [] => by
    simp [PyData.eqvAll]
  | [], _ :: _ => by
    simp [PyData.eqvAll]
  | _ :: _, [] => by
    simp [PyData.eqvAll]
  | x :: a, y :: b => by
    simp only [List.map_cons, PyData.eqvAll, PyData.eqv, eqv_ints a b]
    by_cases c : x = y
    · subst c
      simp
    · simp [c]
theorem eqv_enc (a b : List Int) : PyData.eqv (encT a) (encT b) = decide (a = b) := by
  simp only [encT, PyData.eqv, eqv_ints]
theorem eqv_non (a : List Int) : PyData.eqv (encT a) .none = false := by simp [encT, PyData.eqv]
theorem any_enc (ls : List (List Int)) (a : List Int) : ((ls.map encT).any fun z => PyData.eqv z (encT a)) = decide (a ∈ ls) := by
  induction ls with
  | nil => simp
  | cons l ls ih =>
    rw [List.map_cons, List.any_cons, ih, eqv_enc]
    by_cases c : a = l
    · subst c
      simp
    · have : ¬ l = a := fun e => c e.symm
      simp [c, this]
theorem any_non (ls : List (List Int)) : ((ls.map encT).any fun z => PyData.eqv z .none) = false := by
  induction ls with
  | nil => rfl
  | cons l ls ih => rw [List.map_cons, List.any_cons, ih, eqv_non]; rfl
theorem rd_inT {ls : List (List Int)} {a : List Int} : RvD K B (rInTD K) G (encT a) (.tuple (ls.map encT)) (.bool (decide (a ∈ ls))) := fun u v G2 H2 _ e du dv Q q =>
  ⟨encT a, ls.map encT, dp_mono e.e du, dp_mono e.e dv, shp_enc a, shp_encsT ls, by rw [any_enc]; exact q.here e (.bl _)⟩
theorem rd_notInT {ls : List (List Int)} {a : List Int} : RvD K B (rNotInTD K) G (encT a) (.tuple (ls.map encT)) (.bool (!decide (a ∈ ls))) := fun u v G2 H2 _ e du dv Q q =>
  ⟨encT a, ls.map encT, dp_mono e.e du, dp_mono e.e dv, shp_enc a, shp_encsT ls, by rw [any_enc]; exact q.here e (.bl _)⟩
/-! ### numbers -/
theorem ed_min {i j : Int} (ha : EvA K B tr σ G [.int i, .int j]) : EvD K B (tCB (fun xs H Q => ∃ i j, xs = [.int i, .int j] ∧ Q (.int (if j < i then j else i)) H) tr) σ G (.int (min i j)) := ed_cb ha fun vs G2 H2 _ e dv Q q => ⟨i, j, dpAll_intsV (bs := [i, j]) dv, by
  have z : (if j < i then j else i) = min i j := by
    rw [Int.min_def]
    split <;> split <;> omega
  rw [z]
  exact q.here e (.int _)⟩
theorem ed_max {i j : Int} (ha : EvA K B tr σ G [.int i, .int j]) : EvD K B (tCB (fun xs H Q => ∃ i j, xs = [.int i, .int j] ∧ Q (.int (if j > i then j else i)) H) tr) σ G (.int (max i j)) := ed_cb ha fun vs G2 H2 _ e dv Q q => ⟨i, j, dpAll_intsV (bs := [i, j]) dv, by
  have z : (if j > i then j else i) = max i j := by
    rw [Int.max_def]
    split <;> split <;> omega
  rw [z]
  exact q.here e (.int _)⟩
abbrev rInt1 : List V → Hp → VK → Prop := fun xs H Q => (∃ i, xs = [.int i] ∧ Q (.int i) H) ∨ ∃ k, xs = [.bl k] ∧ Q (.int (if k then 1 else 0)) H
theorem ed_intB (ha : EvD K B ta σ G (.bool b)) : EvD K B (tCB rInt1 (tCons ta tNil)) σ G (.int (if b then 1 else 0)) := fun H e Q q =>
  ha H e _ fun v G2 H2 X dv => .inr ⟨b, by rw [dp_bl dv], q _ G2 H2 X (.int _)⟩
/-- for target in xs, a list -/
theorem sq_forG {g : TG} {Pv : Nat → L2.St → Hp → Hp → Prop} (h : EvD K B te σ G (.list ds)) (e : Ok K B G H) (h0 : ∀ G2 H2, Ext K B G H G2 H2 → Pv 0 σ G2 H2)
    (hs : ∀ G1 H1, Ext K B G H G1 H1 → ∀ (j : Nat) d v σ' G' H', ds[j]? = some d → Ext K B G1 H1 G' H' → Pv j σ' G' H' → Dp K G' v d →
      g v σ' H' fun σ2 H2 => t (lpE D u fun σ2 H2 => ∃ G2, Ext K B G1 H1 G2 H2 ∧ Pv (j + 1) σ2 G2 H2) σ2 H2)
    (hd : ∀ σ' G' H', Ext K B G H G' H' → Pv ds.length σ' G' H' → u D σ' H') : tSeq (tFor (iList K te) g t) u D σ H :=
  h H e _ fun v G1 H1 X dv => by
    obtain ⟨a, xs, rfl, hl, hx⟩ := dp_lst dv
    refine ⟨a, rfl, ⟨xs, ex_l X.ok.e hl⟩, for_list (K := K) (a := a) (xs := xs) (fun j σ' H' => ∃ G', Ext K B G1 H1 G' H' ∧ Pv j σ' G' H') ⟨G1, Ext.refl X.ok, h0 G1 H1 X⟩ ?_ ?_ ?_⟩
    · rintro j σ' H' _ ⟨G', X', _⟩
      exact ex_l (X'.gg.trans X'.ok.e) hl
    · rintro j y σ' H' hj ⟨G', X', p⟩
      obtain ⟨d, hd', dy⟩ := dpAll_at hx hj
      exact hs G1 H1 X j d y σ' G' H' hd' X' p (dp_mono X'.gg dy)
    · rintro σ' H' ⟨G', X', p⟩
      rw [dpAll_len hx] at p
      exact hd σ' G' H' (X.trans X') p
/-- [e for a, b in xs if t], xs a list of pairs -/
theorem ef_lcP {i j : Nat} {f : PyData → Option PyData} (ha : EvD K B ta σ G (.list ds)) (hn : ds.length ≤ 100000) (hp : ∀ d ∈ ds, ∃ a b, d = .tuple [a, b])
    (ht : ∀ a b v w G', .tuple [a, b] ∈ ds → Ex G G' → Cel K B G' → Dp K G' v a → Dp K G' w b → EvB K B tt (((wipe σ [i, j]).set i (some v)).set j (some w)) G' (f (.tuple [a, b])).isSome)
    (he : ∀ a b v w y G', .tuple [a, b] ∈ ds → Ex G G' → Cel K B G' → Dp K G' v a → Dp K G' w b → f (.tuple [a, b]) = some y → EvD K B te (((wipe σ [i, j]).set i (some v)).set j (some w)) G' y)
    (hw : ∀ v w, wipe (((wipe σ [i, j]).set i (some v)).set j (some w)) [i, j] = wipe σ [i, j]) :
    EvF K B (tLc (iList K ta) (gTup K 2 (gCons (gName i) (gCons (gName j) gNil))) tt te [i, j]) σ G (ds.filterMap f) := fun H e Q q =>
  ha H e _ fun v G1 H1 X dv => by
    obtain ⟨a, xs, rfl, hs, hx⟩ := dp_lst dv
    refine ⟨a, rfl, ⟨xs, ex_l X.ok.e hs⟩, fun D hD => ?_⟩
    have nb := X.ok.b.ne hD
    show ∃ W, _
    refine lc_list (K := K) (a := a) (xs := xs) (Qd := fun H => Q (.ref D) H) (fun j H' => ∃ G' ys, Ext K B G1 H1 G' H' ∧ G' D = none ∧ H' D = some (.lst ys) ∧ DpAll K G' ys ((ds.take j).filterMap f))
      ⟨G1, [], Ext.loose X.ok hD, X.ok.e.off hD, upd_same, .nil⟩ ?_ ?_ ?_
    · rintro j H' _ ⟨G', ys, X', _⟩
      exact ex_l (X'.gg.trans X'.ok.e) hs
    · rintro m x H' hj ⟨G', ys, X', g', h', a'⟩
      obtain ⟨d, hd, dx⟩ := dpAll_at hx hj
      have md : d ∈ ds := List.mem_of_getElem? hd
      have jl : m < ds.length := (List.getElem?_eq_some_iff.mp hd).1
      obtain ⟨d1, d2, rfl⟩ := hp d md
      obtain ⟨p, zs, rfl, hz, hzz⟩ := dp_tup (dp_mono X'.gg dx)
      cases hzz with
      | cons k1 r1 =>
        cases r1 with
        | cons k2 r2 =>
          cases r2
          refine ⟨p, _, rfl, ex_t X'.ok.e hz, rfl, _, _, rfl, _, _, rfl, rfl, hw _ _, ?_⟩
          have hlen : ((ds.take m).filterMap f).length < 100000 := by
            have z := List.length_filterMap_le f (ds.take m)
            rw [List.length_take] at z
            omega
          have c' := (e.c.mono X.gg).mono X'.gg
          refine lc_turn (o := f (.tuple [d1, d2])) hD nb X' g' h' a' hlen (ht d1 d2 _ _ G' md (X.gg.trans X'.gg) c' k1 k2) (fun y ey => he d1 d2 _ _ y G' md (X.gg.trans X'.gg) c' k1 k2 ey) fun G4 H4 ys X4 g4 h4 a4 => ⟨G4, ys, X4, g4, h4, ?_⟩
          rw [take_filterMap hd]
          exact a4
    · rintro H' ⟨G', ys, X', g', h', a'⟩
      rw [dpAll_len hx, List.take_length] at a'
      exact q D ys G' H' (X.trans X') (X.old nb hD) g' nb h' a'
/-! ### lists that are made anew again and again -/
theorem ef_catV {i : Nat} {p : Addr} {xs : List V} (hσ : σ[i]? = some (some (.ref p))) (hp : G p = some (.lst xs)) (hx : DpAll K G xs ds) (hb : EvF K B tb σ G es) (hl : ds.length + es.length ≤ 100000) : EvF K B (tOp rCat (tVar i) tb) σ G (ds ++ es) := fun H e Q q =>
  ⟨.ref p, hσ, hb H e _ fun o ys G2 H2 X ho hg nb h2 a => by
    refine ⟨p, o, xs, ys, rfl, rfl, X.ok.e _ _ (X.gg _ _ hp), h2, ?_, fun r hr => ?_⟩
    · rw [dpAll_len hx, dpAll_len a]
      exact sz hl
    · have n2 := X.ok.b.ne hr
      exact q r _ G2 _ (X.trans (Ext.loose X.ok hr)) (X.old n2 hr) (X.ok.e.off hr) n2 upd_same (dpAll_app (dpAll_mono X.gg hx) a)⟩
theorem RetF.frz {Q : VK} (k : ∀ p xs G2 H2, Ext K B G H G2 H2 → G2 p = some (.lst xs) → DpAll K G2 xs ds → Q (.ref p) H2) : RetF K B G H Q ds := fun p xs G2 H2 X hp hg nb h2 a =>
  k p xs _ H2 (X.freeze hp hg nb h2) upd_same (dpAll_mono (Ex.new hg) a)
theorem sq_setZ {i : Nat} (h : EvF K B te σ G ds) (e : Ok K B G H) (k : ∀ p xs G2 H2, Ext K B G H G2 H2 → G2 p = some (.lst xs) → DpAll K G2 xs ds → u D (σ.set i (some (.ref p))) H2) : tSeq (tAsg te (gName i)) u D σ H := h H e _ (RetF.frz k)
theorem st_setZ {i : Nat} (h : EvF K B te σ G ds) (e : Ok K B G H) (k : ∀ p xs G2 H2, Ext K B G H G2 H2 → G2 p = some (.lst xs) → DpAll K G2 xs ds → D.nx (σ.set i (some (.ref p))) H2) : tAsg te (gName i) D σ H := h H e _ (RetF.frz k)
theorem st_forR {i n : Nat} {Pv : Nat → L2.St → Hp → Hp → Prop} (h : EvA K B tr σ G [.int (n : Int)]) (hn : n ≤ 100000) (e : Ok K B G H) (h0 : ∀ G2 H2, Ext K B G H G2 H2 → Pv 0 σ G2 H2)
    (hs : ∀ G1 H1, Ext K B G H G1 H1 → ∀ (j : Nat) σ' G' H', j < n → Ext K B G1 H1 G' H' → Pv j σ' G' H' →
      t (lpE D tNext fun σ2 H2 => ∃ G2, Ext K B G1 H1 G2 H2 ∧ Pv (j + 1) σ2 G2 H2) (σ'.set i (some (.int (j : Int)))) H')
    (hd : ∀ σ' G' H', Ext K B G H G' H' → Pv n σ' G' H' → D.nx σ' H') : tFor (iRng1 tr) (gName i) t D σ H := sq_forR (u := tNext) h hn e h0 hs hd
/-- a list that is returned as it was made -/
theorem st_retF (h : EvF K B te σ G ds) (e : Ok K B G H) (k : RetF K B G H D.rt ds) : tRet te D σ H := h H e _ k
theorem hu65 {k : Nat} {A : Around} (hr : Room k A) : A.units + 65 < cLine := by
  have := hr.un
  omega
/-- list(range(n)) -/
theorem ef_range {n : Nat} (h : EvD K B ta σ G (.int (n : Int))) (hn : n ≤ 100000) : EvF K B (tLstRg (tRg1 ta)) σ G ((List.range n).map fun i : Nat => .int (i : Int)) := fun H e Q q =>
  h H e _ fun v G2 H2 X dv => ⟨(n : Int), dp_int dv, ⟨by omega, by omega, by omega, by omega, by omega⟩, fun p hp => by
    have nb := X.ok.b.ne hp
    refine q p _ G2 _ (X.trans (Ext.loose X.ok hp)) (X.old nb hp) (X.ok.e.off hp) nb upd_same ?_
    unfold rgV
    have e0 : ((n : Int) - 0).toNat = n := by omega
    rw [e0]
    clear hn dv h q
    induction n with
    | zero => exact .nil
    | succ n ih =>
      rw [List.range_succ, List.map_append, List.map_append]
      refine dpAll_app (ih (by omega)) (.cons ?_ .nil)
      have e1 : (0 : Int) + ((n : Nat) : Int) = (n : Int) := by omega
      show Dp K G2 (.int (0 + (n : Int))) (.int (n : Int))
      rw [e1]
      exact .int _⟩
/-! ### dicts with int keys -/
def EvK (K : Fg) (B : Bg) (trs : List (TE × TE)) (σ : L2.St) (G : Hp) (ks : List Int) (ds : List PyData) : Prop := ∀ H, Ok K B G H → ∀ Q : List (V × V) → Hp → Prop, (∀ vs G2 H2, Ext K B G H G2 H2 → DpAll K G2 vs ds → Q ((ks.map V.int).zip vs) H2) → tPairs trs σ H Q
theorem EvK.mono {trs : List (TE × TE)} {ks : List Int} (e : Ex G G') (c : Cel K B G) (h : EvK K B trs σ G ks ds) : EvK K B trs σ G' ks ds := fun H eH Q q =>
  h H (eH.less e c) Q fun v G2 H2 X dv => by
    obtain ⟨X2, e2⟩ := X.wide e eH
    exact q v _ H2 X2 (dpAll_mono e2 dv)
theorem ek_nil : EvK K B [] σ G [] [] := fun H e Q q => q [] G H (Ext.refl e) .nil
theorem ek_cons {trs : List (TE × TE)} {ks : List Int} {k : Int} (h : EvD K B te σ G d) (hr : EvK K B trs σ G ks ds) : EvK K B ((tC (.int k), te) :: trs) σ G (k :: ks) (d :: ds) := fun H e Q q =>
  h H e _ fun v G2 H2 X dv => hr.mono X.gg e.c H2 X.ok _ fun vs G3 H3 X3 dvs => q (v :: vs) G3 H3 (X.trans X3) (.cons (dp_mono X3.gg dv) dvs)
theorem kV_zip : ∀ (ks : List Int) (vs : List V), (ks.map V.int).zip vs = ((ks.map (Sum.inl (β := Str))).zip vs).map fun kv => (kV kv.1, kv.2)
  | [], _ => rfl
  | _ :: _, [] => rfl
  | k :: ks, v :: vs => by
    rw [List.map_cons, List.map_cons, List.zip_cons_cons, List.zip_cons_cons, List.map_cons, kV_zip ks vs]
    rfl
/-- {k: v, ..}[k] -/
theorem ed_dispGet {trs : List (TE × TE)} {ks : List Int} {ty : TE} {k : Int} (h : EvK K B trs σ G ks ds) (hy : EvD K B ty σ G (.int k)) (hl : ks.length ≤ 15)
    (hv : ∀ (Gx : Hp) vs, DpAll K Gx vs ds → ∃ v, valV (mergeK [] ((ks.map Sum.inl).zip vs)) (Sum.inl k) = some v ∧ Dp K Gx v d) : EvD K B (tDGet (tDisp trs) ty) σ G d := fun H e Q q p hp => by
  have X0 : Ext K B G H G (upd H p (.dK [])) := Ext.loose e hp
  have nb := e.b.ne hp
  refine h _ X0.ok _ fun vs G2 H2 X dv => ?_
  have hp2 : H2 p = some (.dK []) := X.hh p _ nb upd_same
  have g2 : G2 p = none := X.fr p _ upd_same (e.e.off hp)
  obtain ⟨v, hv1, hv2⟩ := hv G2 vs dv
  refine ⟨hp2, (ks.map Sum.inl).zip vs, kV_zip ks vs, ?_, ?_⟩
  · rw [List.length_zip, List.length_map]
    omega
  · have ok2 : Ok K B G2 (upd H2 p (.dK (mergeK [] ((ks.map Sum.inl).zip vs)))) := X.ok.mut g2 nb
    have Y : Ext K B G H G2 (upd H2 p (.dK (mergeK [] ((ks.map Sum.inl).zip vs)))) := ⟨X.gg, fun a o n z => by
      rw [upd_ne (ne_of_none z hp)]
      exact X.hh a o n (by rw [upd_ne (ne_of_none z hp)]; exact z), fun a o z g => X.fr a o (by rw [upd_ne (ne_of_none z hp)]; exact z) g, ok2⟩
    refine hy.mono Y.gg e.c _ ok2 _ fun w G3 H3 X3 dw => ?_
    obtain rfl := dp_int dw
    have hp3 : H3 p = some (.dK (mergeK [] ((ks.map Sum.inl).zip vs))) := X3.hh p _ nb upd_same
    refine ⟨p, v, rfl, ?_, q v G3 H3 (Y.trans X3) (dp_mono X3.gg hv2)⟩
    rw [← hv1]
    exact DGet.k (k := Sum.inl k) hp3
/-! ### a list that grows by append -/
structure Loo (K : Fg) (B : Bg) (G0 H0 G H : Hp) (p : Addr) (ds : List PyData) : Prop where
  x : Ext K B G0 H0 G H
  h0 : H0 p = none
  g : G p = none
  nb : ¬ isB B p
  h : ∃ xs, H p = some (.lst xs) ∧ DpAll K G xs ds
theorem Loo.step {G0 H0 G2 H2 : Hp} {p : Addr} (l : Loo K B G0 H0 G H p ds) (X : Ext K B G H G2 H2) : Loo K B G0 H0 G2 H2 p ds := by
  obtain ⟨xs, h1, h2⟩ := l.h
  exact ⟨l.x.trans X, l.h0, X.fr p _ h1 l.g, l.nb, xs, X.hh p _ l.nb h1, dpAll_mono X.gg h2⟩
theorem st_append {G0 H0 : Hp} {p : Addr} {i : Nat} (hσ : σ[i]? = some (some (.ref p))) (l : Loo K B G0 H0 G H p ds) (h : EvD K B ta σ G d) (hl : ds.length < 100000) (k : ∀ G2 H2, Loo K B G0 H0 G2 H2 p (ds ++ [d]) → Ex G G2 → D.nx σ H2) :
    tDrop (tBM K "list" rAppend (tVar i) (tCons ta tNil)) D σ H := by
  obtain ⟨xs0, h1, _⟩ := l.h
  refine ⟨.ref p, hσ, .inl ⟨rfl, _, SqL.of h1⟩, h H l.x.ok _ fun v G2 H2 X dv => ?_⟩
  have l2 := l.step X
  obtain ⟨xs, h3, h4⟩ := l2.h
  refine ⟨p, xs, v, rfl, rfl, h3, by rw [dpAll_len h4]; exact szl hl, ?_⟩
  refine k G2 _ ⟨⟨l2.x.gg, fun a o n z => ?_, l2.x.fr, l2.x.ok.mut l2.g l.nb⟩, l.h0, l2.g, l.nb, xs ++ [v], upd_same, dpAll_app h4 (.cons dv .nil)⟩ X.gg
  rw [upd_ne (ne_of_none z l.h0)]
  exact l2.x.hh a o n z
theorem Loo.frz {G0 H0 : Hp} {p : Addr} (l : Loo K B G0 H0 G H p ds) : ∃ G2 xs, Ext K B G0 H0 G2 H ∧ Ex G G2 ∧ G2 p = some (.lst xs) ∧ DpAll K G2 xs ds := by
  obtain ⟨xs, h1, h2⟩ := l.h
  exact ⟨_, xs, l.x.freeze l.h0 l.g l.nb h1, Ex.new l.g, upd_same, dpAll_mono (Ex.new l.g) h2⟩
theorem sq_setL {i : Nat} (h : EvF K B te σ G ds) (e : Ok K B G H) (k : ∀ p G2 H2, Loo K B G H G2 H2 p ds → u D (σ.set i (some (.ref p))) H2) : tSeq (tAsg te (gName i)) u D σ H := h H e _ fun p xs G2 H2 X h0 hg nb h2 a => k p G2 H2 ⟨X, h0, hg, nb, xs, h2, a⟩
/-- for x in range(n), the invariant over the whole heap -/
theorem sq_forR0 {i n : Nat} {Pv : Nat → L2.St → Hp → Prop} (h : EvA K B tr σ G [.int (n : Int)]) (hn : n ≤ 100000) (e : Ok K B G H) (h0 : ∀ G2 H2, Ext K B G H G2 H2 → Pv 0 σ H2)
    (hs : ∀ (j : Nat) σ' H', j < n → Pv j σ' H' → t (lpE D u fun σ2 H2 => Pv (j + 1) σ2 H2) (σ'.set i (some (.int (j : Int)))) H')
    (hd : ∀ σ' H', Pv n σ' H' → u D σ' H') : tSeq (tFor (iRng1 tr) (gName i) t) u D σ H :=
  h H e _ fun vs G1 H1 X dv => by
    have ev : vs = [.int (n : Int)] := dpAll_intsV (bs := [(n : Int)]) dv
    refine ⟨(n : Int), ev, by omega, by omega, for_range (lo := 0) (n := (n : Int).toNat) (fun j σ' H' => Pv j σ' H') (h0 G1 H1 X) ?_ ?_⟩
    · intro j σ' H' hj p
      have ez : (0 : Int) + (j : Int) = (j : Int) := by omega
      have z := hs j σ' H' (by omega) p
      rw [← ez] at z
      exact z
    · intro σ' H' p
      rw [Int.toNat_natCast] at p
      exact hd σ' H' p
/-- a list that grows, looked at -/
def hide (p : Addr) (G : Hp) : Hp := fun a => if a = p then none else G a
theorem Loo.see {G0 H0 : Hp} {p : Addr} (l : Loo K B G0 H0 G H p ds) : ∃ G1, Ex G G1 ∧ Ok K B G1 H ∧ Dp K G1 (.ref p) (.list ds) ∧ (∀ G2 H2, Ext K B G1 H G2 H2 → ∃ G3, Loo K B G0 H0 G3 H2 p ds ∧ Ex G G3 ∧ ∀ v d, (∀ a, ¬ isB B a → True) → Dp K (hide p G2) v d → Dp K G3 v d) := by
  obtain ⟨xs, h1, h2⟩ := l.h
  have F := l.x.freeze l.h0 l.g l.nb h1
  refine ⟨upd G p (.lst xs), Ex.new l.g, F.ok, .lst (SqL.of upd_same) (dpAll_mono (Ex.new l.g) h2), fun G2 H2 X => ?_⟩
  have gg : Ex G (hide p G2) := fun a o z => by
    have ne : a ≠ p := ne_of_none z l.g
    show (if a = p then none else G2 a) = some o
    rw [if_neg ne]
    exact X.gg a o (by rw [upd_ne ne]; exact z)
  have hx : Ext K B G H (hide p G2) H2 := ⟨gg, X.hh, fun a o z g => by
    show (if a = p then none else G2 a) = none
    by_cases c : a = p
    · rw [if_pos c]
    · rw [if_neg c]
      exact X.fr a o z (by rw [upd_ne c]; exact g), ⟨fun a o z => by
      have z' : (if a = p then none else G2 a) = some o := z
      by_cases c : a = p
      · rw [if_pos c] at z'
        cases z'
      · rw [if_neg c] at z'
        exact X.ok.e a o z', l.x.ok.c.mono gg, X.ok.b.keep (fun a _ g => by
      show (if a = p then none else G2 a) = none
      by_cases c : a = p
      · rw [if_pos c]
      · rw [if_neg c]
        exact g) fun _ _ _ q => q⟩⟩
  exact ⟨hide p G2, l.step hx, gg, fun _ _ _ z => z⟩
theorem Loo.test {G0 H0 : Hp} {p : Addr} (l : Loo K B G0 H0 G H p ds) (k : ∀ G1, Ex G G1 → Dp K G1 (.ref p) (.list ds) → EvB K B tt σ G1 b) {Q : Bool → Hp → Prop} (q : ∀ G2 H2, Loo K B G0 H0 G2 H2 p ds → Ex G G2 → Q b H2) : tt σ H Q := by
  obtain ⟨G1, e1, o1, d1, z⟩ := l.see
  refine k G1 e1 d1 H o1 Q fun G2 H2 X => ?_
  obtain ⟨G3, l3, e3, _⟩ := z G2 H2 X
  exact q G3 H2 l3 e3
theorem sq_ifL {G0 H0 : Hp} {p : Addr} {w : TS} (l : Loo K B G0 H0 G H p ds) (k : ∀ G1, Ex G G1 → Dp K G1 (.ref p) (.list ds) → EvB K B tt σ G1 b) (k1 : b = true → ∀ G2 H2, Loo K B G0 H0 G2 H2 p ds → Ex G G2 → t D σ H2) (k2 : b = false → ∀ G2 H2, Loo K B G0 H0 G2 H2 p ds → Ex G G2 → D.nx σ H2) : tIfS tt t tNext D σ H := l.test k fun G2 H2 l2 e2 => by
  cases b with
  | true =>
    rw [if_pos rfl]
    exact k1 rfl G2 H2 l2 e2
  | false =>
    rw [ifF]
    exact k2 rfl G2 H2 l2 e2
/-- tuple(xs) -/
theorem ed_tupOf (h : EvD K B ta σ G (.list ds)) : EvD K B (tCB (rTupS K) (tCons ta tNil)) σ G (.tuple ds) := fun H e Q q =>
  h H e _ fun v G2 H2 X dv => by
    obtain ⟨a, xs, rfl, hs, hx⟩ := dp_lst dv
    exact ⟨a, xs, rfl, .inl ⟨ex_l X.ok.e hs, fun p hp => q _ _ _ (X.trans (Ext.new X.ok hp)) (.tup (SqT.of upd_same) (dpAll_mono (Ex.new (X.ok.e.off hp)) hx))⟩⟩
/-! ### a dict that grows -/
structure LoD (K : Fg) (B : Bg) (G0 H0 G H : Hp) (p : Addr) (kvs : List (Key × V)) : Prop where
  x : Ext K B G0 H0 G H
  h0 : H0 p = none
  g : G p = none
  nb : ¬ isB B p
  h : H p = some (.dK kvs)
theorem LoD.step {G0 H0 G2 H2 : Hp} {p : Addr} {kvs : List (Key × V)} (l : LoD K B G0 H0 G H p kvs) (X : Ext K B G H G2 H2) : LoD K B G0 H0 G2 H2 p kvs := ⟨l.x.trans X, l.h0, X.fr p _ l.h l.g, l.nb, X.hh p _ l.nb l.h⟩
theorem LoD.put {G0 H0 : Hp} {p : Addr} {kvs : List (Key × V)} (kvs' : List (Key × V)) (l : LoD K B G0 H0 G H p kvs) : LoD K B G0 H0 G (upd H p (.dK kvs')) p kvs' := ⟨⟨l.x.gg, fun a o n z => by
  rw [upd_ne (ne_of_none z l.h0)]
  exact l.x.hh a o n z, l.x.fr, l.x.ok.mut l.g l.nb⟩, l.h0, l.g, l.nb, upd_same⟩
theorem LoD.frz {G0 H0 : Hp} {p : Addr} {kvs : List (Key × V)} (l : LoD K B G0 H0 G H p kvs) : Ext K B G0 H0 (upd G p (.dK kvs)) H := l.x.freeze l.h0 l.g l.nb l.h
/-- d[k], d known -/
theorem ed_dget {p : Addr} {kvs : List (Key × V)} {ty : TE} {i : Nat} {k : Int} {v : V} (hσ : σ[i]? = some (some (.ref p))) (hp : G p = some (.dK kvs)) (hy : EvD K B ty σ G (.int k)) (hv : valV kvs (Sum.inl k) = some v) (dv : Dp K G v d) : EvD K B (tDGet (tVar i) ty) σ G d := fun H e Q q =>
  ⟨.ref p, hσ, hy H e _ fun w G2 H2 X dw => by
    obtain rfl := dp_int dw
    refine ⟨p, v, rfl, ?_, q v G2 H2 X (dp_mono X.gg dv)⟩
    rw [← hv]
    exact DGet.k (k := Sum.inl k) (X.ok.e _ _ (X.gg _ _ hp))⟩
/-! ### the same item again and again -/
theorem rep_flat (n : Nat) (d : PyData) : (List.replicate n [d]).flatten = List.replicate n d := by
  induction n with
  | zero => rfl
  | succ n ih => rw [List.replicate_succ, List.flatten_cons, ih]; rfl
theorem rd_repT {n : Int} (h : 2 ≤ n ∧ n ≤ 1000) : RvD K B (rRepT K) G (.tuple [d]) (.int n) (.tuple (List.replicate n.toNat d)) := fun u v G2 H2 _ e du dv Q q => by
  obtain ⟨a, xs, rfl, hs, hx⟩ := dp_tup du
  refine ⟨a, n, xs, rfl, dp_int dv, ex_t e.e hs, fun z => ?_, h.1, h.2, ?_, fun p hp => q _ _ _ (Ext.new e hp) (.tup (SqT.of upd_same) (dpAll_mono (Ex.new (e.e.off hp)) ?_))⟩
  · subst z
    cases hx
  · rw [dpAll_len hx]
    exact Nat.le_of_ble_eq_true rfl
  · rw [← rep_flat]
    generalize n.toNat = m
    induction m with
    | zero => exact .nil
    | succ m ih =>
      simp only [List.replicate_succ, List.flatten_cons]
      exact dpAll_app hx ih
end
end Lw

namespace Lw
open PySem.Spec PySem L2 PyProof.Rows
open Evl (Ex Ex.refl Ex.trans Ex.new Ex.off ex_rd ex_l ex_t)
/-! ### list comprehensions of any number of clauses -/
/-- what stands behind the tests of clause k - 1: clause k, or the item -/
def innW (M : Model) (A : Around) (elt : Expr) (gens : List Comprehension) (scope : Scope) (pos : Pos) (k : Nat) (acc : Value) (env : Env) (E : Value → Shared → Prop) (Nx : Shared → Prop) (s : Shared) : Prop :=
  match gens[k]? with
  | some g => wpAny M A (eval g.iter env) (fun x s1 => wpAny M A (pyIter x) (fun j s2 => codeAny M A (.compStart (.ListComp elt gens scope pos) k j acc env) (fun r s3 => match r with
      | .ok _ => Nx s3
      | .error _ => False) s2) E s1) E s
  | none => wpAny M A (eval elt env) (fun x s1 => wpAny M A (call (.builtin "list.append") [acc, x]) (fun _ s2 => Nx s2) E s1) E s
/-- one turn of a clause -/
def turnW (M : Model) (A : Around) (tg : Expr) (ifs : List Expr) (it : Value) (env : Env) (E : Value → Shared → Prop) (Stop : Shared → Prop) (Inn Nx : Shared → Prop) (s : Shared) : Prop :=
  wpAny M A (pyNext it) (fun r s1 => match r with
    | none => Stop s1
    | some v => wpAny M A (letOwnedTupleGo tg it v) (fun _ s2 => wpAny M A (assign tg env v) (fun _ s3 =>
        wpAny M A (forIn ifs true fun c r => if r = true then (do
          let ok ← isTrue c env (eval c env)
          pure (ForInStep.yield ok)) else pure (ForInStep.yield r)) (fun b s4 => if b = true then Inn s4 else Nx s4) E s3) E s2) E s1) E s
section
variable {prog : Program} {w : World} {A : Around} {R : Result → Shared → Prop} {s : Shared} {elt tg iter : Expr} {ifs : List Expr} {gens : List Comprehension} {scope : Scope} {pos : Pos} {it acc : Value} {env : Env} {k : Nat}
theorem loop_turns (hk : gens[k]? = some ⟨tg, iter, ifs, 0⟩) (hn : ∀ g, gens[k + 1]? = some g → g.is_async = 0 ∧ ∀ x, foldedSetIterable g.iter env x = pure x) (I : Nat → Shared → Prop)
    (turn : ∀ n s, I n s → turnW (model prog w) A tg ifs it env (notedBy (model prog w) A env fun e s' => R (.error e) s') (fun s' => R (.ok .next) s')
      (innW (model prog w) A elt gens scope pos (k + 1) acc env (notedBy (model prog w) A env fun e s' => R (.error e) s') fun s' => ∃ m, m < n ∧ I m s') (fun s' => ∃ m, m < n ∧ I m s') s)
    (n : Nat) (h : I n s) : codeAny (model prog w) A (.compLoop (.ListComp elt gens scope pos) k it acc env) R s := by
  refine codeAny_loop rfl I (fun m t hI => ?_) n h
  show wpAny _ A ((compTurn (.ListComp elt gens scope pos) k it acc env).onRaise fun x => do
    noteFrame x env
    theTreesLotGoes x) _ _ t
  refine wpAny_noted ?_
  have z := turn m t hI
  unfold turnW at z
  unfold compTurn
  simp only [hk]
  refine wpAny_bind (wpAny_standAt (wpAny_bind (wpAny_mono z (fun r t1 h1 => ?_) fun _ _ q => q)))
  cases r with
  | none => exact wpAny_pure h1
  | some v =>
    refine wpAny_bind (wpAny_mono h1 (fun _ t2 h2 => ?_) fun _ _ q => q)
    refine wpAny_bind (wpAny_mono h2 (fun _ t3 h3 => ?_) fun _ _ q => q)
    refine wpAny_bind (wpAny_mono h3 (fun b t4 h4 => ?_) fun _ _ q => q)
    cases b with
    | false => exact wpAny_pure ⟨rfl, h4⟩
    | true =>
      have h4 : innW (model prog w) A elt gens scope pos (k + 1) acc env _ _ t4 := h4
      unfold innW at h4
      cases hg : gens[k + 1]? with
      | none =>
        rw [hg] at h4
        simp only [hg]
        show wpAny _ A ((do
          let _ ← call (.builtin "list.append") [acc, ← eval elt env]) >>= fun _ => again (.compLoop (.ListComp elt gens scope pos) k it acc env)) _ _ _
        refine wpAny_bind (wpAny_bind (wpAny_mono h4 (fun x t5 h5 => ?_) fun _ _ q => q))
        exact wpAny_bind (wpAny_mono h5 (fun _ t6 h6 => wpAny_pure (wpAny_pure ⟨rfl, h6⟩)) fun _ _ q => q)
      | some g =>
        rw [hg] at h4
        simp only [hg]
        obtain ⟨ga, gf⟩ := hn g hg
        have gb : (g.is_async != 0) = false := by rw [ga]; rfl
        refine wpAny_bind (wpAny_mono h4 (fun x t5 h5 => ?_) fun _ _ q => q)
        refine wpAny_bind ?_
        refine wpAny_standAt ?_
        simp only [gb, Bool.false_eq_true, if_false]
        refine wpAny_bind (wpAny_of_eq (gf x) (wpAny_bind (wpAny_holding (wpAny_mono h5 (fun j t6 h6 => ?_) fun _ _ q => q))))
        refine wpAny_bind ?_
        refine wpAny_runOwn ?_
        rw [Around.mark_none]
        refine codeAny_mono h6 fun r t7 hr => ?_
        cases r with
        | ok f =>
          first
            | exact wpAny_pure ⟨rfl, hr⟩
            | exact wpAny_bind <| wpAny_pure <| wpAny_pure ⟨rfl, hr⟩
        | error e => exact hr.elim
/-- a clause's start -/
theorem loop_start (hk : gens[k]? = some ⟨tg, iter, ifs, 0⟩) (h0 : codeAny (model prog w) A (.compLoop (.ListComp elt gens scope pos) k it acc env) R s)
    (h : wpAny (model prog w) A (pyIter it) (fun j s' => codeAny (model prog w) A (.compLoop (.ListComp elt gens scope pos) k j acc env) R s') (notedBy (model prog w) A env fun x s' => R (.error x) s') s) :
    codeAny (model prog w) A (.compStart (.ListComp elt gens scope pos) k it acc env) R s := by
  refine codeAny_of_tree ?_
  show wpAny _ _ ((compStart (.ListComp elt gens scope pos) k it acc env).onRaise fun x => do
    noteFrame x env
    standAt theWindowsPlace) _ _ s
  refine wpAny_notedAt ?_
  have hc : (clausesOf (.ListComp elt gens scope pos))[k]? = some ⟨tg, iter, ifs, 0⟩ := hk
  unfold compStart
  simp only [hc]
  refine (show wpAny _ _ (ask >>= _) _ _ s from wpAny_bind (wpAny_askSetting (wpAny_ite ?_)))
  split
  · first
      | exact wpAny_bind <| wpAny_pure <| wpAny_pure ⟨rfl, h0⟩
      | exact wpAny_pure ⟨rfl, h0⟩
  · first
      | exact wpAny_bind (wpAny_rule (wpAny_bind (wpAny_standAt (wpAny_bind (wpAny_mono h (fun j t hj => wpAny_pure (And.intro rfl hj)) fun _ _ q => q)))))
      | (refine wpAny_bind ?_
         refine wpAny_rule ?_
         show wpAny _ _ (standAt iter.pos >>= _) _ _ s
         exact wpAny_bind (wpAny_standAt (wpAny_bind (wpAny_mono h (fun j t hj => wpAny_pure (And.intro rfl hj)) fun _ _ q => q))))
end
/-- what a body of a clause asks: the new list, the slots, the heap, what is to be reached -/
abbrev TBd := Addr → L2.St → Hp → (Hp → Prop) → Prop
def bE (te : TE) : TBd := fun D σ H Nx => te σ H fun y H4 => ∃ acc, H4 D = some (.lst acc) ∧ acc.length < sizeLine ∧ Nx (upd H4 D (.lst (acc ++ [y])))
/-- the turns of a clause: `Z` at its end -/
def tTurns (J : It) (g : TG) (tt : TT) (tb : TBd) (vs : List Nat) (D : Addr) (σ : L2.St) (H1 : Hp) (Z : Hp → Prop) : Prop :=
  ∃ W : Nat → Nat → Hp → Prop, (∃ m, W 0 m H1) ∧ ∀ i m H, W i m H →
    (J.stop i H ∧ Z H) ∨ (J.go i H ∧ ∃ Nx : Hp → Prop, (∀ H', Nx H' → ∃ m', m' < m ∧ W (i + 1) m' H') ∧ ∀ x H', J.yld i H x H' →
      g x (wipe σ vs) H' fun σ2 H2 => wipe σ2 vs = wipe σ vs ∧ tt σ2 H2 fun b H3 => if b = true then tb D σ2 H3 Nx else Nx H3)
def bF (wi : TI) (g : TG) (tt : TT) (tb : TBd) (vs : List Nat) : TBd := fun D σ H Nx => wi σ H fun J H4 => tTurns J g tt tb vs D σ H4 Nx
def tLcB (wi : TI) (g : TG) (tt : TT) (tb : TBd) (vs : List Nat) : TE := fun σ H Q => wi σ H fun J H1 => ∀ D, H1 D = none → tTurns J g tt tb vs D σ (upd H1 D (.lst [])) fun H2 => Q (.ref D) H2
/-- the body behind clause k - 1 -/
structure PBd (Y : Cx) (elt : Expr) (gens : List Comprehension) (scope : Scope) (pos : Pos) (k : Nat) (vs : List Nat) (tb : TBd) : Prop where
  syn : ∀ g, gens[k]? = some g → g.is_async = 0 ∧ ∀ x, foldedSetIterable g.iter Y.env x = pure x
  run : ∀ (D : Addr) (pins : List (Addr × Obj)) (s : Shared) (σ : L2.St) (H : Hp) (Nx : Hp → Prop) (E : Value → Shared → Prop), Inv Y pins σ H s → tb D σ H Nx →
    innW (model Y.prog Y.w) Y.A elt gens scope pos k (.ref D) Y.env E (fun s' => ∃ σ' H', Inv Y pins σ' H' s' ∧ σ'.length = σ.length ∧ (∀ (j : Nat) v, j ∉ vs → σ[j]? = some (some v) → σ'[j]? = some (some v)) ∧ Nx H') s
section
variable {Y : Cx} {elt tg iter : Expr} {ifs : List Expr} {gens : List Comprehension} {scope : Scope} {pos : Pos} {k : Nat}
theorem pb_elt {te : TE} (hx : Y.xe = fun _ _ => False) (hk : gens[k]? = none) (he : PE Y elt te) : PBd Y elt gens scope pos k [] (bE te) where
  syn := fun g hg => by
    rw [hk] at hg
    cases hg
  run := fun D pins s σ H Nx E I h => by
    unfold innW
    rw [hk]
    have z := he.run pins s σ H _ I h
    rw [hx] at z
    refine thnF z fun u s1 h1 => ?_
    obtain ⟨y, H1, I1, r1, acc, hD, hz, nx⟩ := h1
    exact app_ok I1 hD hz r1 fun s2 I2 => ⟨σ, _, I2, rfl, fun _ _ _ e => e, nx⟩
/-- the turns of a clause, from an iterator on -/
theorem turns_run {J : It} {fp : List Addr} {it : Addr} {tn : Nat → Heap → Prop} {g : TG} {tt : TT} {tb : TBd} {vs vs' : List Nat} {D : Addr} {σ : L2.St} {H1 : Hp} {s1 : Shared} {pins : List (Addr × Obj)} {Z : Hp → Prop} {R : Result → Shared → Prop}
    (hx : Y.xe = fun _ _ => False) (hc : Y.calm = true) (hk : gens[k]? = some ⟨tg, iter, ifs, 0⟩) (hg : PG Y tg g) (ht : PTs Y ifs tt) (hv : ∀ i ∈ vs', i ∈ vs) (hb : PBd Y elt gens scope pos (k + 1) vs' tb)
    (T : Turn Y.prog Y.w Y.K tg J fp it tn) (I1 : Inv Y pins (wipe σ vs) H1 s1) (st : tn 0 s1.heap) (fo : ∀ H', (∀ b ∈ fp, H' b = none) → ∀ b ∈ fp, FpOk Y pins H' b) (fn : ∀ b ∈ fp, H1 b = none)
    (hT : tTurns J g tt tb vs D σ H1 Z) (hR : ∀ H' s', Inv Y pins (wipe σ vs) H' s' → Z H' → R (.ok .next) s') :
    codeAny (model Y.prog Y.w) Y.A (.compLoop (.ListComp elt gens scope pos) k (.ref it) (.ref D) Y.env) R s1 := by
  obtain ⟨W, ⟨m0, w0⟩, turn⟩ := hT
  refine loop_turns hk hb.syn (fun n s' => ∃ i H', Inv Y pins (wipe σ vs) H' s' ∧ tn i s'.heap ∧ (∀ b ∈ fp, H' b = none) ∧ W i n H') ?_ m0 ⟨0, H1, I1, st, fn, w0⟩
  intro n s5 inv
  obtain ⟨i, H5, I5, st5, n5, w5⟩ := inv
  unfold turnW
  rcases turn i n H5 w5 with ⟨stop, zz⟩ | ⟨go, Nx, hNx, step⟩
  · refine thnF (T.done Y rfl rfl rfl hc i pins s5 _ H5 (fun _ _ => False) I5 (fo H5 n5) st5 stop) fun r s6 hr => ?_
    obtain ⟨rfl, I6⟩ := hr
    exact hR H5 s6 I6 zz
  · refine thnF (T.item Y rfl rfl rfl hc i pins s5 _ H5 (fun _ _ => False) I5 (fo H5 n5) st5 go) fun r s6 hr => ?_
    obtain ⟨u, rfl, h6⟩ := hr
    refine thnF h6 fun _ s7 h7 => ?_
    obtain ⟨x, H7, I7, r7, y7, st7, n7⟩ := h7
    have J7 := I7.pinned (fo H7 n7) (T.obj _ _ st7)
    have z8 := hg.run _ s7 _ H7 x u _ J7 r7 (step x H7 y7)
    rw [hx] at z8
    refine thnF z8 fun _ s8 h8 => ?_
    obtain ⟨σ8, H8, I8, hw8, q8⟩ := h8
    have z9 := ht.run _ s8 σ8 H8 _ I8 q8
    rw [hx] at z9
    refine thnF z9 fun b s9 h9 => ?_
    obtain ⟨H9, I9, q9⟩ := h9
    have l8 : (wipe σ vs).length = σ8.length := by
      rw [← hw8]
      exact wipe_length σ8 vs
    have k8 : ∀ (j : Nat) v, (wipe σ vs)[j]? = some (some v) → σ8[j]? = some (some v) ∧ j ∉ vs := fun j v e => by
      rw [← hw8] at e
      exact wipe_some e
    have fin : ∀ {σ9 : L2.St} {t : Shared} {H' : Hp}, Inv Y (pins ++ pinsAt fp s7.heap) σ9 H' t → σ9.length = σ8.length → (∀ (j : Nat) v, j ∉ vs' → σ8[j]? = some (some v) → σ9[j]? = some (some v)) → Nx H' →
        ∃ m, m < n ∧ ∃ i H', Inv Y pins (wipe σ vs) H' t ∧ tn i t.heap ∧ (∀ b ∈ fp, H' b = none) ∧ W i m H' := fun {σ9 t H'} I' hl hk nx => by
      rcases hNx H' nx with ⟨m', hm, w'⟩
      have pn : ∀ b ∈ fp, ∀ o, s7.heap.get? b = some o → t.heap.get? b = some o ∧ H' b = none := fun b hb o e =>
        have z := I'.pin (b, o) (List.mem_append_right _ (List.mem_append_right _ (mem_pinsAt hb e)))
        ⟨z.1, z.2.1⟩
      refine ⟨m', hm, i + 1, H', I'.unpinned.weak (l8.trans hl.symm) (fun j v e => hk j v (fun c => (k8 j v e).2 (hv j c)) (k8 j v e).1), T.keep _ _ _ st7 (fun b hb o e => (pn b hb o e).1), fun b hb => ?_, w'⟩
      exact (T.obj _ _ st7 b hb).elim fun o z => (pn b hb o z.1).2
    cases b with
    | false =>
      have q9 : Nx H9 := q9
      exact fin I9 rfl (fun _ _ _ e => e) q9
    | true =>
      have q9 : tb D σ8 H9 Nx := q9
      have z := hb.run D _ s9 σ8 H9 Nx (notedBy (model Y.prog Y.w) Y.A Y.env fun e s' => R (.error e) s') I9 q9
      show innW _ _ _ _ _ _ _ _ _ _ _ _
      unfold innW at z ⊢
      cases hq : gens[k + 1]? with
      | none =>
        rw [hq] at z
        exact wpAny_mono z (fun x t1 h1 => wpAny_mono h1 (fun _ t2 h2 => by
          obtain ⟨σ', H', I', a, b, c⟩ := h2
          exact fin I' a b c) fun _ _ e => e) fun _ _ e => e
      | some g' =>
        rw [hq] at z
        exact wpAny_mono z (fun x t1 h1 => wpAny_mono h1 (fun _ t2 h2 => codeAny_mono h2 fun r t3 h3 => by
          cases r with
          | ok f =>
            obtain ⟨σ', H', I', a, b, c⟩ := h3
            exact fin I' a b c
          | error e => exact h3) fun _ _ e => e) fun _ _ e => e
theorem pb_for {wi : TI} {g : TG} {tt : TT} {tb : TBd} {vs vs' : List Nat} (hx : Y.xe = fun _ _ => False) (hc : Y.calm = true) (hk : gens[k]? = some ⟨tg, iter, ifs, 0⟩) (hi : PI Y tg iter wi) (hg : PG Y tg g) (ht : PTs Y ifs tt) (hv : ∀ i ∈ vs', i ∈ vs)
    (hb : PBd Y elt gens scope pos (k + 1) vs' tb) (hs : ∀ x, foldedSetIterable iter Y.env x = pure x := by intro _; rfl) : PBd Y elt gens scope pos k vs (bF wi g tt tb vs) where
  syn := fun g hg => by
    rw [hk] at hg
    obtain rfl := Option.some.inj hg
    exact ⟨rfl, hs⟩
  run := fun D pins s σ H Nx E I h => by
    unfold innW
    rw [hk]
    have z := hi.run pins s σ H _ I h
    rw [hx] at z
    refine thnF z fun u s1 h1 => thnF h1 fun itv s2 h2 => ?_
    rcases h2 with ⟨it, fp, tn, J, H2, rfl, I2, T, st2, f2, q⟩
    have lp := turns_run (s1 := s2) (Z := Nx) (R := fun r s3 => match r with
      | .ok _ => ∃ σ' H', Inv Y pins σ' H' s3 ∧ σ'.length = σ.length ∧ (∀ (j : Nat) v, j ∉ vs → σ[j]? = some (some v) → σ'[j]? = some (some v)) ∧ Nx H'
      | .error _ => False) hx hc hk hg ht hv hb T (I2.weak (wipe_length _ _) fun j v e => (wipe_some e).1) st2 (fun H' hn b hb => ⟨hn b hb, (f2 b hb).2⟩) (fun b hb => (f2 b hb).1) q
      fun H' s' I' zz => ⟨wipe σ vs, H', I', wipe_length _ _, fun j v hj e => by rw [wipe_out hj]; exact e, zz⟩
    exact loop_start hk lp (T.self Y.A 0 _ _ _ st2 lp)
end
section
variable {X : Cx} {elt tg iter : Expr} {ifs : List Expr} {gr : List Comprehension} {scope : Scope} {pos : Pos}
theorem lcB_core {pins : List (Addr × Obj)} {s : Shared} {σ : L2.St} {H : Hp} {Q : VK} {own : List (Str × Nat)} {vs' : List Nat} {pos' : Pos} {wi : TI} {g : TG} {tt : TT} {tb : TBd} {use : Option (Value → Sem Unit)} {Qf : Value → Shared → Prop}
    (hc : X.calm = true) (hN : X.N.Nodup) (I : Inv X pins σ H s) (hi : PI X tg iter wi) (ok : BlkOk X.N X.env.scope scope own) (hv : ∀ i ∈ vs', i ∈ own.map (·.2))
    (hg : ∀ (s : Shared) (H : Hp) (C : Addr) (cl : List (Str × Addr)) (fp : List Addr), PG (X.blk s H scope (compEnvC scope cl C X.env) fp) tg g)
    (ht : ∀ (s : Shared) (H : Hp) (C : Addr) (cl : List (Str × Addr)) (fp : List Addr), PTs (X.blk s H scope (compEnvC scope cl C X.env) fp) ifs tt)
    (hb : ∀ (s : Shared) (H : Hp) (C : Addr) (cl : List (Str × Addr)) (fp : List Addr), PBd (X.blk s H scope (compEnvC scope cl C X.env) fp) elt (⟨tg, iter, ifs, 0⟩ :: gr) scope pos 1 vs' tb)
    (hs : ∀ x, foldedSetIterable iter X.env x = pure x) (h : tLcB wi g tt tb (own.map (·.2)) σ H Q)
    (hRR : ∀ (D C : Addr) (s' : Shared) (m : Str → Option Value) (H' : Hp), Inv X pins σ H' s' → Q (.ref D) H' → s'.heap.Ns C m → FpOk X pins H' C → compPost (model X.prog X.w) X.A X.xe use Qf (.ref D) C (.ok .next) s') :
    wpAny (model X.prog X.w) X.A (comprehension (.ListComp elt (⟨tg, iter, ifs, 0⟩ :: gr) scope pos) scope X.env pos' (newList []) false (eval iter X.env) use) Qf X.xe s := by
  have fr : ∀ y ∈ scope.names, y.2 = .free → ∃ c, X.env.cells.lookup y.1 = some c := fun y hy e => (ok.free y hy e).elim (fun z => I.ok.has _ (.inl z)) fun z => I.ok.has _ (.inr z)
  refine wpAny_comprehension_free (use := use) rfl hs (closure_ok fr) ok.kind (fun y hy e => (by rw [ok.uniq y hy, e] : scope.names.lookup y.1 = some .local)) ?_
  refine thn (hi.run pins s σ H _ I h) fun u t1 h1 => thn h1 fun itv t2 h2 => ?_
  rcases h2 with ⟨it, fp, tn, J, H2, rfl, I2, T, st2, f2, q⟩
  refine wpAny_newObj_type (newEnv_comp ?_) (Nat.zero_le _)
  generalize eD : t2.heap.objs.size = D
  have nD : H2 D = none := I2.hok.fresh (Nat.le_of_eq eD)
  have qT := q D nD
  generalize e3 : ({ t2 with heap := t2.heap.push { cls := .type "list", data := .seq ([] : List Value).toArray } } : Shared) = t3
  have hp3 : t3.heap = t2.heap.push { cls := .type "list", data := .seq ([] : List Value).toArray } := by rw [← e3]
  have I3 : Inv X pins σ (upd H2 D (.lst [])) t3 := by
    rw [← e3]
    refine I2.laid (t' := t2.toks) (fun b o e => Heap.get?_push_of_some _ e) (Nat.le_of_eq eD) ⟨Nat.zero_le _, [], 0, .nil, ?_⟩
    exact eD ▸ Heap.get?_push_size _ rfl
  have lt2 : ∀ b ∈ fp, b < t2.heap.objs.size := fun b hb => (T.obj _ _ st2 b hb).elim fun o z => Heap.lt_size z.1
  have f3 : ∀ b ∈ fp, FpOk X pins (upd H2 D (.lst [])) b ∧ b < t3.heap.objs.size := fun b hb =>
    ⟨⟨by rw [upd_ne (by rw [← eD]; exact Nat.ne_of_lt (lt2 b hb))]; exact (f2 b hb).1, (f2 b hb).2⟩, by rw [hp3, Heap.size_push]; exact Nat.lt_succ_of_lt (lt2 b hb)⟩
  have st3 : tn 0 t3.heap := T.keep _ _ _ st2 fun b _ o e => hp3 ▸ Heap.get?_push_of_some _ e
  have I4 := block_start (X := X) (pins := pins) I3 ok hN f3
  generalize ecl : cellsFrom (t3.heap.objs.size + 1) scope.names (cloFrom X.env.cells scope.names []) = cl at I4
  generalize e4 : ({ t3 with heap := pushCells (t3.heap.push { cls := .type "dict", data := .dict #[] }) scope.names } : Shared) = t4 at I4
  have st4 : tn 0 t4.heap := T.keep _ _ _ st3 fun b _ o e => by
    rw [← e4]
    exact pushCells_keeps _ _ _ _ (Heap.get?_push_of_some _ e)
  have pg := hg t3 (upd H2 D (.lst [])) t3.heap.objs.size cl fp
  have pt := ht t3 (upd H2 D (.lst [])) t3.heap.objs.size cl fp
  have pb := hb t3 (upd H2 D (.lst [])) t3.heap.objs.size cl fp
  have lp := turns_run (Y := X.blk t3 (upd H2 D (.lst [])) scope (compEnvC scope cl t3.heap.objs.size X.env) fp) (s1 := t4) (pins := []) (Z := fun H' => Q (.ref D) H') (R := compPost (model X.prog X.w) X.A X.xe use Qf (.ref D) t3.heap.objs.size) rfl hc rfl pg pt hv pb T I4 st4
    (fun H' hn b hb => ⟨hn b hb, (I4.ok.exf b hb).1, I4.ok.exfs b hb, .inl hb, fun x c e => (I4.ok.exf b hb).2 x c e, fun p hp => absurd hp List.not_mem_nil⟩) (fun b hb => (f3 b hb).1.1) qT
    fun H5 s6 I6 zz => by
      have I7 : Inv X pins σ H5 s6 := I3.call' (ch := fp) I6.os I6.base I6.hok I6.bare fun b hb =>
        have z := (f3 b hb).1.2
        ⟨z.2.2.1, z.1, z.2.2.2.1, z.2.2.2.2⟩
      obtain ⟨m, hn, _⟩ := I6.loc
      exact hRR D t3.heap.objs.size s6 m H5 I7 zz hn (I3.fpOk (Nat.le_refl _) I6.free)
  subst eD e4 ecl
  exact codeAny_compStart_list lp (T.self X.A 0 _ _ _ st4 lp)
/-- as a value -/
theorem pe_lcB {own : List (Str × Nat)} {vs' : List Nat} {wi : TI} {g : TG} {tt : TT} {tb : TBd} (hc : X.calm = true) (hN : X.N.Nodup) (hi : PI X tg iter wi) (ok : BlkOk X.N X.env.scope scope own) (hv : ∀ i ∈ vs', i ∈ own.map (·.2))
    (hg : ∀ (s : Shared) (H : Hp) (C : Addr) (cl : List (Str × Addr)) (fp : List Addr), PG (X.blk s H scope (compEnvC scope cl C X.env) fp) tg g)
    (ht : ∀ (s : Shared) (H : Hp) (C : Addr) (cl : List (Str × Addr)) (fp : List Addr), PTs (X.blk s H scope (compEnvC scope cl C X.env) fp) ifs tt)
    (hb : ∀ (s : Shared) (H : Hp) (C : Addr) (cl : List (Str × Addr)) (fp : List Addr), PBd (X.blk s H scope (compEnvC scope cl C X.env) fp) elt (⟨tg, iter, ifs, 0⟩ :: gr) scope pos 1 vs' tb) (hs : ∀ x, foldedSetIterable iter X.env x = pure x := by intro _; rfl) :
    PE X (.ListComp elt (⟨tg, iter, ifs, 0⟩ :: gr) scope pos) (tLcB wi g tt tb (own.map (·.2))) := by
  constructor
  intro pins s σ H Q I h
  rw [eval_ListComp]
  refine lcB_core hc hN I hi ok hv hg ht hb hs h fun D C s' m H' I' q hn f => ⟨m, hn, fun h2 sb => ?_⟩
  exact ⟨.ref D, H', I'.turned (t' := s'.toks) (fun b o hb e => (sb.2 b hb).trans e) f.1 f.2.1 f.2.2.2.1 f.2.2.2.2.1 f.2.2.2.2.2, rfl, q⟩
end
end Lw

namespace Lw
open PySem.Spec PySem L2 PyProof.Rows
open Evl (Ex Ex.refl Ex.trans Ex.new Ex.off ex_rd ex_l ex_t)
section
variable {K : Fg} {B : Bg} {G G' H : Hp} {σ : L2.St} {te ta : TE} {tr : TA} {tt : TT} {tb : TBd} {d : PyData} {ds es new : List PyData}
/-- a body that appends `new` -/
def EvBd (K : Fg) (B : Bg) (tb : TBd) (σ : L2.St) (G : Hp) (new : List PyData) : Prop :=
  ∀ (D : Addr) (G1 H1 G3 H3 : Hp) (xs : List V) (es : List PyData) (Nx : Hp → Prop), Ex G G3 → Cel K B G → H1 D = none → ¬ isB B D → Ext K B G1 H1 G3 H3 → G3 D = none → H3 D = some (.lst xs) → DpAll K G3 xs es → es.length + new.length ≤ 100000 →
    (∀ G4 H4 ys, Ext K B G1 H1 G4 H4 → Ex G3 G4 → G4 D = none → H4 D = some (.lst ys) → DpAll K G4 ys (es ++ new) → Nx H4) → tb D σ H3 Nx
theorem EvBd.is {m : List PyData} (h : EvBd K B tb σ G new) (e : new = m) : EvBd K B tb σ G m := e ▸ h
theorem EvBd.mono (e : Ex G G') (c : Cel K B G) (h : EvBd K B tb σ G new) : EvBd K B tb σ G' new := fun D G1 H1 G3 H3 xs es Nx e3 _ => h D G1 H1 G3 H3 xs es Nx (e.trans e3) c
theorem bd_E (h : EvD K B te σ G d) : EvBd K B (bE te) σ G [d] := fun D G1 H1 G3 H3 xs es Nx e3 c hD nb X g3 h3 hx hl k => by
  refine h.mono e3 c H3 X.ok _ fun y G5 H5 X5 dy => ?_
  have h5 := X5.hh D _ nb h3
  have g5 := X5.fr D _ h3 g3
  have z : es.length + 1 ≤ 100000 := hl
  refine ⟨xs, h5, by rw [dpAll_len hx]; exact szl (by omega), ?_⟩
  have Y := X.trans X5
  refine k G5 _ (xs ++ [y]) ⟨Y.gg, fun a u n q => ?_, Y.fr, Y.ok.mut g5 nb⟩ X5.gg g5 upd_same (dpAll_app (dpAll_mono X5.gg hx) (.cons dy .nil))
  rw [upd_ne (ne_of_none q hD)]
  exact Y.hh a u n q
/-- a test ahead of it -/
theorem bd_T {b : Bool} (ht : EvB K B tt σ G b) (h : b = true → EvBd K B tb σ G new) (hn : b = false → new = []) : EvBd K B (fun D σ H Nx => tt σ H fun c H3 => if c = true then tb D σ H3 Nx else Nx H3) σ G new := fun D G1 H1 G3 H3 xs es Nx e3 c hD nb X g3 h3 hx hl k => by
  refine ht.mono e3 c H3 X.ok _ fun G4 H4 X4 => ?_
  have g4 := X4.fr D _ h3 g3
  have h4 := X4.hh D _ nb h3
  have a4 := dpAll_mono X4.gg hx
  cases b with
  | false =>
    show (if false = true then _ else _)
    rw [ifF]
    refine k G4 H4 xs (X.trans X4) X4.gg g4 h4 ?_
    rw [hn rfl, List.append_nil]
    exact a4
  | true =>
    refine (show (if true = true then _ else _) from ?_)
    rw [if_pos rfl]
    exact h rfl D G1 H1 G4 H4 xs es Nx (e3.trans X4.gg) c hD nb (X.trans X4) g4 h4 a4 hl fun G5 H5 ys X5 e5 => k G5 H5 ys X5 (X4.gg.trans e5)
theorem wipe_set {i : Nat} {v : V} : ∀ {vs : List Nat} {σ : L2.St}, i ∈ vs → wipe ((wipe σ vs).set i (some v)) vs = wipe σ vs := by
  intro vs σ hi
  apply List.ext_getElem?
  intro j
  by_cases c : j ∈ vs
  · have z : ∀ {us : List Nat} {τ : L2.St}, j ∈ us → (wipe τ us)[j]? = if j < τ.length then some none else none := by
      intro us
      induction us with
      | nil => intro τ h; cases h
      | cons u us ih =>
        intro τ h
        unfold wipe
        by_cases e : u = j
        · subst e
          rw [List.getElem?_set]
          rw [if_pos rfl, wipe_length]
        · rw [List.getElem?_set_ne e]
          exact ih ((List.mem_cons.mp h).resolve_left fun q => e q.symm)
    rw [z c, z c, List.length_set, wipe_length]
  · rw [wipe_out c, wipe_out c, List.getElem?_set_ne (fun e : i = j => c (by rw [← e]; exact hi)), wipe_out c]
theorem turns_range {n i : Nat} {vs : List Nat} {D : Addr} {H1 : Hp} {Z : Hp → Prop} (Pv : Nat → Hp → Prop) (hi : i ∈ vs) (h0 : Pv 0 H1)
    (hs : ∀ (j : Nat) H, j < n → Pv j H → (tt ((wipe σ vs).set i (some (.int (j : Int)))) H fun b H3 => if b = true then tb D ((wipe σ vs).set i (some (.int (j : Int)))) H3 (Pv (j + 1)) else Pv (j + 1) H3)) (hd : ∀ H, Pv n H → Z H) :
    tTurns (Itr 0 n) (gName i) tt tb vs D σ H1 Z := by
  refine ⟨fun j m H => m = n - j ∧ j ≤ n ∧ Pv j H, ⟨n, by omega, Nat.zero_le _, h0⟩, ?_⟩
  rintro j m H ⟨rfl, hj, p⟩
  by_cases c : j < n
  · refine .inr ⟨c, Pv (j + 1), fun H' p' => ⟨n - (j + 1), by omega, rfl, c, p'⟩, fun x H' y => ?_⟩
    obtain ⟨rfl, rfl⟩ := y
    rw [Int.zero_add]
    exact ⟨wipe_set hi, hs j _ c p⟩
  · obtain rfl : j = n := by omega
    exact .inl ⟨Nat.le_refl j, hd H p⟩
theorem flat_one {α β : Type} (f : Nat → List β) (j : Nat) : (List.range (j + 1)).flatMap f = (List.range j).flatMap f ++ f j := by
  rw [List.range_succ, List.flatMap_append, List.flatMap_cons, List.flatMap_nil, List.append_nil]
theorem flat_len {β : Type} (f : Nat → List β) {j n : Nat} (h : j ≤ n) : ((List.range j).flatMap f).length ≤ ((List.range n).flatMap f).length := by
  obtain ⟨m, rfl⟩ := Nat.exists_eq_add_of_le h
  rw [List.range_add, List.flatMap_append, List.length_append]
  omega
/-- for x in range(n) if t, within -/
theorem bd_R {i n : Nat} {vs : List Nat} {b : Nat → Bool} {f : Nat → List PyData} (ha : EvA K B tr σ G [.int (n : Int)]) (hi : i ∈ vs)
    (ht : ∀ j, j < n → EvB K B tt ((wipe σ vs).set i (some (.int (j : Int)))) G (b j)) (hb : ∀ j, j < n → b j = true → EvBd K B tb ((wipe σ vs).set i (some (.int (j : Int)))) G (f j)) (hn : ∀ j, j < n → b j = false → f j = []) (hm : n ≤ 100000) :
    EvBd K B (bF (iRng1 tr) (gName i) tt tb vs) σ G ((List.range n).flatMap f) := fun D G1 H1 G3 H3 xs es Nx e3 c hD nb X g3 h3 hx hl k => by
  refine ha.mono e3 c H3 X.ok _ fun us G4 H4 X4 dv => ?_
  have ev : us = [.int (n : Int)] := by
    cases dv with
    | cons h a =>
      cases a
      rw [dp_int h]
  refine ⟨(n : Int), ev, by omega, by omega, ?_⟩
  show tTurns (Itr 0 (n : Int).toNat) (gName i) tt tb vs D σ H4 Nx
  rw [Int.toNat_natCast]
  refine turns_range (fun j H' => ∃ G' ys, Ext K B G1 H1 G' H' ∧ Ex G3 G' ∧ G' D = none ∧ H' D = some (.lst ys) ∧ DpAll K G' ys (es ++ (List.range j).flatMap f)) hi ⟨G4, xs, X.trans X4, X4.gg, X4.fr D _ h3 g3, X4.hh D _ nb h3, ?_⟩ ?_ ?_
  · rw [List.range_zero, List.flatMap_nil, List.append_nil]
    exact dpAll_mono X4.gg hx
  · rintro j H' hj ⟨G', ys, X', e', g', h', a'⟩
    have lj := flat_len f (show j + 1 ≤ n from hj)
    rw [flat_one (α := Nat), List.length_append] at lj
    refine bd_T (ht j hj) (hb j hj) (hn j hj) D G1 H1 G' H' ys _ _ (e3.trans e') c hD nb X' g' h' a' (by rw [List.length_append]; omega) fun G5 H5 zs X5 e5 g5 h5 a5 => ⟨G5, zs, X5, e'.trans e5, g5, h5, ?_⟩
    rw [flat_one (α := Nat), ← List.append_assoc]
    exact a5
  · rintro H' ⟨G', ys, X', e', g', h', a'⟩
    exact k G' H' ys X' e' g' h' a'
/-- [.. for x in range(n) if t ..] -/
theorem ef_lcBR {i n : Nat} {vs : List Nat} {b : Nat → Bool} {f : Nat → List PyData} (ha : EvA K B tr σ G [.int (n : Int)]) (hi : i ∈ vs)
    (ht : ∀ j, j < n → EvB K B tt ((wipe σ vs).set i (some (.int (j : Int)))) G (b j)) (hb : ∀ j, j < n → b j = true → EvBd K B tb ((wipe σ vs).set i (some (.int (j : Int)))) G (f j)) (hn : ∀ j, j < n → b j = false → f j = []) (hm : n ≤ 100000) (hl : ((List.range n).flatMap f).length ≤ 100000) :
    EvF K B (tLcB (iRng1 tr) (gName i) tt tb vs) σ G ((List.range n).flatMap f) := fun H e Q q =>
  ha H e _ fun us G1 H1 X dv => by
    have ev : us = [.int (n : Int)] := by
      cases dv with
      | cons h a =>
        cases a
        rw [dp_int h]
    refine ⟨(n : Int), ev, by omega, by omega, fun D hD => ?_⟩
    have nb := X.ok.b.ne hD
    show tTurns (Itr 0 (n : Int).toNat) (gName i) tt tb vs D σ (upd H1 D (.lst [])) _
    rw [Int.toNat_natCast]
    refine turns_range (fun j H' => ∃ G' ys, Ext K B G1 H1 G' H' ∧ G' D = none ∧ H' D = some (.lst ys) ∧ DpAll K G' ys ((List.range j).flatMap f)) hi ⟨G1, [], Ext.loose X.ok hD, X.ok.e.off hD, upd_same, .nil⟩ ?_ ?_
    · rintro j H' hj ⟨G', ys, X', g', h', a'⟩
      have lj := flat_len f (show j + 1 ≤ n from hj)
      rw [flat_one (α := Nat), List.length_append] at lj
      refine bd_T (ht j hj) (hb j hj) (hn j hj) D G1 H1 G' H' ys _ _ (X.gg.trans X'.gg) e.c hD nb X' g' h' a' (by omega) fun G5 H5 zs X5 e5 g5 h5 a5 => ⟨G5, zs, X5, g5, h5, ?_⟩
      rw [flat_one (α := Nat)]
      exact a5
    · rintro H' ⟨G', ys, X', g', h', a'⟩
      exact q D ys G' H' (X.trans X') (X.old nb hD) g' nb h' a'
variable {D : Ends} {t : TS}
end
end Lw

namespace Lw
open PySem.Spec PySem L2 PyProof.Rows
open Evl (Ex Ex.refl Ex.trans Ex.new Ex.off ex_rd ex_l ex_t)
/-! ### the round of x -> 5 x + 1 by any power of two -/
def gS : Nat → Nat
  | 0 => 0
  | b + 1 => gS b * 5 + 1
theorem gS_lcg (m : Nat) : ∀ b, lcgN m b = gS b % (m + 1)
  | 0 => (Nat.zero_mod _).symm
  | b + 1 => by
    show (lcgN m b * 5 + 1) % (m + 1) = (gS b * 5 + 1) % (m + 1)
    rw [gS_lcg m b, Nat.add_mod, Nat.mul_mod, Nat.mod_mod, ← Nat.mul_mod, ← Nat.add_mod]
theorem gS_add (a : Nat) : ∀ b, gS (a + b) = gS b * (4 * gS a + 1) + gS a
  | 0 => by
    show gS a = 0 * _ + gS a
    omega
  | b + 1 => by
    show gS (a + b) * 5 + 1 = (gS b * 5 + 1) * (4 * gS a + 1) + gS a
    rw [gS_add a b, Nat.add_mul, Nat.add_mul, Nat.mul_assoc, Nat.mul_comm _ 5, ← Nat.mul_assoc, Nat.mul_assoc (gS b) 5, ← Nat.mul_comm 5]
    have e : gS b * (5 * (4 * gS a + 1)) = 5 * (gS b * (4 * gS a + 1)) := by rw [← Nat.mul_assoc, ← Nat.mul_assoc, Nat.mul_comm (gS b) 5]
    generalize gS b * (4 * gS a + 1) = q at *
    omega
theorem gS_two : ∀ n, ∃ o, gS (2 ^ n) = 2 ^ n * (2 * o + 1)
  | 0 => ⟨0, rfl⟩
  | n + 1 => by
    obtain ⟨o, e⟩ := gS_two n
    have e2 : 2 ^ (n + 1) = 2 ^ n + 2 ^ n := by rw [Nat.pow_succ]; omega
    refine ⟨2 * o * gS (2 ^ n) + o + gS (2 ^ n), ?_⟩
    rw [e2, gS_add]
    generalize hg : gS (2 ^ n) = g at e ⊢
    have e3 : g * (4 * g + 1) + g = g * (2 * (2 * g + 1)) := by
      rw [show 2 * (2 * g + 1) = 4 * g + 1 + 1 by omega, Nat.mul_add g (4 * g + 1) 1, Nat.mul_one]
    rw [e3]
    conv => lhs; rw [e]
    rw [Nat.mul_assoc]
    have e4 : (2 * o + 1) * (2 * (2 * g + 1)) = 2 * (2 * (2 * o * g + o + g) + 1) := by
      rw [Nat.add_mul, Nat.mul_add, Nat.mul_add]
      have : 2 * o * (2 * (2 * g)) = 4 * (2 * o * g) := by
        rw [show 2 * (2 * g) = 4 * g by omega, ← Nat.mul_assoc, Nat.mul_comm (2 * o) 4, Nat.mul_assoc]
      omega
    have e5 : (2 * o + 1) * (2 * (2 * (2 ^ n * (2 * o + 1)) + 1)) = (2 * o + 1) * (2 * (2 * g + 1)) := by rw [← e]
    rw [show 2 ^ n + 2 ^ n = 2 ^ n * 2 by omega, Nat.mul_assoc]
    first
      | rw [e4]
      | (rw [e5, e4])
theorem gS_full : ∀ n j, j < 2 ^ n → ∃ b, b < 2 ^ n ∧ gS b % 2 ^ n = j
  | 0, j, h => ⟨0, by decide, by
    have : j = 0 := by omega
    rw [this]
    rfl⟩
  | n + 1, j, h => by
    have e2 : 2 ^ (n + 1) = 2 ^ n + 2 ^ n := by rw [Nat.pow_succ]; omega
    have pos : 0 < 2 ^ n := Nat.pow_pos (by decide)
    obtain ⟨b, hb, e⟩ := gS_full n (j % 2 ^ n) (Nat.mod_lt _ pos)
    obtain ⟨o, eo⟩ := gS_two n
    have e6 : gS (2 ^ n + b) = gS b + 2 ^ n + (2 ^ n + 2 ^ n) * (2 * gS b * (2 * o + 1) + o) := by
      rw [gS_add, eo, Nat.mul_add, Nat.mul_one]
      have a1 : gS b * (4 * (2 ^ n * (2 * o + 1))) = (2 ^ n + 2 ^ n) * (2 * gS b * (2 * o + 1)) := by
        rw [show 2 ^ n + 2 ^ n = 2 * 2 ^ n by omega]
        generalize 2 ^ n = p
        generalize 2 * o + 1 = r
        generalize gS b = g
        have l1 : g * (4 * (p * r)) = 4 * (p * (g * r)) := by
          rw [Nat.mul_left_comm g 4, Nat.mul_left_comm g p]
        have l2 : 2 * p * (2 * g * r) = 4 * (p * (g * r)) := by
          rw [Nat.mul_assoc 2 g, Nat.mul_assoc 2 p, Nat.mul_left_comm p 2, ← Nat.mul_assoc 2 2]
        rw [l1, l2]
      have a2 : 2 ^ n * (2 * o + 1) = 2 ^ n + (2 ^ n + 2 ^ n) * o := by
        rw [Nat.mul_add, Nat.mul_one, Nat.add_mul, ← Nat.mul_assoc, Nat.mul_comm (2 ^ n) 2, show 2 * 2 ^ n = 2 ^ n + 2 ^ n by omega, Nat.add_mul]
        omega
      rw [a1, a2, Nat.mul_add (2 ^ n + 2 ^ n)]
      omega
    have mo : ∀ x : Nat, x < 2 ^ n + 2 ^ n → x % 2 ^ n = if x < 2 ^ n then x else x - 2 ^ n := fun x hx => by
      split
      · rename_i c
        exact Nat.mod_eq_of_lt c
      · rename_i c
        rw [Nat.mod_eq_sub_mod (by omega), Nat.mod_eq_of_lt (by omega)]
    have hr : gS b % (2 ^ n + 2 ^ n) < 2 ^ n + 2 ^ n := Nat.mod_lt _ (by omega)
    have er : gS b % (2 ^ n + 2 ^ n) % 2 ^ n = j % 2 ^ n := by
      rw [Nat.mod_mod_of_dvd _ ⟨2, by omega⟩, e]
    rw [e2] at h
    rw [mo _ hr, mo j h] at er
    rw [e2]
    by_cases c : gS b % (2 ^ n + 2 ^ n) = j
    · exact ⟨b, by omega, c⟩
    · refine ⟨2 ^ n + b, by omega, ?_⟩
      rw [e6, Nat.add_mul_mod_self_left, Nat.add_mod, Nat.mod_eq_of_lt (show 2 ^ n < 2 ^ n + 2 ^ n by omega)]
      generalize gS b % (2 ^ n + 2 ^ n) = r at *
      by_cases c1 : r < 2 ^ n
      · rw [if_pos c1] at er
        by_cases c2 : j < 2 ^ n
        · rw [if_pos c2] at er
          exact absurd er c
        · rw [if_neg c2] at er
          rw [Nat.mod_eq_of_lt (by omega)]
          omega
      · rw [if_neg c1] at er
        by_cases c2 : j < 2 ^ n
        · rw [if_pos c2] at er
          rw [Nat.mod_eq_sub_mod (by omega), Nat.mod_eq_of_lt (by omega)]
          omega
        · rw [if_neg c2] at er
          omega
/-- the masks that come -/
def Msk (m : Nat) : Prop := ∃ n, 3 ≤ n ∧ n ≤ 13 ∧ m + 1 = 2 ^ n
theorem Msk.le {m : Nat} (h : Msk m) : 7 ≤ m ∧ m ≤ 8191 := by
  obtain ⟨n, h3, h13, e⟩ := h
  have a : 2 ^ 3 ≤ 2 ^ n := Nat.pow_le_pow_right (by decide) h3
  have b : 2 ^ n ≤ 2 ^ 13 := Nat.pow_le_pow_right (by decide) h13
  omega
theorem Msk.all {m : Nat} (h : Msk m) {i j : Nat} (hi : i ≤ m) (hj : j ≤ m) : ∃ k, k ≤ m ∧ lcgI m i k = j := by
  obtain ⟨n, _, _, e⟩ := h
  have one : ∀ j, j ≤ m → ∃ b, b ≤ m ∧ lcgN m b = j := fun j hj => by
    obtain ⟨b, hb, eb⟩ := gS_full n j (by omega)
    exact ⟨b, by omega, by rw [gS_lcg, e]; exact eb⟩
  have round : lcgN m (m + 1) = 0 := by
    obtain ⟨o, eo⟩ := gS_two n
    rw [gS_lcg, e, eo]
    exact Nat.mul_mod_right _ _
  have turn : ∀ k, lcgN m (m + 1 + k) = lcgN m k := fun k => by
    rw [← lcgN_add, round]
    have z := lcgN_add m 0 k
    rw [Nat.zero_add] at z
    exact z
  obtain ⟨a, ha, ea⟩ := one i hi
  obtain ⟨b, hb, eb⟩ := one j hj
  rw [← ea]
  by_cases c : a ≤ b
  · exact ⟨b - a, by omega, by rw [lcgN_add, show a + (b - a) = b by omega]; exact eb⟩
  · exact ⟨m + 1 + b - a, by omega, by rw [lcgN_add, show a + (m + 1 + b - a) = m + 1 + b by omega, turn]; exact eb⟩
theorem Msk.run {m : Nat} (hm : Msk m) (h : Int) {j : Nat} (hj : j ≤ m) : ∃ n, n ≤ m + 12 ∧ runI m (SetTable.bits h) n = j := by
  obtain ⟨k, hk, e⟩ := hm.all (runI_le m (SetTable.bits h) 12) hj
  exact ⟨12 + k, by omega, (runI_tail (bits_lt h) k).trans e⟩
theorem Msk.way {m : Nat} (hm : Msk m) (h : Int) {j : Nat} (hj : j ≤ m) : ∃ k, k < 10 * SetTable.turns m ∧ way m h k = j := by
  obtain ⟨n, hn, e⟩ := hm.run h hj
  rcases run_nth m (SetTable.bits h) n with ⟨k, hk, e2⟩
  refine ⟨k, Nat.lt_of_le_of_lt hk (by unfold SetTable.turns; omega), ?_⟩
  show (nth m (runAt m (SetTable.bits h % (m + 1)) (SetTable.bits h)) k).j = j
  rw [e2]
  exact e
theorem way_bd (m : Nat) (h : Int) (k : Nat) : way m h k ≤ m := by
  have b0 : SetTable.bits h % (m + 1) ≤ m := Nat.le_of_lt_succ (Nat.mod_lt _ (Nat.succ_pos _))
  have z := nth_in (m := m) k (runAt m (SetTable.bits h % (m + 1)) (SetTable.bits h)) (by
    have r := runEnd_bd b0
    refine (show SetTable.bits h % (m + 1) + (SetTable.runEnd m (SetTable.bits h % (m + 1)) - SetTable.bits h % (m + 1)) ≤ m from ?_)
    omega)
  exact Nat.le_trans (Nat.le_add_right _ _) z
/-! ### the table: each item is found again from its hash -/
structure Tb (t : SetTable) (hs : List Int) : Prop where
  up : Ris t.place.toList
  no : t.dummies = #[]
  ln : t.place.size = hs.length
  le : ∀ j ∈ t.place.toList, j ≤ t.mask
  to : ∀ (i : Nat) (h : Int) (j : Nat), hs[i]? = some h → t.place.toList[i]? = some j → ∃ k, way t.mask h k = j ∧ ∀ c, c < k → way t.mask h c ∈ t.place.toList
section
variable {t : SetTable} {hs : List Int}
theorem Tb.len (T : Tb t hs) : t.place.toList.length = hs.length := by
  rw [Array.length_toList]
  exact T.ln
/-- what has that hash stands ahead of it -/
theorem Tb.ahead (T : Tb t hs) {h : Int} {K i : Nat} (hK : way t.mask h K ∉ t.place.toList) (hi : hs[i]? = some h) : ∃ c, c < K ∧ t.place.toList[i]? = some (way t.mask h c) := by
  have li : i < t.place.toList.length := by
    rw [T.len]
    exact (List.getElem?_eq_some_iff.mp hi).1
  have ej := List.getElem?_eq_getElem li
  obtain ⟨c, e, b⟩ := T.to i h _ hi ej
  refine ⟨c, Classical.byContradiction fun z => ?_, by rw [ej, e]⟩
  rcases Nat.lt_or_ge K c with q | q
  · exact hK (b K q)
  · obtain rfl : c = K := by omega
    rw [e] at hK
    exact hK (List.mem_of_getElem? ej)
theorem Tb.put (T : Tb t hs) {h : Int} {K : Nat} (hK : way t.mask h K ∉ t.place.toList) (hb : ∀ c, c < K → way t.mask h c ∈ t.place.toList) :
    SetTable.below t.place (way t.mask h K) ≤ hs.length ∧ Tb (t.put (way t.mask h K)).1 (hs.take (SetTable.below t.place (way t.mask h K)) ++ h :: hs.drop (SetTable.below t.place (way t.mask h K))) ∧ (t.put (way t.mask h K)).1.fill = hs.length + 1 := by
  have hj := way_bd t.mask h K
  generalize ej : way t.mask h K = j at hK hj ⊢
  have cut := (below_cut T.up j).1
  have p1 : SetTable.below t.place j ≤ t.place.toList.length := by
    rw [Array.length_toList]
    exact cut
  have p2 : SetTable.below t.place j ≤ hs.length := by
    rw [← T.len]
    exact p1
  have pl := put_place t j
  have sz : (t.put j).1.place.size = hs.length + 1 := by
    have z := congrArg List.length pl
    rw [Array.length_toList, len_ins _ p1, T.len] at z
    exact z
  have grow : ∀ {x : Nat}, x ∈ t.place.toList → x ∈ (t.put j).1.place.toList := fun hx => by
    rw [pl]
    exact mem_ins.2 (.inr hx)
  refine ⟨p2, ⟨ris_insert T.up fun e => hK (List.mem_of_getElem? ((Array.getElem?_toList ..).trans e)), put_dm T.no j, ?_, ?_, ?_⟩, ?_⟩
  · rw [len_ins _ p2]
    exact sz
  · intro x hx
    rw [pl] at hx
    rcases mem_ins.1 hx with rfl | hx
    · exact hj
    · exact T.le x hx
  · intro i h' j' e1 e2
    rw [tins_get hs p2] at e1
    rw [pl, tins_get _ p1] at e2
    have old : ∀ i, hs[i]? = some h' → t.place.toList[i]? = some j' → ∃ k, way t.mask h' k = j' ∧ ∀ c, c < k → way t.mask h' c ∈ (t.put j).1.place.toList := fun i a b =>
      (T.to i h' j' a b).elim fun k z => ⟨k, z.1, fun c hc => grow (z.2 c hc)⟩
    show ∃ k, way t.mask h' k = j' ∧ ∀ c, c < k → way t.mask h' c ∈ (t.put j).1.place.toList
    split at e1
    · rename_i c
      rw [if_pos c] at e2
      exact old i e1 e2
    · rename_i c
      rw [if_neg c] at e2
      split at e1
      · rename_i d
        rw [if_pos d] at e2
        cases e1
        cases e2
        exact ⟨K, ej, fun c hc => grow (hb c hc)⟩
      · rename_i d
        rw [if_neg d] at e2
        exact old (i - 1) e1 e2
  · show (t.put j).1.place.size + (t.put j).1.dummies.size = _
    rw [sz, put_dm T.no j]
    rfl
end
/-! ### laid anew -/
end Lw

namespace Lw
open PySem.Spec PySem L2 PyProof.Rows
open Evl (Ex Ex.refl Ex.trans Ex.new Ex.off ex_rd ex_l ex_t)
/-! ### sets of tuples of ints, up to a thousand -/
/-- a set stands at a -/
def SetAt (h : Heap) (a : Addr) (es : Array (Int × Value)) (ep : Nat) (t : SetTable) : Prop := ∃ o, h.get? a = some o ∧ o.ExactSet ∧ o.data = .set es ep t
/-- its order is told, or none of it is led -/
def Led (w : World) (t : SetTable) : Prop := w.params.followText "set-order" = true ∨ t.led = true
structure SG (P : Program) (w : World) (h : Heap) (a : Addr) (L : List (Addr × List Int)) (es : Array (Int × Value)) (ep : Nat) (t : SetTable) : Prop where
  ob : SetAt h a es ep t
  row : es.toList = rowsOf P w L
  tab : Tb t (L.map fun p => thash P w p.2)
  msk : Msk t.mask
  one : (L.map (·.2)).Nodup
  plain : t.plain = true
  led : Led w t
  room : 5 * L.length < 3 * t.mask
  few : L.length ≤ 1998
/-- what a search asks of a key: how it compares with what lies there -/
structure KeyA (P : Program) (w : World) (A : Around) (s : Shared) (x : Value) (h : Int) (mt : Addr × List Int → Bool) (L : List (Addr × List Int)) : Prop where
  eq : ∀ p ∈ L, ∀ (E : Value → Shared → Prop) (Q : Bool → Shared → Prop), Q (mt p) s → wpAny (model P w) A (eqBool (.ref p.1) x) Q E s
  seen : ∀ ys : List Value, (∀ y ∈ ys, ∃ p ∈ L, y = .ref p.1) → ∀ (E : Value → Shared → Prop) (Q : Bool → Shared → Prop), Q false s → wpAny (model P w) A (searchCouldBeSeen x ys) Q E s
  hash : ∀ p ∈ L, mt p = true → thash P w p.2 = h
section
variable {P : Program} {w : World} {A : Around} {E : Value → Shared → Prop} {s : Shared} {a : Addr} {L : List (Addr × List Int)} {es : Array (Int × Value)} {ep : Nat} {t : SetTable} {x : Value} {h : Int} {mt : Addr × List Int → Bool}
theorem rows_len (e : es.toList = rowsOf P w L) : es.size = L.length := by
  rw [← Array.length_toList, e]
  exact List.length_map _
theorem fits_of (T : Tb t (L.map fun p => thash P w p.2)) (e : es.toList = rowsOf P w L) (hl : L.length ≤ t.mask) : t.fits es.size = true := by
  have z := T.ln
  rw [List.length_map] at z
  unfold SetTable.fits
  unfold SetTable.fill
  rw [T.no, rows_len e, z]
  simpa using hl
theorem SG.fit {hp : Heap} (R : SG P w hp a L es ep t) : t.fits es.size = true := fits_of R.tab R.row (by
  have := R.room
  omega)
end
end Lw

namespace Lw
open PySem.Spec PySem L2 PyProof.Rows
open Evl (Ex Ex.refl Ex.trans Ex.new Ex.off ex_rd ex_l ex_t)
section
variable {s : Shared} {P : Program} {w : World} {A : Around} {E : Value → Shared → Prop}
theorem SG.keep {h h' : Heap} {a : Addr} {L : List (Addr × List Int)} {es : Array (Int × Value)} {ep : Nat} {t : SetTable} (R : SG P w h a L es ep t) (e : ∀ o, h.get? a = some o → h'.get? a = some o) : SG P w h' a L es ep t := by
  obtain ⟨o, ho, r⟩ := R.ob
  exact ⟨⟨o, e o ho, r⟩, R.row, R.tab, R.msk, R.one, R.plain, R.led, R.room, R.few⟩
end
end Lw

namespace Lw
open PySem.Spec PySem L2 PyProof.Rows
open Evl (Ex Ex.refl Ex.trans Ex.new Ex.off ex_rd ex_l ex_t)
section
variable {X : Cx}
end
/-! ### as data that stays -/
section
variable {K : Fg} {P : Program} {w : World} {B : Bg} {G G' H : Hp} {σ : L2.St} {te : TE} {D : Ends} {u : TS} {ks : List (List Int)} {v : V} {k : List Int} {i : Nat}
end
end Lw

namespace Lw
open PySem.Spec PySem L2 PyProof.Rows
open Evl (Ex Ex.refl Ex.trans Ex.new Ex.off ex_rd ex_l ex_t)
section
variable {K : Fg} {B : Bg} {G G' H : Hp} {σ : L2.St} {te ta tb : TE} {tr : TA} {tt : TT} {d : PyData} {ds es : List PyData} {D : Ends} {t u : TS}
theorem ef_call {sp : Sp} {dvs : List V} {E : XK} (ha : EvA K B tr σ G ds) (hs : ∀ vs G2 H2, Ex G G2 → Ok K B G2 H2 → DpAll K G2 vs ds → ∀ Q, RetF K B G2 H2 Q es → sp (vs ++ dvs) H2 Q E) : EvF K B (tCall sp dvs E tr) σ G es := fun H e Q q =>
  ha H e _ fun vs G2 H2 X dv => hs vs G2 H2 X.gg X.ok dv Q (q.mono X)
/-- what was laid fast for a while is loose again -/
theorem Ext.back {G1 G2 H2 : Hp} (X : Ext K B G1 H G2 H2) (e : Ex G G1) (c : Cel K B G) : Ext K B G H G H2 := ⟨Ex.refl G, X.hh, fun _ _ _ g => g, X.ok.less (e.trans X.gg) c⟩
/-- a list of two lists that were made anew -/
structure Two (K : Fg) (B : Bg) (G0 H0 G H : Hp) (p0 p1 pf : Addr) (ds es : List PyData) : Prop where
  x : Ext K B G0 H0 G H
  h0 : H0 p0 = none ∧ H0 p1 = none ∧ H0 pf = none
  g : G p0 = none ∧ G p1 = none ∧ G pf = none
  nb : ¬ isB B p0 ∧ ¬ isB B p1 ∧ ¬ isB B pf
  ne : p0 ≠ p1 ∧ p0 ≠ pf ∧ p1 ≠ pf
  a : ∃ xs ys, H p0 = some (.lst xs) ∧ H p1 = some (.lst ys) ∧ H pf = some (.lst [.ref p0, .ref p1]) ∧ DpAll K G xs ds ∧ DpAll K G ys es
theorem Two.step {G0 H0 G2 H2 : Hp} {p0 p1 pf : Addr} (l : Two K B G0 H0 G H p0 p1 pf ds es) (X : Ext K B G H G2 H2) : Two K B G0 H0 G2 H2 p0 p1 pf ds es := by
  obtain ⟨xs, ys, a0, a1, af, d0, d1⟩ := l.a
  exact ⟨l.x.trans X, l.h0, ⟨X.fr _ _ a0 l.g.1, X.fr _ _ a1 l.g.2.1, X.fr _ _ af l.g.2.2⟩, l.nb, l.ne, xs, ys, X.hh _ _ l.nb.1 a0, X.hh _ _ l.nb.2.1 a1, X.hh _ _ l.nb.2.2 af, dpAll_mono X.gg d0, dpAll_mono X.gg d1⟩
end
theorem nd_len {α : Type} [DecidableEq α] : ∀ (l D : List α), l.Nodup → (∀ x ∈ l, x ∈ D) → l.length ≤ D.length
  | [], D, _, _ => Nat.zero_le D.length
  | x :: l, D, hn, hs => by
    have h1 := List.nodup_cons.mp hn
    have mx := hs x List.mem_cons_self
    have z := nd_len l (D.erase x) h1.2 fun y hy => (List.mem_erase_of_ne fun e => h1.1 (by rw [← e]; exact hy)).mpr (hs y (List.mem_cons_of_mem _ hy))
    rw [List.length_erase_of_mem mx] at z
    have := List.length_pos_of_mem mx
    rw [List.length_cons]
    omega
end Lw

namespace Lw
open PySem.Spec PySem L2 PyProof.Rows
open Evl (Ex Ex.refl Ex.trans Ex.new Ex.off ex_rd ex_l ex_t)
/-! enumerate over a tuple; loops and comprehensions over pairs -/
abbrev enO (it : Addr) : Obj := { cls := .type "enumerate", data := .fields #[.none, .bool false, .ref it, rawInt 0, .none, .none] }
theorem en_new {v : Value} {o : Obj} {Hq : Heap → Prop} (Bg : Begins v o Hq) :
    Meets (Builtin.«enumerate.__new__» ⟨[.type "enumerate", v], []⟩)
      (fun _ R s => Hq s.heap ∧ R (.ok (.ret (.ref (s.heap.push o).objs.size))) { s with heap := (s.heap.push o).push (enO s.heap.objs.size) }) :=
  .of_wp fun prog w A R s both => by
    obtain ⟨hp, gg, dd, tk, oo⟩ := s
    obtain ⟨h1, h2⟩ := both
    have hsub := sub_enumerate
    have it1 : ∀ {A' : Around} {E : Value → Shared → Prop} {Q : Value → Shared → Prop}, Q (.ref hp.objs.size) ⟨hp.push o, gg, dd, tk, oo⟩ →
        wpAny (model prog w) A' (pyIter v) Q E ⟨hp, gg, dd, tk, oo⟩ := fun q => Bg.iter prog w _ _ ⟨hp, gg, dd, tk, oo⟩ _ h1 q
    wp_walk using it1
    refine wpAny_stack_any fun stk => ?_
    refine wpAny_pure ?_
    split
    · rename_i cc _ _ _ _ _
      cases cc == Value.type "enumerate" with
      | true => wp_walk using it1; exact ⟨_, rfl, h2⟩
      | false => wp_walk using it1; exact ⟨_, rfl, h2⟩
    · wp_walk using it1; exact ⟨_, rfl, h2⟩
section
variable {s : Shared} {prog : Program} {w : World} {A : Around} {E : Value → Shared → Prop}
theorem en_tup {a : Addr} {its : Array Value} {Q : Value → Shared → Prop} (hT : s.heap.IsTuple a its)
    (k : ∀ h', IsEnum h' (s.heap.objs.size + 1) s.heap.objs.size 0 .none → h'.IsTupleIter s.heap.objs.size a 0 → (∀ b o, s.heap.get? b = some o → h'.get? b = some o) →
      Q (.ref (s.heap.objs.size + 1)) { s with heap := h' }) : wpAny (model prog w) A (call (.type "enumerate") [.ref a]) Q E s := by
  refine callType_new F.called_enumerate (by decide) (F.typeCall_enumerate_1 _) (F.newCall_enumerate_1 _)
    (fun obj => F.args_object_init_2 obj _) F.entry_enumerate_new (en_new (begins_tuple a its)) ⟨hT, ?_⟩
  generalize ho : ({ cls := .type "tuple_iterator", data := .fields #[.ref a, .int 0 0] } : Obj) = o
  have hf : o.isFreed = false := by rw [← ho]; rfl
  have sz1 : (s.heap.push o).objs.size = s.heap.objs.size + 1 := Heap.size_push ..
  have en1 : IsEnum ((s.heap.push o).push (enO s.heap.objs.size)) (s.heap.objs.size + 1) s.heap.objs.size 0 .none := by
    have z := Heap.get?_push_size (s.heap.push o) (o := enO s.heap.objs.size) rfl
    rwa [sz1] at z
  show _ ∧ _
  rw [sz1]
  refine ⟨⟨_, en1, rfl⟩, k _ en1 ⟨o, Heap.get?_push_of_some _ (Heap.get?_push_size _ hf), ?_, ?_⟩ fun b ob x => ?_⟩
  · rw [← ho]
  · rw [← ho]; rfl
  · exact Heap.get?_push_of_some _ (Heap.get?_push_of_some _ x)
end
/-- the tuple at a, each item in a new pair behind its number -/
def ItE (K : Fg) (a : Addr) : It where
  go i H := ∃ (xs : List V) (x : V), SqT K H a xs ∧ xs[i]? = some x
  yld i H v H' := ∃ T x, v = .ref T ∧ H T = none ∧ H' = upd H T (.tup [.int (i : Nat), x]) ∧ ∀ xs, SqT K H a xs → xs[i]? = some x
  stop i H := ∃ xs : List V, SqT K H a xs ∧ xs.length ≤ i
theorem cls_ne {h : Heap} {a b : Addr} {o p : Obj} (ha : h.get? a = some o) (hb : h.get? b = some p) (ne : o.cls ≠ p.cls) : a ≠ b := fun z => by
  rw [z, hb] at ha
  cases ha
  exact ne rfl
theorem mem2 {α : Type} {a b x : α} (h : x ∈ [a, b]) : x = a ∨ x = b := (List.mem_cons.mp h).imp id List.mem_singleton.mp
theorem clsT {x y : String} (h : x ≠ y) : Value.type x ≠ Value.type y := fun z => h (by injection z)
theorem turn_enT {P : Program} {w : World} {K : Fg} {elts : List Expr} {kk : Nat} {tpos : Pos} (a e it : Addr) :
    Turn P w K (.Tuple elts kk tpos) (ItE K a) [e, it] e fun i h => (∃ old, IsEnum h e it ((i : Nat) : Int) old) ∧ h.IsTupleIter it a i where
  mem := List.mem_cons_self
  obj i h st b hb := by
    obtain ⟨⟨old, he⟩, o, ho, hc, hd⟩ := st
    rcases mem2 hb with rfl | rfl
    · exact ⟨_, he, fun v q => nomatch q⟩
    · exact ⟨o, ho, fun v q => by rw [hd] at q; cases q⟩
  keep i h h' st k := by
    obtain ⟨⟨old, he⟩, o, ho, r⟩ := st
    exact ⟨⟨old, k e List.mem_cons_self _ he⟩, o, k it (by simp) o ho, r⟩
  item := by
    rintro X rfl rfl rfl hc i pins s σ H E I hf ⟨⟨old, he⟩, hit⟩ ⟨xs, x, hq, hx⟩
    obtain ⟨its, rv, tp, hz⟩ := I.tuple hq
    obtain ⟨u, iu0, ru⟩ := rv.get hx
    obtain ⟨oi, hoi, ci, di⟩ := id hit
    obtain ⟨oa, hoa, ca, da⟩ := id tp
    have n1 : e ≠ it := cls_ne he hoi (by rw [ci]; exact clsT (by decide))
    have n2 : e ≠ a := cls_ne he hoa (by rw [ca]; exact clsT (by decide))
    have n3 : a ≠ it := cls_ne hoa hoi (by rw [ci, ca]; exact clsT (by decide))
    have old2 : e < s.heap.objs.size ∧ it < s.heap.objs.size := ⟨Heap.lt_size he, Heap.lt_size hoi⟩
    have iu : its.toArray[i]? = some u := by simpa using iu0
    have il : i < its.toArray.size := by
      rcases Nat.lt_or_ge i its.toArray.size with z | z
      · exact z
      · rw [Array.getElem?_eq_none z] at iu
        cases iu
    refine wpAny_pyNext_enum_itemD (Draws.tuple (show X.A.in1.handled = none from I.ok.hd hc) it a n3 its.toArray) he ⟨hit, tp⟩ il n1 (by simp [n1, n2]) fun y h' tk py ho st' hT hsz hk => ?_
    obtain rfl : y = u := by
      have py : its.toArray[i]? = some y := py
      rw [iu] at py
      exact (Option.some.inj py).symm
    refine ⟨_, rfl, wpAny_letOwnedTupleGo_enum (s := { s with heap := h', toks := tk + 1 }) ho fun h2 he2 sb => ?_⟩
    have T2 : h2.get? s.heap.objs.size = some { cls := .type "tuple", data := .seq #[.int i tk, y] } := (sb.2 _ (Nat.ne_of_gt old2.1)).trans hT
    have okT : ObjOk X.prog X.w (upd H s.heap.objs.size (.tup [.int (i : Nat), x])) h2 s.heap.objs.size (.tup [.int (i : Nat), x]) :=
      ⟨show 2 ≤ sizeLine by decide, [.int i tk, y], .cons ⟨_, rfl⟩ (.cons ru .nil), _, T2, rfl, _, rfl⟩
    have I1 := I.turnedNew (t' := tk + 1) (ch := [e, it]) (fun b ob hb q => ?_) hf (Nat.le_refl _) okT
    refine ⟨.ref s.heap.objs.size, _, I1, rfl, ⟨_, x, rfl, I.hok.fresh (Nat.le_refl _), rfl, fun ys hy => ?_⟩, ⟨⟨y, ?_⟩, ?_⟩, fun b hb => ?_⟩
    · rw [I.tuple_inj hy hq]
      exact hx
    · have e1 : ((i + 1 : Nat) : Int) = (i : Int) + 1 := Int.natCast_succ i
      rw [e1]
      exact he2
    · obtain ⟨o3, g3, r3⟩ := st'.1
      exact ⟨o3, (sb.2 it (Ne.symm n1)).trans g3, r3⟩
    · have lt : b < s.heap.objs.size := by
        rcases mem2 hb with rfl | rfl
        · exact old2.1
        · exact old2.2
      rw [upd_ne (Nat.ne_of_lt lt)]
      exact (hf b hb).1
    · have b1 : b ≠ e := fun z => hb (by simp [z])
      have b2 : b ≠ it := fun z => hb (by simp [z])
      exact (sb.2 b b1).trans (hk b ob b1 b2 q)
  done := by
    rintro X rfl rfl rfl hc i pins s σ H E I hf ⟨⟨old, he⟩, hit⟩ ⟨xs, hq, hx⟩
    obtain ⟨its, rv, tp, hz⟩ := I.tuple hq
    obtain ⟨f0, f1, _, f3, f4, f5⟩ := hf it (List.mem_cons_of_mem _ List.mem_cons_self)
    obtain ⟨oi, hoi, ci, di⟩ := id hit
    obtain ⟨oa, hoa, ca, da⟩ := id tp
    have n3 : a ≠ it := cls_ne hoa hoi (by rw [ci, ca]; exact clsT (by decide))
    have n1 : e ≠ it := cls_ne he hoi (by rw [ci]; exact clsT (by decide))
    have len := rv.length
    have D := Draws.tuple (prog := X.prog) (w := X.w) (A := X.A.in1) (show X.A.in1.handled = none from I.ok.hd hc) it a n3 its.toArray
    have up : its.toArray.size ≤ i := by
      rw [List.size_toArray]
      omega
    -- the iterator stands at its end
    by_cases c : i = its.toArray.size
    · subst c
      exact wpAny_pyNext_enum_endD D he ⟨hit, tp⟩ fun h' eb => ⟨rfl, I.turned (t' := s.toks) (fun b o hb q => eb b o hb q) f0 f1 f3 f4 f5⟩
    · have non : its.toArray[i]? = none := Array.getElem?_eq_none up
      have ty : s.TypeIs (.ref e) "enumerate" := ⟨_, he, rfl⟩
      unfold pyNext
      refine wpAny_bind (wpAny_attempt (wpAny_callSpecial?_slot (name := Str.ofString "__next__") ty F.slot_enumerate_next (wpAny_call_entry F.slot_enumerate_next ty F.entry_enumerate_next ?_ (F.args_enumerate_next_1 _))))
      refine (show wpAny _ _ (field (.ref e) 2 >>= _) _ _ s from wpAny_bind (wpAny_field he rfl (x := .ref it) rfl (wpAny_bind ?_)))
      refine wpAny_nextOf_tuple_end (show X.A.in1.in1.handled = none from I.ok.hd hc) hit tp non fun h' x eb st => ?_
      obtain ⟨o, ho, hcl⟩ := st
      exact wpAny_bind (wpAny_isInstance (T := "StopIteration") (b := true) ⟨o, ho, hcl⟩ isSubtype_stop (wpAny_pure ⟨rfl, I.turned (t' := s.toks) (fun b o hb q => eb b o hb q) f0 f1 f3 f4 f5⟩))
  self A i s Q E st h := by
    obtain ⟨⟨old, he⟩, _⟩ := st
    exact wpAny_pyIter_enum he h
def iEnT (K : Fg) (ta : TA) : TI := fun σ H R => ta σ H fun vs H1 => ∃ a xs, vs = [.ref a] ∧ SqT K H1 a xs ∧ R (ItE K a) H1
theorem pi_enT {X : Cx} {e : Expr} {ta : TA} {p pos tpos : Pos} {elts : List Expr} {kk : Nat} (hg : Gl X "enumerate") (hm : X.mg "enumerate" = none) (ha : PA X [e] ta)
    (hs : starEach [e] X.env = [(false, eval e X.env)] := by rfl) : PI X (.Tuple elts kk tpos) (.Call (.Name "enumerate" p) [e] [] pos) (iEnT X.K ta) := by
  refine ⟨fun pins s σ H R I h => Call_ (ld_blt I hg hm boot_enumerate (PyProof.Rows.callWith_type1 (thn (ha.run pos pins s σ H _ I h) ?_) hs rfl))⟩
  rintro us s1 ⟨vs, H1, I1, r1, a, xs, rfl, hq, q⟩
  cases r1 with
  | cons r rr =>
    cases rr
    cases r
    obtain ⟨its, rv, tp, hz⟩ := I1.tuple hq
    refine en_tup (show s1.heap.IsTuple a its.toArray from tp) fun h' he hit hk => wpAny_pyIter_enum he ?_
    have I2 := I1.kept (t' := s1.toks) hk
    refine ⟨s1.heap.objs.size + 1, _, _, _, H1, rfl, I2, turn_enT a (s1.heap.objs.size + 1) s1.heap.objs.size, ⟨⟨.none, he⟩, hit⟩, fun b hb => ?_, q⟩
    have le : s1.heap.objs.size ≤ b := by
      rcases mem2 hb with rfl | rfl
      · exact Nat.le_succ _
      · exact Nat.le_refl _
    exact I1.fpOk le (I1.hok.fresh le)
theorem walk_enT {K : Fg} {a : Addr} {xs : List V} : Walk (ItE K a) xs.length (fun H => SqT K H a xs) (YPair (fun i => some (.int (i : Nat))) fun i => xs[i]?) where
  goes i _ hi q := ⟨xs, xs[i], q, List.getElem?_eq_getElem hi⟩
  stops _ q := ⟨xs, q, Nat.le_refl _⟩
  yields i H v H' _ q y := by
    obtain ⟨at_, it_, ev, new, eh, el⟩ := y
    exact ⟨at_, _, it_, ev, new, eh, rfl, el xs q⟩
/-- an iterator over n pairs, told by their numbers -/
def EvP (K : Fg) (B : Bg) (wi : TI) (σ : L2.St) (G : Hp) (n : Nat) (as bs : Nat → Option PyData) : Prop := ∀ H, Ok K B G H → ∀ R : It → Hp → Prop,
  (∀ J xs ys G1 H1, Ext K B G H G1 H1 → Walk J n (fun H' => Ex G1 H') (YPair xs ys) → (∀ i x, i < n → xs i = some x → ∃ d, as i = some d ∧ Dp K G1 x d) → (∀ i y, i < n → ys i = some y → ∃ d, bs i = some d ∧ Dp K G1 y d) → R J H1) → wi σ H R
section
variable {K : Fg} {B : Bg} {G G' H : Hp} {σ : L2.St} {te ta tb : TE} {tr : TA} {tt : TT} {d : PyData} {ds es : List PyData} {D : Ends} {t u : TS} {wi : TI} {as bs : Nat → Option PyData} {n : Nat}
theorem ep_enT (h : EvA K B tr σ G [.tuple ds]) : EvP K B (iEnT K tr) σ G ds.length (fun i => some (.int (i : Nat))) fun i => ds[i]? := fun H e R k =>
  h H e _ fun vs G1 H1 X dv => by
    cases dv with
    | cons d1 dv =>
      cases dv
      obtain ⟨a, xs, rfl, sa, ax⟩ := dp_tup d1
      refine ⟨a, xs, rfl, ex_t X.ok.e sa, ?_⟩
      rw [← dpAll_len ax] at k
      refine k _ _ _ G1 H1 X (walk_enT.mono (fun H' q => ex_t q sa) fun _ _ _ _ _ _ y => y) (fun i x hi q => ?_) (fun i x hi q => dpAll_at ax q)
      cases q
      exact ⟨_, rfl, .int _⟩
end
end Lw

namespace Lw
open PySem.Spec PySem L2 PyProof.Rows
open Evl (Ex Ex.refl Ex.trans Ex.new Ex.off ex_rd ex_l ex_t)
section
variable {K : Fg} {B : Bg} {G G' H : Hp} {σ : L2.St} {te ta tb : TE} {tr : TA} {tt : TT} {d : PyData} {ds es : List PyData} {D : Ends} {t u : TS} {b : Bool}
end
end Lw

namespace Lw
open PySem.Spec PySem L2 PyProof.Rows
open Evl (Ex Ex.refl Ex.trans Ex.new Ex.off ex_rd ex_l ex_t)
/-! dicts whose keys are tuples of numbers -/
abbrev tkd (P : Program) (w : World) : HeapKind P w (List Key) := tupleKind (mixKind P w)
abbrev Ent := List Int × Addr × V
def DRel : List Ent → List (List Key × Addr × Value) → Prop := Paired fun l x => x.1 = l.1.map Sum.inl ∧ x.2.1 = l.2.1 ∧ RelV l.2.2 x.2.2
def DGok (P : Program) (w : World) (h : Heap) (d : Addr) (L : List Ent) : Prop := (d == sysModules) = false ∧
  ∃ xs o es ep, h.get? d = some o ∧ o.ExactDict ∧ o.data = .dict es ep ∧ es.toList = xs.map (entryOfKey (tkd P w)) ∧ DRel L xs ∧ (xs.map (·.1)).Nodup
def DGO (P : Program) (w : World) (d : Addr) (L : List Ent) : HO := .ext fun h => DGok P w h d L
def keysOf (K : Fg) (H : Hp) (L : List Ent) : Prop := ∀ p ∈ L, SqT K H p.2.1 (p.1.map V.int)
theorem keys_mono {K : Fg} {H H' : Hp} {L : List Ent} (e : Ex H H') (k : keysOf K H L) : keysOf K H' L := fun p hp => ex_t e (k p hp)
section
variable {X : Cx} {pins : List (Addr × Obj)} {s : Shared} {σ : L2.St} {H : Hp}
def valG (L : List Ent) (k : List Int) : Option V := (L.find? fun p => decide (p.1 = k)).map (·.2.2)
theorem valG_mem {L : List Ent} {k : List Int} : (valG L k).isSome = decide (k ∈ L.map (·.1)) := by
  unfold valG
  rw [Option.isSome_map, Bool.eq_iff_iff, List.find?_isSome, decide_eq_true_eq, List.mem_map]
  refine ⟨fun ⟨p, hp, z⟩ => ⟨p, hp, of_decide_eq_true z⟩, fun ⟨p, hp, z⟩ => ⟨p, hp, decide_eq_true z⟩⟩
def putG (L : List Ent) (k : List Int) (b : Addr) (z : V) : List Ent := if k ∈ L.map (·.1) then L.map fun p => if p.1 = k then (p.1, p.2.1, z) else p else L ++ [(k, b, z)]
theorem paired_app {α β : Type} {F : α → β → Prop} {l : List α} {m : List β} {a : α} {b : β} (p : Paired F l m) (h : F a b) : Paired F (l ++ [a]) (m ++ [b]) := by
  induction p with
  | nil => exact .cons h .nil
  | cons q t ih => exact .cons q ih
theorem paired_len {α β : Type} {F : α → β → Prop} {l : List α} {m : List β} (p : Paired F l m) : l.length = m.length := by
  induction p with
  | nil => rfl
  | cons _ _ ih => exact congrArg (· + 1) ih
end
section
variable {X : Cx}
end
end Lw

namespace Lw
/-! what hangs together, and its least one; filling by a pile -/
inductive Con (adj : Nat → List Nat) : Nat → Nat → Prop
  | here (i : Nat) : Con adj i i
  | more {i j k : Nat} : Con adj i j → k ∈ adj j → Con adj i k
structure Gph (N : Nat) (adj : Nat → List Nat) : Prop where
  lt : ∀ i, i < N → ∀ j ∈ adj i, j < N
  sym : ∀ i, i < N → ∀ j ∈ adj i, i ∈ adj j
section
variable {N : Nat} {adj : Nat → List Nat}
theorem Con.trans {i j k : Nat} (a : Con adj i j) (b : Con adj j k) : Con adj i k := by
  induction b with
  | here => exact a
  | more _ h ih => exact .more ih h
theorem Con.lt {i j : Nat} (g : Gph N adj) (a : Con adj i j) (hi : i < N) : j < N := by
  induction a with
  | here => exact hi
  | more _ h ih => exact g.lt _ ih _ h
theorem Con.symm {i j : Nat} (g : Gph N adj) (a : Con adj i j) (hi : i < N) : Con adj j i := by
  induction a with
  | here => exact .here _
  | more b h ih => exact Con.trans (.more (.here _) (g.sym _ (b.lt g hi) _ h)) ih
theorem least_ex (p : Nat → Prop) : ∀ n, p n → ∃ m, p m ∧ ∀ k, p k → m ≤ k := fun n => Nat.strongRecOn n fun n ih h => by
  by_cases c : ∃ k, k < n ∧ p k
  · obtain ⟨k, hk, pk⟩ := c
    exact ih k hk pk
  · exact ⟨n, h, fun k pk => Nat.le_of_not_lt fun z => c ⟨k, z, pk⟩⟩
noncomputable def labOf (adj : Nat → List Nat) (i : Nat) : Nat := Classical.choose (least_ex (Con adj i) i (.here i))
theorem labOf_con (i : Nat) : Con adj i (labOf adj i) := (Classical.choose_spec (least_ex (Con adj i) i (.here i))).1
theorem labOf_le {i j : Nat} (h : Con adj i j) : labOf adj i ≤ j := (Classical.choose_spec (least_ex (Con adj i) i (.here i))).2 j h
theorem labOf_eq {i j : Nat} (g : Gph N adj) (hi : i < N) (h : Con adj i j) : labOf adj i = labOf adj j :=
  Nat.le_antisymm (labOf_le (h.trans (labOf_con j))) (labOf_le ((h.symm g hi).trans (labOf_con i)))
theorem labOf_lt {i : Nat} (g : Gph N adj) (hi : i < N) : labOf adj i < N := (labOf_con i).lt g hi
theorem labOf_self {i : Nat} : labOf adj i ≤ i := labOf_le (.here i)
def below (adj : Nat → List Nat) (q i : Nat) : Int → Prop := fun z => (labOf adj i < q → z = (labOf adj i : Int)) ∧ (¬ labOf adj i < q → z = -1)
/-- all panes whose least one is below q are named -/
structure Nam (N : Nat) (adj : Nat → List Nat) (q : Nat) (F : List Int) : Prop where
  len : F.length = N
  at_ : ∀ i, i < N → ∃ z, F[i]? = some z ∧ below adj q i z
structure Fil (N : Nat) (adj : Nat → List Nat) (r : Nat) (F0 F : List Int) (ws : List Nat) (q : Nat) (dn : List Nat) : Prop where
  len : F.length = N
  ea : ∀ i, i < N → F[i]? = F0[i]? ∨ (F[i]? = some (r : Int) ∧ Con adj r i)
  wk : ∀ i ∈ ws, i < N ∧ F[i]? = some (r : Int)
  pr : ∀ i, i < N → F[i]? = some (r : Int) → i ∉ ws → ∀ j, j ∈ adj i → (i = q → j ∈ dn) → F[j]? = some (r : Int)
  rt : F[r]? = some (r : Int)
theorem Nam.root {q : Nat} {F : List Int} (n : Nam N adj q F) (hq : q < N) (h : F[q]? = some (-1)) : labOf adj q = q := by
  obtain ⟨z, e, b⟩ := n.at_ q hq
  rw [h] at e
  have e := Option.some.inj e
  have l := labOf_self (adj := adj) (i := q)
  by_cases c : labOf adj q < q
  · have := b.1 c
    omega
  · omega
theorem get_set {F : List Int} {i j : Nat} {z : Int} (hj : j < F.length) : (F.set j z)[i]? = if i = j then some z else F[i]? := by
  rw [List.getElem?_set]
  by_cases c : j = i
  · subst c
    rw [if_pos rfl, if_pos hj, if_pos rfl]
  · rw [if_neg c, if_neg (fun e => c e.symm)]
/-- the beginning -/
theorem Fil.start {r : Nat} {F0 : List Int} (g : Gph N adj) (n : Nam N adj r F0) (hr : r < N) (h : F0[r]? = some (-1)) : Fil N adj r F0 (F0.set r (r : Int)) [r] N [] := by
  have hl : r < F0.length := by rw [n.len]; exact hr
  have root := n.root hr h
  have only : ∀ i, i < N → F0[i]? = some (r : Int) → False := fun i hi e => by
    obtain ⟨z, ez, b⟩ := n.at_ i hi
    rw [e] at ez
    have ez := Option.some.inj ez
    by_cases c : labOf adj i < r
    · have := b.1 c
      omega
    · have := b.2 c
      omega
  refine ⟨by rw [List.length_set]; exact n.len, fun i hi => ?_, fun i hi => ?_, fun i hi e ni j hj _ => ?_, ?_⟩
  · rw [get_set hl]
    by_cases c : i = r
    · rw [if_pos c]
      exact .inr ⟨rfl, c ▸ .here i⟩
    · rw [if_neg c]
      exact .inl rfl
  · rw [List.mem_singleton.mp hi, get_set hl, if_pos rfl]
    exact ⟨hr, rfl⟩
  · rw [get_set hl] at e
    by_cases c : i = r
    · exact absurd (by rw [c]; exact List.mem_singleton.mpr rfl) ni
    · rw [if_neg c] at e
      exact (only i hi e).elim
  · rw [get_set hl, if_pos rfl]
theorem Fil.con {r : Nat} {F0 F : List Int} {ws : List Nat} {q : Nat} {dn : List Nat} {i : Nat} (g : Gph N adj) (n : Nam N adj r F0) (f : Fil N adj r F0 F ws q dn) (hi : i < N) (h : F[i]? = some (r : Int)) : Con adj r i := by
  rcases f.ea i hi with e | e
  · obtain ⟨z, ez, b⟩ := n.at_ i hi
    rw [← e, h] at ez
    have ez := Option.some.inj ez
    by_cases c : labOf adj i < r
    · have := b.1 c
      omega
    · have := b.2 c
      omega
  · exact e.2
/-- the neighbour is named now, and laid on the pile -/
theorem Fil.push {r : Nat} {F0 F : List Int} {ws : List Nat} {q j : Nat} {dn : List Nat} (g : Gph N adj) (n : Nam N adj r F0) (f : Fil N adj r F0 F ws q dn) (hq : q < N) (eq : F[q]? = some (r : Int)) (hj : j ∈ adj q) : Fil N adj r F0 (F.set j (r : Int)) (ws ++ [j]) q (dn ++ [j]) := by
  have cj : Con adj r j := .more (f.con g n hq eq) hj
  have jl : j < N := g.lt q hq j hj
  have hl : j < F.length := by rw [f.len]; exact jl
  refine ⟨by rw [List.length_set]; exact f.len, fun i hi => ?_, fun i hi => ?_, fun i hi e ni k hk d => ?_, ?_⟩
  · rw [get_set hl]
    by_cases c : i = j
    · rw [if_pos c]
      exact .inr ⟨rfl, c ▸ cj⟩
    · rw [if_neg c]
      exact f.ea i hi
  · rw [get_set hl]
    rcases List.mem_append.mp hi with z | z
    · have w := f.wk i z
      by_cases c : i = j
      · rw [if_pos c]
        exact ⟨w.1, rfl⟩
      · rw [if_neg c]
        exact w
    · obtain rfl := List.mem_singleton.mp z
      rw [if_pos rfl]
      exact ⟨jl, rfl⟩
  · rw [get_set hl] at e ⊢
    by_cases c : k = j
    · rw [if_pos c]
    · rw [if_neg c]
      have cij : i ≠ j := fun z => ni (by rw [z]; exact List.mem_append_right _ (List.mem_singleton.mpr rfl))
      rw [if_neg cij] at e
      refine f.pr i hi e (fun z => ni (List.mem_append_left _ z)) k hk fun z => ?_
      rcases List.mem_append.mp (d z) with z | z
      · exact z
      · exact absurd (List.mem_singleton.mp z) c
  · rw [get_set hl]
    by_cases c : r = j
    · rw [if_pos c]
    · rw [if_neg c]
      exact f.rt
/-- all neighbours were looked at -/
theorem Fil.turn {r : Nat} {F0 F : List Int} {ws : List Nat} {q : Nat} (f : Fil N adj r F0 F ws q (adj q)) : Fil N adj r F0 F ws q (adj q) := f
/-- the pile is empty -/
theorem Fil.done {r : Nat} {F0 F : List Int} {q : Nat} (g : Gph N adj) (n : Nam N adj r F0) (hr : r < N) (root : labOf adj r = r) (f : Fil N adj r F0 F [] q (adj q)) : Nam N adj (r + 1) F := by
  have all : ∀ i, Con adj r i → F[i]? = some (r : Int) := fun i c => by
    induction c with
    | here => exact f.rt
    | @more j k b h ih => exact f.pr j (b.lt g hr) ih (fun z => nomatch z) k h fun e => e ▸ h
  refine ⟨f.len, fun i hi => ?_⟩
  obtain ⟨z, ez, b⟩ := n.at_ i hi
  by_cases c : labOf adj i < r
  · refine ⟨z, ?_, fun _ => b.1 c, fun d => absurd (Nat.lt_succ_of_lt c) d⟩
    rcases f.ea i hi with e | e
    · rw [e]
      exact ez
    · have := labOf_eq g hr e.2
      omega
  · by_cases d : labOf adj i = r
    · have ci : Con adj r i := (d ▸ labOf_con i : Con adj i r).symm g hi
      exact ⟨r, all i ci, fun _ => by rw [d], fun w => absurd (by omega) w⟩
    · refine ⟨z, ?_, fun w => absurd (by omega) d, fun _ => b.2 c⟩
      rcases f.ea i hi with e | e
      · rw [e]
        exact ez
      · have := labOf_eq g hr e.2
        omega
/-- no new pane begins at q -/
theorem Nam.next {q : Nat} {F : List Int} (g : Gph N adj) (n : Nam N adj q F) (hq : q < N) (h : F[q]? ≠ some (-1)) : Nam N adj (q + 1) F := by
  have lq : labOf adj q < q := by
    obtain ⟨z, e, b⟩ := n.at_ q hq
    by_cases c : labOf adj q < q
    · exact c
    · rw [b.2 c] at e
      exact absurd e h
  refine ⟨n.len, fun i hi => ?_⟩
  obtain ⟨z, e, b⟩ := n.at_ i hi
  refine ⟨z, e, fun c => ?_, fun c => b.2 (by omega)⟩
  by_cases d : labOf adj i < q
  · exact b.1 d
  · have eq : labOf adj i = q := by omega
    have := labOf_eq g hi (labOf_con i)
    rw [eq] at this
    omega
noncomputable def labsOf (N : Nat) (adj : Nat → List Nat) : List Int := (List.range N).map fun i => (labOf adj i : Int)
theorem Nam.all {F : List Int} (g : Gph N adj) (n : Nam N adj N F) : F = labsOf N adj := by
  unfold labsOf
  refine List.ext_getElem? fun i => ?_
  by_cases c : i < N
  · obtain ⟨z, e, b⟩ := n.at_ i c
    rw [e, b.1 (labOf_lt g c), List.getElem?_map, List.getElem?_range c]
    rfl
  · rw [List.getElem?_eq_none (by rw [n.len]; omega), List.getElem?_eq_none (by rw [List.length_map, List.length_range]; omega)]
end
end Lw

namespace Lw
open PySem.Spec PySem L2 PyProof.Rows
open Evl (Ex Ex.refl Ex.trans Ex.new Ex.off ex_rd ex_l ex_t)
/-! tuples of tuples of numbers at the top -/
/-! dicts whose keys are tuples of numbers, told by their keys -/
def DpK (K : Fg) (P : Program) (w : World) (G : Hp) (v : V) (ks : List (List Int)) : Prop := ∃ (a : Addr) (L : List Ent), v = .ref a ∧ G a = some (DGO P w a L) ∧ keysOf K G L ∧ ∀ k, k ∈ L.map (·.1) ↔ k ∈ ks
section
variable {K : Fg} {P : Program} {w : World} {B : Bg} {G G' H : Hp} {σ : L2.St} {te ta tb tk tv : TE} {tr : TA} {tt : TT} {d : PyData} {ds es : List PyData} {D : Ends} {t u : TS} {b : Bool} {v : V} {ks ls : List (List Int)} {i : Nat}
def RetJ (K : Fg) (P : Program) (w : World) (B : Bg) (G H : Hp) (Q : VK) (ks : List (List Int)) : Prop := ∀ v G2 H2, Ext K B G H G2 H2 → DpK K P w G2 v ks → Q v H2
theorem RetJ.mono {Q : VK} {G1 H1 : Hp} (X : Ext K B G H G1 H1) (h : RetJ K P w B G H Q ks) : RetJ K P w B G1 H1 Q ks := fun v G2 H2 X2 dv => h v G2 H2 (X.trans X2) dv
/-! a list that another def fills -/
theorem Ok.hit {H2 : Hp} {f : Addr} (e : Ok K B G H) (g : G f = none) (nb : ¬ isB B f) (k : ∀ a o, a ≠ f → H a = some o → H2 a = some o) : Ok K B G H2 :=
  ⟨fun a o h => k a o (ne_of_none h g) (e.e a o h), e.c, e.b.keep (fun _ _ z => z) fun a o z h => k a o (fun w => nb (w ▸ z)) h⟩
theorem Loo.hit {G0 H0 H2 : Hp} {f : Addr} {xs : List V} (l : Loo K B G0 H0 G H f ds) (k : ∀ a o, a ≠ f → H a = some o → H2 a = some o) (h : H2 f = some (.lst xs)) (a : DpAll K G xs es) : Loo K B G0 H0 G H2 f es :=
  ⟨⟨l.x.gg, fun a o n z => k a o (ne_of_none z l.h0) (l.x.hh a o n z), l.x.fr, l.x.ok.hit l.g l.nb k⟩, l.h0, l.g, l.nb, xs, h, a⟩
end
end Lw

namespace Lw
open PySem.Spec PySem L2 PyProof.Rows
open Evl (Ex Ex.refl Ex.trans Ex.new Ex.off ex_rd ex_l ex_t)
section
variable {K : Fg} {B : Bg} {G G' H : Hp} {σ : L2.St} {te ta tb : TE} {tr : TA} {tt : TT} {d : PyData} {ds es : List PyData} {D : Ends} {t u : TS} {b : Bool}
theorem sq_par3 {i j l : Nat} {a b c : Int} (h : EvA K B tr σ G [.int a, .int b, .int c]) (e : Ok K B G H) (k : ∀ G2 H2, Ext K B G H G2 H2 → u D (((σ.set i (some (.int a))).set j (some (.int b))).set l (some (.int c))) H2) : tSeq (tPar3 i j l tr) u D σ H :=
  h H e _ fun vs G2 H2 X dv => by
    obtain rfl := dpAll_intsV (bs := [a, b, c]) dv
    exact ⟨_, _, _, rfl, k G2 H2 X⟩
theorem at_int {F : List Int} {j : Nat} {z : Int} (h : F[j]? = some z) : atI (F.map PyData.int) (j : Int) = some (.int z) := by
  refine atI_nat ?_
  rw [List.getElem?_map, h]
  rfl
end
end Lw

namespace Lw
open PySem.Spec PySem L2 PyProof.Rows
open Evl (Ex Ex.refl Ex.trans Ex.new Ex.off ex_rd ex_l ex_t)
/-! sorted(set(numbers)) -/
def insI (x : Int) (l : List Int) : List Int := match l with
  | [] => [x]
  | y :: ys => if x < y then x :: y :: ys else if x = y then y :: ys else y :: insI x ys
def sset (ns : List Int) : List Int := ns.foldr insI []
theorem insI_mem {x z : Int} : ∀ {ys : List Int}, z ∈ insI x ys ↔ z = x ∨ z ∈ ys
  | [] => by
    show z ∈ [x] ↔ _
    rw [List.mem_singleton]
    exact ⟨.inl, fun h => h.resolve_right fun q => by cases q⟩
  | y :: ys => by
    unfold insI
    split
    · rw [List.mem_cons]
    · split
      · rename_i h
        rw [h]
        exact ⟨.inr, fun h => h.elim (fun e => e ▸ List.mem_cons_self) id⟩
      · rw [List.mem_cons, insI_mem, List.mem_cons]
        exact ⟨fun h => h.elim (fun e => .inr (.inl e)) fun h => h.elim .inl fun q => .inr (.inr q), fun h => h.elim (fun e => .inr (.inl e)) fun h => h.elim .inl fun q => .inr (.inr q)⟩
theorem insI_srt {x : Int} : ∀ {ys : List Int}, ys.Pairwise (· < ·) → (insI x ys).Pairwise (· < ·)
  | [], _ => List.pairwise_singleton _ _
  | y :: ys, h => by
    have h2 := List.pairwise_cons.mp h
    unfold insI
    split
    · rename_i c
      refine List.pairwise_cons.mpr ⟨fun z hz => ?_, h⟩
      cases hz with
      | head => exact c
      | tail _ hz =>
        have := h2.1 z hz
        omega
    · split
      · exact h
      · refine List.pairwise_cons.mpr ⟨fun z hz => ?_, insI_srt h2.2⟩
        rcases insI_mem.mp hz with rfl | hz
        · omega
        · exact h2.1 z hz
theorem sset_mem {ns : List Int} {z : Int} : z ∈ sset ns ↔ z ∈ ns := by
  unfold sset
  induction ns with
  | nil => exact Iff.rfl
  | cons n ns ih => rw [List.foldr_cons, insI_mem, ih, List.mem_cons]
theorem sset_srt (ns : List Int) : (sset ns).Pairwise (· < ·) := by
  unfold sset
  induction ns with
  | nil => exact List.Pairwise.nil
  | cons n ns ih => exact insI_srt ih
theorem srt_uniq : ∀ {l m : List Int}, l.Pairwise (· < ·) → m.Pairwise (· < ·) → (∀ z, z ∈ l ↔ z ∈ m) → l = m
  | [], [], _, _, _ => rfl
  | [], y :: ys, _, _, h => by cases (h y).mpr List.mem_cons_self
  | x :: xs, [], _, _, h => by cases (h x).mp List.mem_cons_self
  | x :: xs, y :: ys, hl, hm, h => by
    have l2 := List.pairwise_cons.mp hl
    have m2 := List.pairwise_cons.mp hm
    have e : x = y := by
      rcases List.mem_cons.mp ((h x).mp List.mem_cons_self) with e | hx
      · exact e
      · rcases List.mem_cons.mp ((h y).mpr List.mem_cons_self) with e | hy
        · exact e.symm
        · have := l2.1 y hy
          have := m2.1 x hx
          omega
    subst e
    refine congrArg _ (srt_uniq l2.2 m2.2 fun z => ⟨fun hz => ?_, fun hz => ?_⟩)
    · rcases List.mem_cons.mp ((h z).mp (List.mem_cons_of_mem _ hz)) with rfl | q
      · exact absurd (l2.1 z hz) (Int.lt_irrefl z)
      · exact q
    · rcases List.mem_cons.mp ((h z).mpr (List.mem_cons_of_mem _ hz)) with rfl | q
      · exact absurd (m2.1 z hz) (Int.lt_irrefl z)
      · exact q
section
variable {K : Fg} {w : World} {B : Bg} {G G' H : Hp} {σ : L2.St} {te ta tb : TE} {tr : TA} {tt : TT} {d : PyData} {ds es : List PyData} {D : Ends} {t u : TS} {b : Bool}
/-- [e for x in xs if t], xs a tuple -/
theorem ef_lcT {i : Nat} {f : PyData → Option PyData} (ha : EvD K B ta σ G (.tuple ds)) (hn : ds.length ≤ 100000)
    (ht : ∀ d v G', d ∈ ds → Ex G G' → Cel K B G' → Dp K G' v d → EvB K B tt ((σ.set i none).set i (some v)) G' (f d).isSome)
    (he : ∀ d v y G', d ∈ ds → Ex G G' → Cel K B G' → Dp K G' v d → f d = some y → EvD K B te ((σ.set i none).set i (some v)) G' y) :
    EvF K B (tLc (iTup K ta) (gName i) tt te [i]) σ G (ds.filterMap f) := fun H e Q q =>
  ha H e _ fun v G1 H1 X dv => by
    obtain ⟨a, xs, rfl, hs, hx⟩ := dp_tup dv
    refine ⟨a, rfl, ⟨xs, ex_t X.ok.e hs⟩, fun D hD => ?_⟩
    have nb := X.ok.b.ne hD
    show ∃ W, _
    refine lc_tup (K := K) (a := a) (xs := xs) (Qd := fun H => Q (.ref D) H) (fun j H' => ∃ G' ys, Ext K B G1 H1 G' H' ∧ G' D = none ∧ H' D = some (.lst ys) ∧ DpAll K G' ys ((ds.take j).filterMap f))
      ⟨G1, [], Ext.loose X.ok hD, X.ok.e.off hD, upd_same, .nil⟩ ?_ ?_ ?_
    · rintro j H' _ ⟨G', ys, X', _⟩
      exact ex_t (X'.gg.trans X'.ok.e) hs
    · rintro j x H' hj ⟨G', ys, X', g', h', a'⟩
      obtain ⟨d, hd, dx⟩ := dpAll_at hx hj
      have md : d ∈ ds := List.mem_of_getElem? hd
      have jl : j < ds.length := (List.getElem?_eq_some_iff.mp hd).1
      refine ⟨?_, ?_⟩
      · show (((σ.set i none).set i (some x)).set i none) = σ.set i none
        rw [List.set_set, List.set_set]
      · have hlen : ((ds.take j).filterMap f).length < 100000 := by
          have z := List.length_filterMap_le f (ds.take j)
          rw [List.length_take] at z
          omega
        have c' := (e.c.mono X.gg).mono X'.gg
        refine lc_turn (o := f d) hD nb X' g' h' a' hlen (ht d x G' md (X.gg.trans X'.gg) c' (dp_mono X'.gg dx)) (fun y ey => he d x y G' md (X.gg.trans X'.gg) c' (dp_mono X'.gg dx) ey) fun G4 H4 ys X4 g4 h4 a4 => ⟨G4, ys, X4, g4, h4, ?_⟩
        rw [take_filterMap hd]
        exact a4
    · rintro H' ⟨G', ys, X', g', h', a'⟩
      have z : xs.length = ds.length := dpAll_len hx
      rw [z, List.take_length] at a'
      exact q D ys G' H' (X.trans X') (X.old nb hD) g' nb h' a'
/-! lists of drawn items -/
def RetFS (K : Fg) (B : Bg) (G H : Hp) (Q : VK) (S : List PyData → Prop) : Prop := ∀ p xs ds G2 H2, S ds → Ext K B G H G2 H2 → H p = none → G2 p = none → ¬ isB B p → H2 p = some (.lst xs) → DpAll K G2 xs ds → Q (.ref p) H2
def EvFS (K : Fg) (B : Bg) (te : TE) (σ : L2.St) (G : Hp) (S : List PyData → Prop) : Prop := ∀ H, Ok K B G H → ∀ Q : VK, RetFS K B G H Q S → te σ H Q
end
end Lw

namespace Lw
open PySem.Spec PySem L2 PyProof.Rows
open Evl (Ex Ex.refl Ex.trans Ex.new Ex.off ex_rd ex_l ex_t)
section
variable {K : Fg} {w : World} {B : Bg} {G G' H : Hp} {σ : L2.St} {te ta tb : TE} {tr : TA} {tt : TT} {d : PyData} {ds es : List PyData} {D : Ends} {t u : TS} {b : Bool}
/-! a list made meanwhile, and a list of it and a number -/
structure One (K : Fg) (B : Bg) (G0 H0 G H : Hp) (p0 pf : Addr) (ds : List PyData) (k : Int) : Prop where
  x : Ext K B G0 H0 G H
  h0 : H0 p0 = none ∧ H0 pf = none
  g : G p0 = none ∧ G pf = none
  nb : ¬ isB B p0 ∧ ¬ isB B pf
  ne : p0 ≠ pf
  a : ∃ xs, H p0 = some (.lst xs) ∧ H pf = some (.lst [.ref p0, .int k]) ∧ DpAll K G xs ds
theorem One.step {G0 H0 G2 H2 : Hp} {p0 pf : Addr} {k : Int} (l : One K B G0 H0 G H p0 pf ds k) (X : Ext K B G H G2 H2) : One K B G0 H0 G2 H2 p0 pf ds k := by
  obtain ⟨xs, a0, af, d0⟩ := l.a
  exact ⟨l.x.trans X, l.h0, ⟨X.fr _ _ a0 l.g.1, X.fr _ _ af l.g.2⟩, l.nb, l.ne, xs, X.hh _ _ l.nb.1 a0, X.hh _ _ l.nb.2 af, dpAll_mono X.gg d0⟩
/-- all of it, frozen for a test -/
theorem One.see {G0 H0 : Hp} {p0 pf : Addr} {k : Int} (l : One K B G0 H0 G H p0 pf ds k) : ∃ G1, Ex G G1 ∧ Ok K B G1 H ∧ Dp K G1 (.ref pf) (.list [.list ds, .int k]) := by
  obtain ⟨xs, a0, af, d0⟩ := l.a
  have gf : upd G p0 (.lst xs) pf = none := by
    rw [upd_ne (Ne.symm l.ne)]
    exact l.g.2
  have e0 : Ex G (upd G p0 (.lst xs)) := Ex.new l.g.1
  have ef : Ex (upd G p0 (.lst xs)) (upd (upd G p0 (.lst xs)) pf (.lst [.ref p0, .int k])) := Ex.new gf
  have F := (l.x.freeze l.h0.1 l.g.1 l.nb.1 a0).freeze l.h0.2 gf l.nb.2 af
  exact ⟨_, e0.trans ef, F.ok, .lst (SqL.of upd_same) (.cons (dp_mono ef (.lst (SqL.of upd_same) (dpAll_mono e0 d0))) (.cons (.int k) .nil))⟩
end
end Lw

namespace Lw
open PySem.Spec PySem L2 PyProof.Rows
open Evl (Ex Ex.refl Ex.trans Ex.new Ex.off ex_rd ex_l ex_t)
/-! try .. except (X, Y) as n -/
section
variable {X : Cx} {x y n : Str} {c1 c2 : Value} {i : Nat} {body suite : List Stmt} {b₀ : Stmt} {np np2 tp pos pos' : Pos} {kk : Nat} {tb : WX → TS} {ts : Addr → Value → Option Addr → TS} {Wout : WX}
end
end Lw

namespace Lw
open PySem.Spec PySem L2 PyProof.Rows
open Evl (Ex Ex.refl Ex.trans Ex.new Ex.off ex_rd ex_l ex_t)
/-! texts; first, *others = a list; dicts of the top with texts for keys -/
section
variable {s : Shared} {prog : Program} {w : World} {A : Around} {E : Value → Shared → Prop}
end
section
variable {X : Cx} {pos : Pos}
end
/-! ### texts -/
section
variable {K : Fg} {B : Bg} {G G' H : Hp} {σ : L2.St} {te ta tb : TE} {tr : TA} {d : PyData} {ds es : List PyData} {D : Ends} {t u : TS} {a b : Str} {ys : List Str}
theorem strs_dp : ∀ (ys : List Str), DpAll K H (ys.map V.str) (ys.map PyData.str)
  | [] => .nil
  | y :: ys => .cons (.str y) (strs_dp ys)
end
/-! ### dicts of the top -/
/-- what the dict at p, of the top, holds -/
structure WDct (K : Fg) (w : World) (p : Addr) (kvs : List (Str × V)) : Prop where
  ex : ∃ es n, K.lookup p = some ⟨.type "dict", none, .dict es n, #[]⟩ ∧ PySem.W.KeysLit w.params es.toList
  low : (p == sysModules) = false
  is : ∀ q ∈ kvs, ∃ u, PySem.W.nsIn K p q.1 = some (some u) ∧ RelV q.2 u
  no : ∀ z, (∀ q ∈ kvs, q.1 ≠ z) → PySem.W.nsIn K p z = some none
section
variable {X : Cx}
theorem WDct.get {K : Fg} {w : World} {p : Addr} {kvs : List (Str × V)} {q : Str × V} (W : WDct K w p kvs) (h : q ∈ kvs) : KDct K w p q.1 q.2 := by
  obtain ⟨es, n, hl, hk⟩ := W.ex
  obtain ⟨u, h1, h2⟩ := W.is q h
  exact ⟨es, n, u, hl, hk, h1, h2⟩
end
end Lw

namespace Lw
open PySem.Spec PySem L2 PyProof.Rows
open Evl (Ex Ex.refl Ex.trans Ex.new Ex.off ex_rd ex_l ex_t)
/-! numbers as texts, words -/
theorem diI {a b : Int} : decide (vOf (.int a) = vOf (.int b)) = decide (a = b) := decide_eq_decide.mpr ⟨fun h => V.int.inj h, fun h => congrArg V.int h⟩
section
variable {K : Fg} {B : Bg} {G G' H : Hp} {σ : L2.St} {te ta tb : TE} {tr : TA} {d : PyData} {ds : List PyData} {D : Ends} {t u : TS} {w : World} {p : Addr} {kvs : List (Str × V)}
end
end Lw

namespace Lw
open PySem.Spec PySem L2 PyProof.Rows
open Evl (Ex Ex.refl Ex.trans Ex.new Ex.off ex_rd ex_l ex_t)
/-! own errors over ValueError with one field, laid by an __init__ -/
/-- what is to be known of such a class: its __init__ at fI, the field at -/
structure AtC (K : Fg) (C fI : Addr) : Prop where
  o : OexC K C
  x : XfC K C
  no : PySem.W.findIn K (.ref C) "at" = some none
  i : PySem.W.findIn K (.ref C) "__init__" = some (some (.ref fI))
  t : PySem.W.typeIn K (.ref fI) = some (.type "function")
/-- what such an __init__ does -/
def sp_at (K : Fg) : Sp := fun vs H Q E => ∃ (a C : Addr) (v : V), vs = [.ref a, v] ∧ OexC K C ∧ PySem.W.findIn K (.ref C) "at" = some none ∧ H a = some (exo a C none) ∧ ∀ dx, H dx = none → dx ≠ a → Q .non (upd (upd H dx (exd dx [("at", v)])) a (exo a C (some dx)))
/-- the __init__ of such a class, by its promise -/
structure GoodI (P : Program) (w : World) (K : Fg) (mg : Str → Option Value) (base : Heap) (CX : CXT) (k : Nat) (f : Addr) : Prop where
  ex : ∃ fd, FnOk P w K mg base CX k f fd ["self", "at"] (sp_at K) ∧ Binds K fd ["self", "at"] []
/-- a refusal at a step: the class, and the number at the field -/
def RaiA (K : Fg) (B : Bg) (G H : Hp) (E : XK) (C : Addr) (n : Int) : Prop := ∀ G2 H2 d, Ext K B G H G2 H2 → H2 d = some (.xd [("at", .int n)]) → E (.ref C) (some d) H2
section
variable {K : Fg} {B : Bg} {G G1 H H1 : Hp} {σ : L2.St} {te : TE} {C fI : Addr} {n : Int} {Q : XK}
theorem RaiA.mono (X : Ext K B G H G1 H1) (h : RaiA K B G H Q C n) : RaiA K B G1 H1 Q C n := fun G2 H2 d X2 hd => h G2 H2 d (X.trans X2) hd
end
end Lw

namespace Lw
open PySem.Spec PySem L2 PyProof.Rows
open Evl (Ex Ex.refl Ex.trans Ex.new Ex.off ex_rd ex_l ex_t)
/-! texts: items, parts, sign by sign; dicts of one's own with texts for keys; what is drawn -/
section
variable {K : Fg} {B : Bg} {G G' H : Hp} {σ : L2.St} {te ta tb : TE} {tr : TA} {d : PyData} {ds es : List PyData} {D : Ends} {t u : TS} {a b : Str} {ys : List Str}
/-! ### a dict of one's own, texts for keys, numbers for values -/
/-! ### texts that are drawn -/
end
/-! ### joined parts by their lengths -/
/-! ### figures -/
end Lw

namespace Lw
open PySem.Spec PySem L2 PyProof.Rows
open Evl (Ex Ex.refl Ex.trans Ex.new Ex.off ex_rd ex_l ex_t)
/-! lists made anew of drawn items: put together, cut, joined to texts -/
section
variable {K : Fg} {B : Bg} {G G' H : Hp} {σ : L2.St} {te ta tb ti : TE} {tr : TA} {d : PyData} {ds es : List PyData} {D : Ends} {t u : TS} {S S1 S2 : List PyData → Prop}
theorem EvFS.mono (e : Ex G G') (c : Cel K B G) (h : EvFS K B te σ G S) : EvFS K B te σ G' S := fun H eH Q q =>
  h H (eH.less e c) Q fun p xs ds G2 H2 s X hp hg nb h2 a => by
    obtain ⟨X2, e2⟩ := X.wide e eH
    exact q p xs ds _ H2 s X2 hp (join_none (eH.e.off hp) hg) nb h2 (dpAll_mono e2 a)
end
end Lw

namespace Lw
open PySem.Spec PySem L2 PyProof.Rows
open Evl (Ex Ex.refl Ex.trans Ex.new Ex.off ex_rd ex_l ex_t)
section
variable {K : Fg} {B : Bg} {G G' H : Hp} {σ : L2.St} {te ta tb : TE} {tr : TA} {tt : TT} {d : PyData} {ds es : List PyData} {D : Ends} {t u : TS}
/-- for x in xs, a tuple; the invariant over the whole heap -/
theorem sq_forT0 {i : Nat} {Pv : Hp → Nat → L2.St → Hp → Prop} (h : EvD K B te σ G (.tuple ds)) (e : Ok K B G H) (h0 : ∀ G1 H1, Ext K B G H G1 H1 → Pv G1 0 σ H1) (hk : ∀ G1 j σ' H', Pv G1 j σ' H' → Ex G1 H')
    (hs : ∀ G1 H1, Ext K B G H G1 H1 → ∀ (j : Nat) d v σ' H', ds[j]? = some d → Dp K G1 v d → Pv G1 j σ' H' → t (lpE D u fun σ2 H2 => Pv G1 (j + 1) σ2 H2) (σ'.set i (some v)) H')
    (hd : ∀ G1 H1, Ext K B G H G1 H1 → ∀ σ' H', Pv G1 ds.length σ' H' → u D σ' H') : tSeq (tFor (iTup K te) (gName i) t) u D σ H :=
  h H e _ fun v G1 H1 X dv => by
    obtain ⟨a, xs, rfl, hl, hx⟩ := dp_tup dv
    refine ⟨a, rfl, ⟨xs, ex_t X.ok.e hl⟩, for_tup (K := K) (a := a) (xs := xs) (fun j σ' H' => Pv G1 j σ' H') (h0 G1 H1 X) ?_ ?_ ?_⟩
    · intro j σ' H' _ p
      exact ex_t (hk G1 j σ' H' p) hl
    · intro j y σ' H' hj p
      obtain ⟨d, hd', dy⟩ := dpAll_at hx hj
      exact hs G1 H1 X j d y σ' H' hd' dy p
    · intro σ' H' p
      rw [dpAll_len hx] at p
      exact hd G1 H1 X σ' H' p
/-! ### a dict with numbers for keys and for values -/
end
/-! ### what is joined to what: a forest by its parents -/
/-- from a by parents to a root, in n steps -/
def Rtn (F : Int → Int) : Nat → Int → Int → Prop
  | 0, a, r => F a = a ∧ r = a
  | n + 1, a, r => F a ≠ a ∧ Rtn F n (F a) r
theorem Rtn.root {F : Int → Int} : ∀ {n : Nat} {a r : Int}, Rtn F n a r → F r = r
  | 0, _, _, h => by
    rw [h.2]
    exact h.1
  | _ + 1, _, _, h => h.2.root
theorem Rtn.one {F : Int → Int} : ∀ {n m : Nat} {a r s : Int}, Rtn F n a r → Rtn F m a s → r = s
  | 0, 0, _, _, _, h, k => h.2.trans k.2.symm
  | 0, _ + 1, _, _, _, h, k => absurd h.1 k.1
  | _ + 1, 0, _, _, _, h, k => absurd k.1 h.1
  | _ + 1, _ + 1, _, _, _, h, k => h.2.one k.2
end Lw

namespace Lw
open PySem.Spec PySem L2 PyProof.Rows
open Evl (Ex Ex.refl Ex.trans Ex.new Ex.off ex_rd ex_l ex_t)
section
variable {K : Fg} {B : Bg} {G G' H : Hp} {σ : L2.St} {te ta tb : TE} {tr : TA} {tt : TT} {d : PyData} {ds es : List PyData} {D : Ends} {t u : TS}
end
end Lw

namespace Lw
open PySem.Spec PySem L2 PyProof.Rows
open Evl (Ex Ex.refl Ex.trans Ex.new Ex.off ex_rd ex_l ex_t)
/-! zip over a tuple and a list, in any order; a dict {x: x for x in a list of numbers} -/
section
variable {K : Fg} {B : Bg} {G G' H : Hp} {σ : L2.St} {te ta tb : TE} {tr : TA} {tt : TT} {d : PyData} {ds es : List PyData} {D : Ends} {t u : TS} {n : Nat}
/-! ### a dict and a list that both grow -/
structure DL (K : Fg) (B : Bg) (G0 H0 G H : Hp) (p : Addr) (kvs : List (Key × V)) (f : Addr) (ds : List PyData) : Prop where
  d : LoD K B G0 H0 G H p kvs
  l : Loo K B G0 H0 G H f ds
  ne : p ≠ f
theorem DL.of {G0 H0 G2 H2 : Hp} {p f : Addr} {kvs : List (Key × V)} (a : LoD K B G0 H0 G H p kvs) (b : Loo K B G H G2 H2 f ds) : DL K B G0 H0 G2 H2 p kvs f ds :=
  ⟨a.step b.x, ⟨a.x.trans b.x, a.x.old b.nb b.h0, b.g, b.nb, b.h⟩, fun e => by
    have z := a.h
    rw [e, b.h0] at z
    cases z⟩
theorem DL.step {G0 H0 G2 H2 : Hp} {p f : Addr} {kvs : List (Key × V)} (a : DL K B G0 H0 G H p kvs f ds) (X : Ext K B G H G2 H2) : DL K B G0 H0 G2 H2 p kvs f ds := ⟨a.d.step X, a.l.step X, a.ne⟩
theorem DL.put {G0 H0 : Hp} {p f : Addr} {kvs : List (Key × V)} (kvs' : List (Key × V)) (a : DL K B G0 H0 G H p kvs f ds) : DL K B G0 H0 G (upd H p (.dK kvs')) p kvs' f ds := by
  obtain ⟨xs, h1, h2⟩ := a.l.h
  refine ⟨a.d.put kvs', ⟨(a.d.put kvs').x, a.l.h0, a.l.g, a.l.nb, xs, ?_, h2⟩, a.ne⟩
  rw [upd_ne (Ne.symm a.ne)]
  exact h1
end
/-! ### folds, item by item -/
end Lw

namespace Lw
open PySem.Spec PySem L2 PyProof.Rows
open Evl (Ex Ex.refl Ex.trans Ex.new Ex.off ex_rd ex_l ex_t)
/-! x = {k: v for ..}; sorted of numbers; two lists bent at their ends -/
section
variable {X : Cx} {pins : List (Addr × Obj)} {σ : L2.St} {D : Ends} {i : Nat} {y : Str} {py : Pos}
end
section
variable {s : Shared} {P : Program} {w : World} {A : Around} {E : Value → Shared → Prop}
/-- the items of a tuple, taken into a list of their own -/
theorem collect_tup {t : Addr} {vs : List Value} {Q : List Value → Shared → Prop} (ht : s.heap.IsTuple t vs.toArray) (z : vs.length ≤ sizeLine)
    (k : ∀ h', (∀ b o, s.heap.get? b = some o → h'.get? b = some o) → s.heap.objs.size ≤ h'.objs.size → Q vs { s with heap := h' }) : wpAny (model P w) A (collect (.ref t)) Q E s := by
  obtain ⟨o, ho, cl, n, its⟩ := id ht
  have new : (s.heap.push (seqObj "list" #[] 0)).get? s.heap.objs.size = some (seqObj "list" #[] 0) := Heap.get?_push_size _ rfl
  have old : ∀ b u, s.heap.get? b = some u → (s.heap.push (seqObj "list" #[] 0)).get? b = some u := fun b u e => Heap.get?_push_of_some _ e
  have q := k ((s.heap.push (seqObj "list" #[] 0)).update s.heap.objs.size (Obj.mapSeq (· ++ vs.toArray))) (fun b u e => by
    rw [Heap.get?_update_ne _ _ _ _ (Nat.ne_of_lt (Heap.lt_size e))]
    exact old b u e) (by rw [Heap.size_update, size_push']; exact Nat.le_succ _)
  have got := get?_update_seq (xs := #[]) (n := 0) new (· ++ vs.toArray)
  have fill : ∀ {A' : Around} {Q' : Fin → Shared → Prop} {E' : Value → Shared → Prop}, Q' (.done (.ret (.ref s.heap.objs.size))) { s with heap := (s.heap.push (seqObj "list" #[] 0)).update s.heap.objs.size (Obj.mapSeq (· ++ vs.toArray)) } →
      wpAny (model P w) A' (Builtin.List.listExtendWith (.ref s.heap.objs.size) (.ref t) (.ref s.heap.objs.size)) Q' E' { s with heap := s.heap.push (seqObj "list" #[] 0) } := fun {A' Q' E'} r => by
    show wpAny _ _ (typeOf (.ref t) >>= _) _ _ _
    refine wpAny_bind (wpAny_typeOf (T := "tuple") ⟨o, old _ _ ho, cl⟩ ?_)
    have tt : (Value.type "tuple" == Value.type "tuple") = true := by rfl
    rw [if_pos (by rw [tt, Bool.or_true])]
    refine wpAny_bind (listItems_at (old _ _ ho) its (wpAny_bind (listItems_at (xs := #[]) (n := 0) new rfl ?_)))
    rw [if_neg (by simp)]
    exact wpAny_bind (listUpdate_at (xs := #[]) (n := 0) new rfl (wpAny_pure r) (Nat.zero_le _) (by
      show (#[] ++ vs.toArray).size ≤ sizeLine + 1
      simp only [Array.size_append, List.size_toArray, List.length_nil]
      omega))
  have body : Builtin.«proto.collect» ⟨[.ref t], []⟩ = (do again (.builtin "list.__iadd__" ⟨[← newList [], .ref t], []⟩)) := rfl
  refine (show wpAny _ _ (runValue (.builtin "proto.collect" ⟨[.ref t], []⟩) >>= _) _ _ _ from wpAny_bind (wpAny_runValue (codeAny_builtin entry_proto_collect' ?_)))
  rw [body]
  refine wpAny_bind (wpAny_newList (wpAny_pure ⟨Code.quiet_builtin _ (by decide +kernel), codeAny_builtin entry_list_iadd' (fill ?_)⟩))
  refine (show wpAny _ _ (load s.heap.objs.size >>= _) _ _ _ from wpAny_bind (wpAny_load got ?_))
  have e : ((#[] : Array Value) ++ vs.toArray).toList = vs := by simp
  have fin : wpAny (model P w) A (pure ((#[] : Array Value) ++ vs.toArray).toList) Q E { s with heap := (s.heap.push (seqObj "list" #[] 0)).update s.heap.objs.size (Obj.mapSeq (· ++ vs.toArray)) } := by
    rw [e]
    exact wpAny_pure q
  exact fin
end
/-! numbers, rising -/
def srtI (ns : List Int) : List Int := ns.mergeSort fun a b => decide (a ≤ b)
theorem srtI_perm (ns : List Int) : (srtI ns).Perm ns := List.mergeSort_perm ns _
theorem srtI_srt (ns : List Int) : (srtI ns).Pairwise (· ≤ ·) := by
  have tr : ∀ a b c : Int, decide (a ≤ b) = true → decide (b ≤ c) = true → decide (a ≤ c) = true := fun a b c h1 h2 => decide_eq_true (Int.le_trans (of_decide_eq_true h1) (of_decide_eq_true h2))
  have to : ∀ a b : Int, (decide (a ≤ b) || decide (b ≤ a)) = true := fun a b => by
    rcases Int.le_total a b with h | h
    · rw [decide_eq_true h, Bool.true_or]
    · rw [decide_eq_true h, Bool.or_true]
  exact (List.pairwise_mergeSort tr to ns).imp fun h => of_decide_eq_true h
section
variable {K : Fg} {B : Bg} {G G' H : Hp} {σ : L2.St} {te ta tb : TE} {tr : TA} {tt : TT} {d : PyData} {ds es : List PyData} {D : Ends} {t u : TS} {n : Nat}
end
end Lw

namespace Lw
open PySem.Spec PySem L2 PyProof.Rows
open Evl (Ex Ex.refl Ex.trans Ex.new Ex.off ex_rd ex_l ex_t)
section
variable {K : Fg} {B : Bg} {G G' H : Hp} {σ : L2.St} {te ta tb : TE} {tr : TA} {tt : TT} {d : PyData} {ds es : List PyData} {D : Ends} {t u : TS} {n : Nat}
end
end Lw

namespace Lw
open PySem.Spec PySem L2 PyProof.Rows
open Evl (Ex Ex.refl Ex.trans Ex.new Ex.off ex_rd ex_l ex_t)
/-! sum(rows, start=[]) -/
abbrev lsO (vs : List Value) (c : Nat) : Obj := { cls := .type "list", data := .seq vs.toArray c }
section
variable {s : Shared} {P : Program} {w : World} {A : Around} {E : Value → Shared → Prop}
/-- how far a sum of lists has come: S holds the list T so far, I goes over the list at l -/
structure SumAt (h0 : Heap) (l I S T T0 : Addr) (rows : List (List Value)) (i : Nat) (h : Heap) : Prop where
  keep : ∀ b o, h0.get? b = some o → h.get? b = some o
  sz : h0.objs.size ≤ h.objs.size
  it : h.IsListIter I l i
  st : ∃ c, h.get? S = some (lsO [.ref T] c)
  tot : ∃ c, h.get? T = some (lsO (rows.take i).flatten c)
  oI : h0.get? I = none
  oS : h0.get? S = none
  IS : I ≠ S
  TI : T ≠ I
  TS : T ≠ S
  nw : (i = 0 ∧ T = T0) ∨ h0.objs.size ≤ T
end
section
variable {K : Fg} {B : Bg} {G G' H : Hp} {σ : L2.St} {te ta tb : TE} {tr : TA} {tt : TT} {d : PyData} {ds es : List PyData} {D : Ends} {t u : TS} {n : Nat}
end
end Lw

namespace Lw
open PySem.Spec PySem L2 PyProof.Rows
/-! one tie less parts one piece at the most -/
structure Cut (N : Nat) (adj adj' : Nat → List Nat) (u v : Nat) : Prop where
  g : Gph N adj
  g' : Gph N adj'
  hu : u < N
  hv : v < N
  sub : ∀ i, i < N → ∀ j, j ∈ adj' i → j ∈ adj i
  cut : ∀ i, i < N → ∀ j, j ∈ adj i → j ∈ adj' i ∨ (Con adj' i u ∧ Con adj' j v) ∨ (Con adj' i v ∧ Con adj' j u)
  con : Con adj u v
section
variable {N : Nat} {adj adj' : Nat → List Nat} {u v : Nat}
theorem Cut.old (c : Cut N adj adj' u v) {i j : Nat} (hi : i < N) (h : Con adj' i j) : Con adj i j := by
  induction h with
  | here => exact .here _
  | more b e ih => exact .more ih (c.sub _ (b.lt c.g' hi) _ e)
theorem Cut.new (c : Cut N adj adj' u v) {i j : Nat} (hi : i < N) (h : Con adj i j) : Con adj' i j ∨ ((Con adj' i u ∨ Con adj' i v) ∧ (Con adj' j u ∨ Con adj' j v)) := by
  induction h with
  | here => exact .inl (.here _)
  | @more j k b e ih =>
    have hj := b.lt c.g hi
    rcases c.cut j hj k e with z | ⟨z1, z2⟩ | ⟨z1, z2⟩
    · have kj : Con adj' k j := Con.symm c.g' (.more (.here _) z) hj
      rcases ih with y | ⟨y1, y2⟩
      · exact .inl (.more y z)
      · exact .inr ⟨y1, y2.imp (kj.trans ·) (kj.trans ·)⟩
    · rcases ih with y | ⟨y1, _⟩
      · exact .inr ⟨.inl (y.trans z1), .inr z2⟩
      · exact .inr ⟨y1, .inr z2⟩
    · rcases ih with y | ⟨y1, _⟩
      · exact .inr ⟨.inr (y.trans z1), .inl z2⟩
      · exact .inr ⟨y1, .inl z2⟩
end
/-! labels as lists; rows of places with one label -/
/-- each label is the least place that has it -/
structure IsLab (N : Nat) (lb : List Int) : Prop where
  len : lb.length = N
  at_ : ∀ i, i < N → ∃ m : Nat, lb.getD i 0 = (m : Int) ∧ m ≤ i ∧ lb.getD m 0 = (m : Int)
def qsL (lb : List Int) (p : Int) : List Int := (List.range lb.length).filterMap fun k : Nat => if lb.getD k 0 = p then some (k : Int) else none
def rowsL (lb : List Int) : List (List Int) := (sset lb).map (qsL lb)
theorem qsL_mem {lb : List Int} {p z : Int} : z ∈ qsL lb p ↔ ∃ k : Nat, k < lb.length ∧ lb.getD k 0 = p ∧ z = (k : Int) := by
  unfold qsL
  rw [List.mem_filterMap]
  constructor
  · rintro ⟨k, hk, e⟩
    split at e
    · exact ⟨k, List.mem_range.mp hk, by assumption, (Option.some.inj e).symm⟩
    · cases e
  · rintro ⟨k, hk, e, rfl⟩
    exact ⟨k, List.mem_range.mpr hk, by rw [if_pos e]⟩
theorem qsL_at {lb : List Int} {p : Int} {k : Nat} (hk : k < lb.length) : (k : Int) ∈ qsL lb p ↔ lb.getD k 0 = p := by
  rw [qsL_mem]
  constructor
  · rintro ⟨m, _, e, z⟩
    obtain rfl : k = m := by omega
    exact e
  · exact fun e => ⟨k, hk, e, rfl⟩
theorem range_up (n : Nat) : (List.range n).Pairwise (· < ·) := List.pairwise_lt_range
theorem qsL_up (lb : List Int) (p : Int) : (qsL lb p).Pairwise (· < ·) := by
  unfold qsL
  refine List.Pairwise.filterMap _ ?_ (range_up _)
  intro a b h x hx y hy
  split at hx
  · obtain rfl := Option.some.inj hx
    split at hy
    · obtain rfl := Option.some.inj hy
      omega
    · cases hy
  · cases hx
theorem up_nd {l : List Int} (h : l.Pairwise (· < ·)) : l.Nodup := h.imp fun h e => by omega
theorem getD_mem {lb : List Int} {k : Nat} (h : k < lb.length) : lb.getD k 0 ∈ lb := by
  rw [List.getD_eq_getElem?_getD, List.getElem?_eq_getElem h]
  exact List.getElem_mem h
theorem mem_getD {lb : List Int} {p : Int} (h : p ∈ lb) : ∃ k : Nat, k < lb.length ∧ lb.getD k 0 = p := by
  obtain ⟨k, hk, e⟩ := List.getElem_of_mem h
  refine ⟨k, hk, ?_⟩
  rw [List.getD_eq_getElem?_getD, List.getElem?_eq_getElem hk]
  exact e
/-- numbers of a list without repeats, rising -/
theorem srtI_up {l : List Int} (h : l.Nodup) : (srtI l).Pairwise (· < ·) := by
  have nd : (srtI l).Nodup := (srtI_perm l).nodup_iff.mpr h
  refine ((srtI_srt l).and nd).imp fun {a b} h => ?_
  have := h.1
  have := h.2
  omega
theorem srtI_is {l m : List Int} (h : l.Nodup) (hm : m.Pairwise (· < ·)) (e : ∀ z, z ∈ l ↔ z ∈ m) : srtI l = m :=
  srt_uniq (srtI_up h) hm fun z => by rw [(srtI_perm l).mem_iff, e]
theorem rows_nd {lb : List Int} {ps : List Int} (h : ps.Nodup) : ((ps.map (qsL lb)).flatten).Nodup := by
  show List.Pairwise (· ≠ ·) _
  rw [List.pairwise_flatten]
  refine ⟨fun l hl => ?_, List.pairwise_map.mpr (h.imp fun {p q} ne x hx y hy e => ?_)⟩
  · obtain ⟨p, _, rfl⟩ := List.mem_map.mp hl
    exact up_nd (qsL_up lb p)
  · obtain ⟨k, hk, e1, rfl⟩ := qsL_mem.mp hx
    rw [e] at hx
    subst e
    exact ne (e1.symm.trans ((qsL_at hk).mp hy))
theorem IsLab.self {N : Nat} {lb : List Int} (h : IsLab N lb) {p : Int} (hp : p ∈ lb) : ∃ m : Nat, p = (m : Int) ∧ m < N ∧ lb.getD m 0 = p ∧ ∀ k : Nat, k < N → lb.getD k 0 = p → m ≤ k := by
  obtain ⟨k, hk, rfl⟩ := mem_getD hp
  rw [h.len] at hk
  obtain ⟨m, e, le, s⟩ := h.at_ k hk
  refine ⟨m, e, by omega, by rw [s, e], fun j hj ej => ?_⟩
  obtain ⟨m2, e2, le2, _⟩ := h.at_ j hj
  rw [ej, e] at e2
  omega
/-- what one more lead does to labels: it parts a piece in two, or none -/
structure Parts (N : Nat) (lb lb' : List Int) (u v : Nat) : Prop where
  l : IsLab N lb
  l' : IsLab N lb'
  hu : u < N
  hv : v < N
  eq : ∀ i j, i < N → j < N → (lb.getD i 0 = lb.getD j 0 ↔ lb'.getD i 0 = lb'.getD j 0 ∨ ((lb'.getD i 0 = lb'.getD u 0 ∨ lb'.getD i 0 = lb'.getD v 0) ∧ (lb'.getD j 0 = lb'.getD u 0 ∨ lb'.getD j 0 = lb'.getD v 0)))
section
variable {N : Nat} {lb lb' : List Int} {u v : Nat}
theorem Parts.same (h : Parts N lb lb' u v) (e : lb'.getD u 0 = lb'.getD v 0) : lb = lb' := by
  have key : ∀ i j, i < N → j < N → (lb.getD i 0 = lb.getD j 0 ↔ lb'.getD i 0 = lb'.getD j 0) := fun i j hi hj => by
    rw [h.eq i j hi hj]
    exact ⟨fun z => z.elim id fun ⟨a, b⟩ => by rcases a with a | a <;> rcases b with b | b <;> simp_all, .inl⟩
  apply List.ext_getElem?
  intro i
  by_cases hi : i < N
  · have e1 : lb[i]? = some (lb.getD i 0) := by
      rw [List.getD_eq_getElem?_getD, List.getElem?_eq_getElem (by rw [h.l.len]; exact hi)]
      rfl
    have e2 : lb'[i]? = some (lb'.getD i 0) := by
      rw [List.getD_eq_getElem?_getD, List.getElem?_eq_getElem (by rw [h.l'.len]; exact hi)]
      rfl
    rw [e1, e2]
    obtain ⟨m, a1, a2, a3⟩ := h.l.at_ i hi
    obtain ⟨n, b1, b2, b3⟩ := h.l'.at_ i hi
    have c1 : lb'.getD m 0 = lb'.getD i 0 := (key m i (by omega) hi).mp (by rw [a3, a1])
    have c2 : lb.getD n 0 = lb.getD i 0 := (key n i (by omega) hi).mpr (by rw [b3, b1])
    obtain ⟨x, x1, x2, _⟩ := h.l.at_ n (by omega)
    obtain ⟨y, y1, y2, _⟩ := h.l'.at_ m (by omega)
    congr 1
    omega
  · rw [List.getElem?_eq_none (by rw [h.l.len]; omega), List.getElem?_eq_none (by rw [h.l'.len]; omega)]
/-- the rows that are new, and those that were -/
theorem Parts.rows (h : Parts N lb lb' u v) (ne : lb'.getD u 0 ≠ lb'.getD v 0) :
    (rowsL lb').filter (fun r => !decide (r ∈ rowsL lb)) = (sset [lb'.getD u 0, lb'.getD v 0]).map (qsL lb') ∧ (rowsL lb).filter (fun r => !decide (r ∈ rowsL lb')) = [qsL lb (lb.getD u 0)] ∧
      srtI ((sset [lb'.getD u 0, lb'.getD v 0]).map (qsL lb')).flatten = qsL lb (lb.getD u 0) := by
  have ln := h.l.len
  have ln' := h.l'.len
  have uu : lb.getD u 0 = lb.getD v 0 := (h.eq u v h.hu h.hv).mpr (.inr ⟨.inl rfl, .inr rfl⟩)
  have mu : (u : Int) ∈ qsL lb (lb.getD u 0) := (qsL_at (by rw [ln]; exact h.hu)).mpr rfl
  have mv : (v : Int) ∈ qsL lb (lb.getD u 0) := (qsL_at (by rw [ln]; exact h.hv)).mpr uu.symm
  -- rows that stay
  have stay : ∀ i, i < N → ¬ (lb'.getD i 0 = lb'.getD u 0 ∨ lb'.getD i 0 = lb'.getD v 0) → qsL lb (lb.getD i 0) = qsL lb' (lb'.getD i 0) := fun i hi no => by
    refine srt_uniq (qsL_up _ _) (qsL_up _ _) fun z => ?_
    rw [qsL_mem, qsL_mem, ln, ln']
    have one : ∀ k, k < N → (lb.getD k 0 = lb.getD i 0 ↔ lb'.getD k 0 = lb'.getD i 0) := fun k hk => by
      rw [h.eq k i hk hi]
      exact ⟨fun z => z.elim id fun ⟨_, b⟩ => absurd b no, .inl⟩
    exact ⟨fun ⟨k, hk, e, z⟩ => ⟨k, hk, (one k hk).mp e, z⟩, fun ⟨k, hk, e, z⟩ => ⟨k, hk, (one k hk).mpr e, z⟩⟩
  have inr : ∀ i, i < N → qsL lb (lb.getD i 0) ∈ rowsL lb := fun i hi => List.mem_map.mpr ⟨_, sset_mem.mpr (getD_mem (by rw [ln]; exact hi)), rfl⟩
  have inr' : ∀ i, i < N → qsL lb' (lb'.getD i 0) ∈ rowsL lb' := fun i hi => List.mem_map.mpr ⟨_, sset_mem.mpr (getD_mem (by rw [ln']; exact hi)), rfl⟩
  -- a row of the one kind that holds u and v is none of the other
  have apart : ∀ p, qsL lb' p ∈ rowsL lb → p = lb'.getD u 0 ∨ p = lb'.getD v 0 → False := fun p hp hc => by
    obtain ⟨r, _, er⟩ := List.mem_map.mp hp
    have both : (u : Int) ∈ qsL lb' p ∧ (v : Int) ∈ qsL lb' p := by
      rw [← er]
      rcases hc with z | z
      · have a : (u : Int) ∈ qsL lb r := by
          rw [er]
          exact (qsL_at (by rw [ln']; exact h.hu)).mpr z.symm
        have e := (qsL_at (by rw [ln]; exact h.hu)).mp a
        exact ⟨a, (qsL_at (by rw [ln]; exact h.hv)).mpr (uu.symm.trans e)⟩
      · have a : (v : Int) ∈ qsL lb r := by
          rw [er]
          exact (qsL_at (by rw [ln']; exact h.hv)).mpr z.symm
        have e := (qsL_at (by rw [ln]; exact h.hv)).mp a
        exact ⟨(qsL_at (by rw [ln]; exact h.hu)).mpr (uu.trans e), a⟩
    have e1 := (qsL_at (by rw [ln']; exact h.hu)).mp both.1
    have e2 := (qsL_at (by rw [ln']; exact h.hv)).mp both.2
    exact ne (e1.trans e2.symm)
  have au : lb'.getD u 0 ∈ lb' := getD_mem (by rw [ln']; exact h.hu)
  have av : lb'.getD v 0 ∈ lb' := getD_mem (by rw [ln']; exact h.hv)
  have two : ∀ z : Int, z ∈ [lb'.getD u 0, lb'.getD v 0] ↔ z = lb'.getD u 0 ∨ z = lb'.getD v 0 := fun z => by simp
  have filt : ∀ {f : Int → List Int} {p : List Int → Bool} (ps : List Int), (ps.map f).filter p = (ps.filter fun x => p (f x)).map f := fun {f p} ps => by
    rw [List.filter_map]
    rfl
  refine ⟨?_, ?_, ?_⟩
  · unfold rowsL
    rw [filt]
    congr 1
    refine srt_uniq ((sset_srt lb').filter _) (sset_srt _) fun z => ?_
    rw [List.mem_filter, sset_mem, sset_mem, two]
    constructor
    · rintro ⟨hz, hq⟩
      have hq : qsL lb' z ∉ rowsL lb := by simpa [rowsL] using hq
      obtain ⟨i, hi, rfl⟩ := mem_getD hz
      rw [ln'] at hi
      by_cases c : lb'.getD i 0 = lb'.getD u 0 ∨ lb'.getD i 0 = lb'.getD v 0
      · exact c
      · rw [← stay i hi c] at hq
        exact absurd (inr i hi) hq
    · intro hz
      refine ⟨by rcases hz with rfl | rfl <;> assumption, ?_⟩
      have q : qsL lb' z ∉ rowsL lb := fun q => apart z q hz
      simpa [rowsL] using q
  · have e : (rowsL lb).filter (fun r => !decide (r ∈ rowsL lb')) = (sset [lb.getD u 0]).map (qsL lb) := by
      unfold rowsL
      rw [filt]
      congr 1
      refine srt_uniq ((sset_srt lb).filter _) (sset_srt _) fun z => ?_
      rw [List.mem_filter, sset_mem, sset_mem, List.mem_singleton]
      constructor
      · rintro ⟨hz, hq⟩
        have hq : qsL lb z ∉ rowsL lb' := by simpa [rowsL] using hq
        obtain ⟨i, hi, rfl⟩ := mem_getD hz
        rw [ln] at hi
        by_cases c : lb'.getD i 0 = lb'.getD u 0 ∨ lb'.getD i 0 = lb'.getD v 0
        · exact (h.eq i u hi h.hu).mpr (.inr ⟨c, .inl rfl⟩)
        · rw [stay i hi c] at hq
          exact absurd (inr' i hi) hq
      · rintro rfl
        refine ⟨getD_mem (by rw [ln]; exact h.hu), ?_⟩
        have q : qsL lb (lb.getD u 0) ∉ rowsL lb' := fun q => by
          obtain ⟨r, _, er⟩ := List.mem_map.mp q
          rw [← er] at mu mv
          have e1 := (qsL_at (by rw [ln']; exact h.hu)).mp mu
          have e2 := (qsL_at (by rw [ln']; exact h.hv)).mp mv
          exact ne (e1.trans e2.symm)
        simpa [rowsL] using q
    rw [e]
    rfl
  · refine srtI_is (rows_nd (up_nd (sset_srt _))) (qsL_up _ _) fun z => ?_
    rw [List.mem_flatten, qsL_mem, ln]
    constructor
    · rintro ⟨l, hl, hz⟩
      obtain ⟨p, pm, rfl⟩ := List.mem_map.mp hl
      obtain ⟨k, hk, e, rfl⟩ := qsL_mem.mp hz
      rw [sset_mem, two] at pm
      rw [ln'] at hk
      refine ⟨k, hk, (h.eq k u hk h.hu).mpr (.inr ⟨?_, .inl rfl⟩), rfl⟩
      rw [e]
      exact pm
    · rintro ⟨k, hk, e, rfl⟩
      have c : lb'.getD k 0 = lb'.getD u 0 ∨ lb'.getD k 0 = lb'.getD v 0 := ((h.eq k u hk h.hu).mp e).elim .inl fun z => z.1
      exact ⟨qsL lb' (lb'.getD k 0), List.mem_map.mpr ⟨_, sset_mem.mpr ((two _).mpr c), rfl⟩, (qsL_at (by rw [ln']; exact hk)).mpr rfl⟩
end
end Lw

namespace Lw
open PySem.Spec PySem L2 PyProof.Rows
open Evl (Ex Ex.refl Ex.trans Ex.new Ex.off ex_rd ex_l ex_t)
/-! lists of lists of numbers, asked and summed -/
section
variable {K : Fg} {B : Bg} {G G' H : Hp} {σ : L2.St} {te ta tb : TE} {tr : TA} {tt : TT} {d : PyData} {ds es : List PyData} {D : Ends} {t u : TS} {n : Nat}
end
end Lw

namespace Lw
open PySem.Spec PySem L2 PyProof.Rows
open Evl (Ex Ex.refl Ex.trans Ex.new Ex.off ex_rd ex_l ex_t)
/-! own errors over LookupError with one field, laid by an __init__ -/
abbrev leB : List Value := [.type "LookupError", .type "Exception", .type "BaseException", .type "object"]
structure OexL (K : Fg) (C : Addr) : Prop where
  nw : PySem.W.excInitIn K C leB "LookupError.__new__" = true
  ov : PySem.W.excOver K C leB = true
  dct : PySem.W.hasDictIn K C = true
  st : PySem.W.findIn K (.ref C) "__setattr__" = some (some (.builtin "object.__setattr__")) ∧ PySem.W.keepIn K (.ref C) = true
  up : PySem.W.subIn K (.ref C) (.type "BaseException") = some true ∧ PySem.W.typeIn K (.ref C) = some (.type "type")
section
variable {X : Cx} {pins : List (Addr × Obj)} {σ : L2.St} {H : Hp} {a C : Addr} {f : Str} {y : V} {u : Value}
variable {s : Shared} {Q : Unit → Shared → Prop} {E : Value → Shared → Prop} {A : Around}
end
section
variable {X : Cx} {o e : Expr} {es : List Expr} {to te : TE} {ta : TA} {f : Str} {p p' pos : Pos}
end
/-- what is to be known of such a class: its __init__ at fI, the field at -/
structure AtL (K : Fg) (C fI : Addr) : Prop where
  o : OexL K C
  x : XfC K C
  no : PySem.W.takerIn K C "at" = some none
  nf : PySem.W.findIn K (.ref C) "at" = some none
  i : PySem.W.findIn K (.ref C) "__init__" = some (some (.ref fI))
  t : PySem.W.typeIn K (.ref fI) = some (.type "function")
/-- what such an __init__ does -/
def sp_atL (K : Fg) : Sp := fun vs H Q E => ∃ (a C : Addr) (v : V), vs = [.ref a, v] ∧ OexL K C ∧ PySem.W.takerIn K C "at" = some none ∧ H a = some (exo a C none) ∧ ∀ dx, H dx = none → dx ≠ a → Q .non (upd (upd H dx (exd dx [("at", v)])) a (exo a C (some dx)))
structure GoodIL (P : Program) (w : World) (K : Fg) (mg : Str → Option Value) (base : Heap) (CX : CXT) (k : Nat) (f : Addr) : Prop where
  ex : ∃ fd, FnOk P w K mg base CX k f fd ["self", "at"] (sp_atL K) ∧ Binds K fd ["self", "at"] []
section
variable {K : Fg} {B : Bg} {G G1 H H1 : Hp} {σ : L2.St} {te : TE} {C fI : Addr} {n : Int} {Q : XK}
end
/-! suites read in several ways; clauses with two classes -/
end Lw

namespace Lw
open PySem.Spec PySem L2 PyProof.Rows
open Evl (Ex Ex.refl Ex.trans Ex.new Ex.off ex_rd ex_l ex_t)
/-! dict(a list of pairs) with keys that are tuples of numbers, and its length -/
section
variable {X : Cx}
end
/-! such a dict told by its keys as they stand -/
def DpL (K : Fg) (P : Program) (w : World) (G : Hp) (v : V) (kL : List (List Int)) : Prop := ∃ (a : Addr) (L : List Ent), v = .ref a ∧ G a = some (DGO P w a L) ∧ keysOf K G L ∧ L.map (·.1) = kL
section
variable {K : Fg} {P : Program} {w : World} {B : Bg} {G G' H : Hp} {σ : L2.St} {te ta : TE} {D : Ends} {t u : TS} {v : V} {kL ls : List (List Int)} {i : Nat}
theorem DpL.k (h : DpL K P w G v kL) : DpK K P w G v kL := by
  obtain ⟨a, L, rfl, h1, h2, rfl⟩ := h
  exact ⟨a, L, rfl, h1, h2, fun _ => Iff.rfl⟩
def pairD (l : List Int) : PyData := .tuple [encT l, .bool true]
theorem paired_imp {α β : Type} {F F' : α → β → Prop} {l : List α} {m : List β} (p : Paired F l m) (h : ∀ a b, F a b → F' a b) : Paired F' l m := by
  induction p with
  | nil => exact .nil
  | cons q t ih => exact .cons (h _ _ q) ih
end
/-! while -/
end Lw

namespace Lw
open PySem.Spec PySem L2 PyProof.Rows
open Evl (Ex Ex.refl Ex.trans Ex.new Ex.off ex_rd ex_l ex_t)
/-! dicts with tuples for keys: made, read, added to, walked, sorted -/
/-- such a dict, the object as it stands -/
def DGF (P : Program) (w : World) (d : Addr) (o : Obj) (L : List Ent) : HO := .ext fun h => DGok P w h d L ∧ h.get? d = some o
def RgG (P : Program) (w : World) (H : Hp) (d : Addr) (L : List Ent) : Prop := H d = some (DGO P w d L) ∨ ∃ o, H d = some (DGF P w d o L)
section
variable {X : Cx} {pins : List (Addr × Obj)} {s : Shared} {σ : L2.St} {H : Hp} {d b : Addr} {L : List Ent} {ns : List Int} {u r : Value} {A : Around} {E : Value → Shared → Prop}
end
section
variable {X : Cx} {e f o i value tg : Expr} {td ty tx tv te : TE} {pos pos' apos cpos : Pos}
/-! walked -/
/-! list(d) -/
end
/-! sorted of tuples that are taken out of something -/
section
variable {s : Shared} {P : Program} {w : World} {A : Around} {E : Value → Shared → Prop}
end
section
variable {X : Cx}
end
end Lw

namespace Lw
open PySem.Spec PySem L2 PyProof.Rows
open Evl (Ex Ex.refl Ex.trans Ex.new Ex.off ex_rd ex_l ex_t)
/-! ### tables of keys, as lists -/
section
variable {α β : Type}
def lkK (mm : List (List Int × α)) (k : List Int) : Option α := (mm.find? fun m => decide (m.1 = k)).map (·.2)
def upK (mm : List (List Int × α)) (k : List Int) (f : Option α → α) : List (List Int × α) := if k ∈ mm.map (·.1) then mm.map fun m => if m.1 = k then (m.1, f (some m.2)) else m else mm ++ [(k, f none)]
theorem lkK_none {mm : List (List Int × α)} {k : List Int} : lkK mm k = none ↔ k ∉ mm.map (·.1) := by
  unfold lkK
  rw [Option.map_eq_none_iff, List.find?_eq_none]
  refine ⟨fun h m => ?_, fun h m hm c => h (List.mem_map.mpr ⟨m, hm, of_decide_eq_true c⟩)⟩
  obtain ⟨z, hz, e⟩ := List.mem_map.mp m
  exact h z hz (decide_eq_true e)
theorem lkK_cons (m : List Int × α) (mm : List (List Int × α)) (k : List Int) : lkK (m :: mm) k = if m.1 = k then some m.2 else lkK mm k := by
  unfold lkK
  rw [List.find?_cons]
  by_cases c : m.1 = k
  · rw [decide_eq_true c, if_pos c]
    rfl
  · rw [decide_eq_false c, if_neg c]
theorem lkK_of {mm : List (List Int × α)} (h : (mm.map (·.1)).Nodup) {k : List Int} {x : α} (m : (k, x) ∈ mm) : lkK mm k = some x := by
  induction mm with
  | nil => cases m
  | cons a mm ih =>
    rw [List.map_cons] at h
    have h2 := List.nodup_cons.mp h
    rw [lkK_cons]
    rcases List.mem_cons.mp m with e | m
    · rw [← e, if_pos rfl]
    · rw [if_neg (fun e => h2.1 (by rw [e]; exact List.mem_map.mpr ⟨_, m, rfl⟩))]
      exact ih h2.2 m
end
/-! ### a dict told by keys and values -/
abbrev MM := List (List Int × PyData)
def VRel (K : Fg) (G : Hp) : List Ent → MM → Prop := Paired fun e m => e.1 = m.1 ∧ Dp K G e.2.2 m.2
section
variable {K : Fg} {P : Program} {w : World} {B : Bg} {G G' H : Hp} {σ : L2.St} {te ta tb tk tv ty : TE} {tr : TA} {tt : TT} {d x : PyData} {ds es : List PyData} {D : Ends} {t u : TS} {b : Bool} {v : V} {ks ls : List (List Int)} {i j : Nat} {L : List Ent} {mm : MM} {k : List Int}
theorem VRel.mono (e : Ex G G') (h : VRel K G L mm) : VRel K G' L mm := paired_imp h fun _ _ z => ⟨z.1, dp_mono e z.2⟩
theorem VRel.keys (h : VRel K G L mm) : L.map (·.1) = mm.map (·.1) := by
  unfold VRel at h
  induction h with
  | nil => rfl
  | cons z _ ih => rw [List.map_cons, List.map_cons, ih, z.1]
theorem VRel.some (h : VRel K G L mm) (e : lkK mm k = some x) : ∃ v, valG L k = some v ∧ Dp K G v x := by
  unfold VRel at h
  induction h with
  | nil => cases e
  | @cons p m ps ms z _ ih =>
    rw [lkK_cons] at e
    unfold valG
    rw [List.find?_cons]
    by_cases c : m.1 = k
    · rw [if_pos c] at e
      rw [decide_eq_true (z.1.trans c)]
      exact ⟨_, rfl, by cases e; exact z.2⟩
    · rw [if_neg c] at e
      rw [decide_eq_false (fun q => c (z.1.symm.trans q))]
      exact ih e
theorem VRel.no (h : VRel K G L mm) (e : lkK mm k = none) : valG L k = none := by
  have z := valG_mem (L := L) (k := k)
  rw [h.keys, decide_eq_false (lkK_none.mp e)] at z
  cases q : valG L k with
  | none => rfl
  | some _ =>
    rw [q] at z
    cases z
theorem VRel.put {a : Addr} {f : Option PyData → PyData} (h : VRel K G L mm) (dv : Dp K G v (f (lkK mm k))) (nd : (mm.map (·.1)).Nodup) : VRel K G (putG L k a v) (upK mm k f) := by
  unfold putG upK
  rw [h.keys]
  by_cases c : k ∈ mm.map (·.1)
  · rw [if_pos c, if_pos c]
    have g : ∀ {L : List Ent} {ms : MM}, VRel K G L ms → (∀ m ∈ ms, m.1 = k → lkK mm k = Option.some m.2) → VRel K G (L.map fun p => if p.1 = k then (p.1, p.2.1, v) else p) (ms.map fun m => if m.1 = k then (m.1, f (Option.some m.2)) else m) := by
      intro L ms h
      unfold VRel at h
      induction h with
      | nil => exact fun _ => .nil
      | @cons p m ps ms z _ ih =>
        intro q
        refine .cons ?_ (ih fun m hm => q m (List.mem_cons_of_mem _ hm))
        show (if p.1 = k then (p.1, p.2.1, v) else p).1 = (if m.1 = k then (m.1, f (Option.some m.2)) else m).1 ∧ Dp K G (if p.1 = k then (p.1, p.2.1, v) else p).2.2 (if m.1 = k then (m.1, f (Option.some m.2)) else m).2
        by_cases d : m.1 = k
        · rw [if_pos d, if_pos (z.1.trans d)]
          rw [q m List.mem_cons_self d] at dv
          exact ⟨z.1, dv⟩
        · rw [if_neg d, if_neg (fun y => d (z.1.symm.trans y))]
          exact z
    refine g h fun m hm e => ?_
    exact lkK_of nd (by rw [← e]; exact hm)
  · rw [if_neg c, if_neg c]
    rw [lkK_none.mpr c] at dv
    exact paired_app h ⟨rfl, dv⟩
theorem VRel.len (h : VRel K G L mm) : L.length = mm.length := paired_len h
def DpM (K : Fg) (P : Program) (w : World) (G : Hp) (v : V) (mm : MM) : Prop := ∃ (a : Addr) (L : List Ent), v = .ref a ∧ RgG P w G a L ∧ keysOf K G L ∧ VRel K G L mm
def DpF (K : Fg) (P : Program) (w : World) (G : Hp) (v : V) (mm : MM) : Prop := ∃ (a : Addr) (L : List Ent) (o : Obj), v = .ref a ∧ G a = some (DGF P w a o L) ∧ keysOf K G L ∧ VRel K G L mm
theorem DpF.m (h : DpF K P w G v mm) : DpM K P w G v mm := by
  obtain ⟨a, L, o, rfl, h1, h2⟩ := h
  exact ⟨a, L, rfl, .inr ⟨o, h1⟩, h2⟩
/-! what gives such a dict -/
def RetM (K : Fg) (P : Program) (w : World) (B : Bg) (G H : Hp) (Q : VK) (mm : MM) : Prop := ∀ v G2 H2, Ext K B G H G2 H2 → DpF K P w G2 v mm → Q v H2
theorem RetM.mono {Q : VK} {G1 H1 : Hp} (X : Ext K B G H G1 H1) (h : RetM K P w B G H Q mm) : RetM K P w B G1 H1 Q mm := fun v G2 H2 X2 dv => h v G2 H2 (X.trans X2) dv
/-! ### such a dict that grows, its values told -/
structure LoG (K : Fg) (P : Program) (w : World) (B : Bg) (G0 H0 G H : Hp) (p : Addr) (mm : MM) : Prop where
  x : Ext K B G0 H0 G H
  h0 : H0 p = none
  g : G p = none
  nb : ¬ isB B p
  nd : (mm.map (·.1)).Nodup
  h : ∃ L, H p = some (DGO P w p L) ∧ keysOf K G L ∧ VRel K G L mm
theorem LoG.step {G0 H0 G2 H2 : Hp} {p : Addr} (l : LoG K P w B G0 H0 G H p mm) (X : Ext K B G H G2 H2) : LoG K P w B G0 H0 G2 H2 p mm := by
  obtain ⟨L, h1, h2, h3⟩ := l.h
  exact ⟨l.x.trans X, l.h0, X.fr p _ h1 l.g, l.nb, l.nd, L, X.hh p _ l.nb h1, keys_mono X.gg h2, h3.mono X.gg⟩
theorem LoG.frz {G0 H0 : Hp} {p : Addr} (l : LoG K P w B G0 H0 G H p mm) : ∃ G2, Ext K B G0 H0 G2 H ∧ Ex G G2 ∧ DpM K P w G2 (.ref p) mm := by
  obtain ⟨L, h1, h2, h3⟩ := l.h
  exact ⟨_, l.x.freeze l.h0 l.g l.nb h1, Ex.new l.g, p, L, rfl, .inl upd_same, keys_mono (Ex.new l.g) h2, h3.mono (Ex.new l.g)⟩
end
end Lw

namespace Lw
open PySem.Spec PySem L2 PyProof.Rows
open Evl (Ex Ex.refl Ex.trans Ex.new Ex.off ex_rd ex_l ex_t)
theorem nd_inj {α β : Type} {f : α → β} {l : List α} (h : (l.map f).Nodup) {a b : α} (ha : a ∈ l) (hb : b ∈ l) (e : f a = f b) : a = b := by
  induction l with
  | nil => cases ha
  | cons x l ih =>
    rw [List.map_cons] at h
    have h2 := List.nodup_cons.mp h
    rcases mem_c ha with q1 | q1
    · rcases mem_c hb with q2 | q2
      · rw [q1, q2]
      · exact absurd (List.mem_map.mpr ⟨b, q2, by rw [← e, q1]⟩) h2.1
    · rcases mem_c hb with q2 | q2
      · exact absurd (List.mem_map.mpr ⟨a, q1, by rw [e, q2]⟩) h2.1
      · exact ih h2.2 q1 q2
theorem paired_same {α β γ : Type} {F : β → γ → Prop} {f : α → β} {g : α → γ} : ∀ {l : List α}, (∀ a ∈ l, F (f a) (g a)) → Paired F (l.map f) (l.map g)
  | [], _ => .nil
  | a :: l, h => .cons (h a List.mem_cons_self) (paired_same fun b hb => h b (List.mem_cons_of_mem _ hb))
/-! ### a dict of lists, all of which grow: d.setdefault(k, []).append(x) -/
abbrev EM := List Int × Addr × Addr × List PyData
def entM (e : EM) : Ent := (e.1, e.2.1, .ref e.2.2.1)
def mmM (E : List EM) : List (List Int × List PyData) := E.map fun e => (e.1, e.2.2.2)
structure LoE (K : Fg) (P : Program) (w : World) (B : Bg) (G0 H0 G H : Hp) (p : Addr) (E : List EM) : Prop where
  x : Ext K B G0 H0 G H
  h0 : H0 p = none
  g : G p = none
  nb : ¬ isB B p
  kn : (E.map (·.1)).Nodup
  ln : (E.map (·.2.2.1)).Nodup
  h : H p = some (DGO P w p (E.map entM))
  ky : ∀ e ∈ E, SqT K G e.2.1 (e.1.map V.int)
  ls : ∀ e ∈ E, (e.2.2.1 ≠ p ∧ H0 e.2.2.1 = none ∧ G e.2.2.1 = none ∧ ¬ isB B e.2.2.1) ∧ ∃ xs, H e.2.2.1 = some (.lst xs) ∧ DpAll K G xs e.2.2.2
section
variable {K : Fg} {P : Program} {w : World} {B : Bg} {G0 H0 G G' H G2 H2 : Hp} {σ : L2.St} {te ta tb tk tv ty : TE} {tr : TA} {tt : TT} {d x : PyData} {ds es : List PyData} {D : Ends} {t u : TS} {b : Bool} {v y : V} {ks ls : List (List Int)} {i j : Nat} {L : List Ent} {k : List Int} {p : Addr} {E : List EM}
theorem LoE.keys (l : LoE K P w B G0 H0 G H p E) : keysOf K G (E.map entM) := fun n hn => by
  obtain ⟨e, he, rfl⟩ := List.mem_map.mp hn
  exact l.ky e he
theorem LoE.step (l : LoE K P w B G0 H0 G H p E) (X : Ext K B G H G2 H2) : LoE K P w B G0 H0 G2 H2 p E :=
  ⟨l.x.trans X, l.h0, X.fr p _ l.h l.g, l.nb, l.kn, l.ln, X.hh p _ l.nb l.h, fun e he => ex_t X.gg (l.ky e he), fun e he => by
    obtain ⟨⟨a1, a2, a3, a4⟩, xs, b1, b2⟩ := l.ls e he
    exact ⟨⟨a1, a2, X.fr _ _ b1 a3, a4⟩, xs, X.hh _ _ a4 b1, dpAll_mono X.gg b2⟩⟩
/-- one item more in one list -/
def addE (k : List Int) (d : PyData) (e : EM) : EM := if e.1 = k then (e.1, e.2.1, e.2.2.1, e.2.2.2 ++ [d]) else e
theorem addE_1 (k : List Int) (d : PyData) (e : EM) : (addE k d e).1 = e.1 ∧ (addE k d e).2.1 = e.2.1 ∧ (addE k d e).2.2.1 = e.2.2.1 := by
  unfold addE
  split <;> exact ⟨rfl, rfl, rfl⟩
theorem LoE.app (l : LoE K P w B G0 H0 G H p E) {e0 : EM} (he : e0 ∈ E) {xs : List V} (hx : H e0.2.2.1 = some (.lst xs)) (ax : DpAll K G xs e0.2.2.2) (dy : Dp K G y d) : LoE K P w B G0 H0 G (upd H e0.2.2.1 (.lst (xs ++ [y]))) p (E.map (addE e0.1 d)) := by
  obtain ⟨⟨a1, a2, a3, a4⟩, _⟩ := l.ls e0 he
  refine ⟨⟨l.x.gg, fun a o n z => ?_, l.x.fr, l.x.ok.mut a3 a4⟩, l.h0, l.g, l.nb, ?_, ?_, ?_, fun e h => ?_, fun e h => ?_⟩
  · rw [upd_ne (ne_of_none z a2)]
    exact l.x.hh a o n z
  · have z : (E.map (addE e0.1 d)).map (·.1) = E.map (·.1) := by
      rw [List.map_map]
      exact List.map_congr_left fun e _ => (addE_1 _ _ e).1
    rw [z]
    exact l.kn
  · have z : (E.map (addE e0.1 d)).map (·.2.2.1) = E.map (·.2.2.1) := by
      rw [List.map_map]
      exact List.map_congr_left fun e _ => (addE_1 _ _ e).2.2
    rw [z]
    exact l.ln
  · have z : (E.map (addE e0.1 d)).map entM = E.map entM := by
      rw [List.map_map]
      refine List.map_congr_left fun e _ => ?_
      obtain ⟨q1, q2, q3⟩ := addE_1 e0.1 d e
      show ((addE e0.1 d e).1, (addE e0.1 d e).2.1, V.ref (addE e0.1 d e).2.2.1) = (e.1, e.2.1, V.ref e.2.2.1)
      rw [q1, q2, q3]
    rw [upd_ne (Ne.symm a1), z]
    exact l.h
  · obtain ⟨e, hm, rfl⟩ := List.mem_map.mp h
    obtain ⟨q1, q2, _⟩ := addE_1 e0.1 d e
    rw [q1, q2]
    exact l.ky e hm
  · obtain ⟨e, hm, rfl⟩ := List.mem_map.mp h
    obtain ⟨_, _, q3⟩ := addE_1 e0.1 d e
    rw [q3]
    obtain ⟨c1, ys, c2, c3⟩ := l.ls e hm
    refine ⟨c1, ?_⟩
    by_cases c : e.1 = e0.1
    · obtain rfl := nd_inj l.kn hm he c
      refine ⟨xs ++ [y], upd_same, ?_⟩
      unfold addE
      rw [if_pos rfl]
      exact dpAll_app ax (.cons dy .nil)
    · have ne : e.2.2.1 ≠ e0.2.2.1 := fun z => c (by rw [nd_inj l.ln hm he z])
      unfold addE
      rw [if_neg c, upd_ne ne]
      exact ⟨ys, c2, c3⟩
/-- a key more, with an empty list -/
theorem LoE.more (l : LoE K P w B G0 H0 G H p E) (hk : k ∉ E.map (·.1)) {a r : Addr} (sa : SqT K G a (k.map V.int)) (hr : H r = none) : LoE K P w B G0 H0 G (upd (upd H r (.lst [])) p (DGO P w p (putG (E.map entM) k a (.ref r)))) p (E ++ [(k, a, r, [])]) := by
  have nr := l.x.ok.b.ne hr
  have rp : r ≠ p := fun c => by
    rw [c, l.h] at hr
    cases hr
  have hp : upd H r (.lst []) p = some (DGO P w p (E.map entM)) := by
    rw [upd_ne (Ne.symm rp)]
    exact l.h
  have l2 := l.step (Ext.loose (o := .lst []) l.x.ok hr)
  have e1 : putG (E.map entM) k a (.ref r) = (E ++ [(k, a, r, [])]).map entM := by
    unfold putG
    rw [if_neg, List.map_append]
    · rfl
    · rw [List.map_map]
      exact hk
  have old : ∀ e ∈ E, e.2.2.1 ≠ r := fun e he c => by
    obtain ⟨_, xs, b1, _⟩ := l.ls e he
    rw [c, hr] at b1
    cases b1
  have h0r : H0 r = none := l.x.old nr hr
  refine ⟨⟨l2.x.gg, fun b o n z => ?_, l2.x.fr, l2.x.ok.mut l2.g l.nb⟩, l.h0, l.g, l.nb, ?_, ?_, by rw [upd_same, e1], fun e he => ?_, fun e he => ?_⟩
  · rw [upd_ne (ne_of_none z l.h0)]
    exact l2.x.hh b o n z
  · rw [List.map_append]
    rw [List.nodup_append]
    exact ⟨l.kn, List.pairwise_singleton _ _, fun x hx z hz c => hk (by rw [← show z = k from mem_1 hz, ← c]; exact hx)⟩
  · rw [List.map_append]
    rw [List.nodup_append]
    refine ⟨l.ln, List.pairwise_singleton _ _, fun x hx z hz c => ?_⟩
    obtain ⟨e, he, rfl⟩ := List.mem_map.mp hx
    exact old e he (c.trans (mem_1 hz))
  · rcases mem_or he with he | he
    · exact l.ky e he
    · rw [mem_1 he]
      exact sa
  · rcases mem_or he with he | he
    · obtain ⟨c1, xs, c2, c3⟩ := l2.ls e he
      exact ⟨c1, xs, by rw [upd_ne c1.1]; exact c2, c3⟩
    · rw [mem_1 he]
      refine ⟨⟨rp, h0r, l.x.ok.e.off hr, nr⟩, [], ?_, .nil⟩
      show upd (upd H r (.lst [])) p _ r = _
      rw [upd_ne rp, upd_same]
/-- told by keys and what is in the lists -/
def LoM (K : Fg) (P : Program) (w : World) (B : Bg) (G0 H0 G H : Hp) (p : Addr) (mm : List (List Int × List PyData)) : Prop := ∃ E, LoE K P w B G0 H0 G H p E ∧ mmM E = mm
variable {mm : List (List Int × List PyData)}
theorem LoM.nd (l : LoM K P w B G0 H0 G H p mm) : (mm.map (·.1)).Nodup := by
  obtain ⟨E, l, rfl⟩ := l
  unfold mmM
  rw [List.map_map]
  exact l.kn
theorem LoM.step (l : LoM K P w B G0 H0 G H p mm) (X : Ext K B G H G2 H2) : LoM K P w B G0 H0 G2 H2 p mm := by
  obtain ⟨E, l, e⟩ := l
  exact ⟨E, l.step X, e⟩
theorem LoM.ok (l : LoM K P w B G0 H0 G H p mm) : Ext K B G0 H0 G H := l.elim fun _ z => z.1.x
/-- all of it stays from now on -/
theorem LoM.frz (l : LoM K P w B G0 H0 G H p mm) : ∃ G2, Ext K B G0 H0 G2 H ∧ Ex G G2 ∧ DpM K P w G2 (.ref p) (mm.map fun m => (m.1, .list m.2)) := by
  obtain ⟨E, l, rfl⟩ := l
  let G2 : Hp := fun a => if a = p ∨ a ∈ E.map (·.2.2.1) then H a else G a
  have out : ∀ {a : Addr} {o : HO}, G a = some o → ¬ (a = p ∨ a ∈ E.map (·.2.2.1)) := fun {a o} z c => by
    rcases c with c | c
    · rw [c, l.g] at z
      cases z
    · obtain ⟨e, he, rfl⟩ := List.mem_map.mp c
      rw [(l.ls e he).1.2.2.1] at z
      cases z
  have gg : Ex G G2 := fun a o z => by
    show (if a = p ∨ a ∈ E.map (·.2.2.1) then H a else G a) = some o
    rw [if_neg (out z)]
    exact z
  have no : ∀ {a : Addr}, (a = p ∨ a ∈ E.map (·.2.2.1)) → H0 a = none ∧ ¬ isB B a := fun {a} c => by
    rcases c with c | c
    · rw [c]
      exact ⟨l.h0, l.nb⟩
    · obtain ⟨e, he, rfl⟩ := List.mem_map.mp c
      exact ⟨(l.ls e he).1.2.1, (l.ls e he).1.2.2.2⟩
  refine ⟨G2, ⟨l.x.gg.trans gg, l.x.hh, fun a o z g => ?_, fun a o z => ?_, l.x.ok.c.mono gg, l.x.ok.b.keep (fun a z g => ?_) fun _ _ _ z => z⟩, gg, p, E.map entM, rfl, .inl ?_, keys_mono gg l.keys, ?_⟩
  · show (if a = p ∨ a ∈ E.map (·.2.2.1) then H a else G a) = none
    rw [if_neg (fun c => by rw [(no c).1] at z; cases z)]
    exact l.x.fr a o z g
  · have z : (if a = p ∨ a ∈ E.map (·.2.2.1) then H a else G a) = some o := z
    split at z
    · exact z
    · exact l.x.ok.e a o z
  · show (if a = p ∨ a ∈ E.map (·.2.2.1) then H a else G a) = none
    rw [if_neg (fun c => (no c).2 z)]
    exact g
  · show (if p = p ∨ p ∈ E.map (·.2.2.1) then H p else G p) = _
    rw [if_pos (.inl rfl)]
    exact l.h
  · unfold mmM
    rw [List.map_map]
    refine paired_same fun e he => ⟨rfl, ?_⟩
    obtain ⟨_, xs, c2, c3⟩ := l.ls e he
    refine .lst (SqL.of ?_) (dpAll_mono gg c3)
    show (if e.2.2.1 = p ∨ e.2.2.1 ∈ E.map (·.2.2.1) then H e.2.2.1 else G e.2.2.1) = _
    rw [if_pos (.inr (List.mem_map.mpr ⟨e, he, rfl⟩))]
    exact c2
/-! ### sorted(set(xs)), xs tuples of numbers -/
end
end Lw

namespace Lw
open PySem.Spec PySem L2 PyProof.Rows
open Evl (Ex Ex.refl Ex.trans Ex.new Ex.off ex_rd ex_l ex_t)
/-! sets of tuples that grow; {k: v}; going through a dict with what changes beside it -/
section
variable {X : Cx} {e o k v : Expr} {to ty tk tv : TE} {pos apos cpos : Pos}
end
section
variable {K : Fg} {P : Program} {w : World} {B : Bg} {G0 H0 G G' H G2 H2 : Hp} {σ : L2.St} {te ta tb tk tv ty : TE} {tr : TA} {tt : TT} {d x : PyData} {ds es : List PyData} {D : Ends} {t u : TS} {b : Bool} {v y : V} {ks ls : List (List Int)} {i j : Nat} {L : List Ent} {k : List Int} {p : Addr} {mm : MM}
/-- what is new may change -/
theorem Ext.poke {p : Addr} {o : HO} (X : Ext K B G H G2 H2) (h0 : H p = none) (g : G2 p = none) (nb : ¬ isB B p) : Ext K B G H G2 (upd H2 p o) :=
  ⟨X.gg, fun a u n z => by
    rw [upd_ne (ne_of_none z h0)]
    exact X.hh a u n z, X.fr, X.ok.mut g nb⟩
/-! ### a list of lists, each new -/
def NewL (B : Bg) (H G : Hp) (x : V) : Prop := ∃ q ys, x = .ref q ∧ H q = none ∧ ¬ isB B q ∧ G q = some (.lst ys) ∧ ys.length ≤ 1000
structure LoW (K : Fg) (B : Bg) (G0 H0 G H : Hp) (p : Addr) (ds : List PyData) : Prop where
  x : Ext K B G0 H0 G H
  h0 : H0 p = none
  g : G p = none
  nb : ¬ isB B p
  h : ∃ xs, H p = some (.lst xs) ∧ DpAll K G xs ds ∧ ∀ x ∈ xs, NewL B H0 G x
theorem LoW.step (l : LoW K B G0 H0 G H p ds) (X : Ext K B G H G2 H2) : LoW K B G0 H0 G2 H2 p ds := by
  obtain ⟨xs, h1, h2, h3⟩ := l.h
  exact ⟨l.x.trans X, l.h0, X.fr p _ h1 l.g, l.nb, xs, X.hh p _ l.nb h1, dpAll_mono X.gg h2, fun x hx => by
    obtain ⟨q, ys, a1, a2, a3, a4⟩ := h3 x hx
    exact ⟨q, ys, a1, a2, a3, X.gg _ _ a4.1, a4.2⟩⟩
theorem LoW.poke {a : Addr} {o : HO} (l : LoW K B G0 H0 G H p ds) (h0 : H0 a = none) (g : G a = none) (nb : ¬ isB B a) (ne : p ≠ a) : LoW K B G0 H0 G (upd H a o) p ds := by
  obtain ⟨xs, h1, h2, h3⟩ := l.h
  exact ⟨l.x.poke h0 g nb, l.h0, l.g, l.nb, xs, by rw [upd_ne ne]; exact h1, h2, h3⟩
def RetN (K : Fg) (B : Bg) (G H : Hp) (Q : VK) (ds : List PyData) : Prop := ∀ p G2 H2, LoW K B G H G2 H2 p ds → Q (.ref p) H2
theorem RetN.mono {Q : VK} (X : Ext K B G H G2 H2) (h : RetN K B G H Q ds) : RetN K B G2 H2 Q ds := fun p G3 H3 l => by
  have off : ∀ q, ¬ isB B q → H2 q = none → H q = none := fun q nb hq => X.old nb hq
  obtain ⟨xs, h1, h2, h3⟩ := l.h
  exact h p G3 H3 ⟨X.trans l.x, off p l.nb l.h0, l.g, l.nb, xs, h1, h2, fun x hx => by
    obtain ⟨q, ys, a1, a2, a3, a4⟩ := h3 x hx
    exact ⟨q, ys, a1, off q a3 a2, a3, a4⟩⟩
/-- told by what stands there now -/
theorem LoW.frz (l : LoW K B G0 H0 G H p ds) : ∃ G2, Ext K B G0 H0 G2 H ∧ Ex G G2 ∧ Dp K G2 (.ref p) (.list ds) := by
  obtain ⟨xs, h1, h2, _⟩ := l.h
  exact ⟨_, l.x.freeze l.h0 l.g l.nb h1, Ex.new l.g, .lst (SqL.of upd_same) (dpAll_mono (Ex.new l.g) h2)⟩
end
end Lw

namespace Lw
open PySem.Spec PySem L2 PyProof.Rows
open Evl (Ex Ex.refl Ex.trans Ex.new Ex.off ex_rd ex_l ex_t)
/-! a dict of keys and a pile beside it; a dict of a list of pairs -/
section
variable {K : Fg} {P : Program} {w : World} {B : Bg} {G0 H0 G G' H G2 H2 : Hp} {σ : L2.St} {te ta tb tk tv ty : TE} {tr : TA} {tt : TT} {d x : PyData} {ds es : List PyData} {D : Ends} {t u : TS} {b : Bool} {v y : V} {ks ls : List (List Int)} {i j : Nat} {L : List Ent} {k : List Int} {p a : Addr} {mm : MM} {o : HO}
/-- from further back -/
theorem LoW.from_ {Gs Hs : Hp} (X : Ext K B Gs Hs G0 H0) (l : LoW K B G0 H0 G H p ds) : LoW K B Gs Hs G H p ds := by
  obtain ⟨xs, h1, h2, h3⟩ := l.h
  exact ⟨X.trans l.x, X.old l.nb l.h0, l.g, l.nb, xs, h1, h2, fun x hx => by
    obtain ⟨q, ys, a1, a2, a3, a4⟩ := h3 x hx
    exact ⟨q, ys, a1, X.old a3 a2, a3, a4⟩⟩
theorem LoG.poke (l : LoG K P w B G0 H0 G H p mm) (h0 : H0 a = none) (g : G a = none) (nb : ¬ isB B a) (ne : p ≠ a) : LoG K P w B G0 H0 G (upd H a o) p mm := by
  obtain ⟨L, h1, h2, h3⟩ := l.h
  exact ⟨l.x.poke h0 g nb, l.h0, l.g, l.nb, l.nd, L, by rw [upd_ne ne]; exact h1, h2, h3⟩
theorem Loo.poke (l : Loo K B G0 H0 G H p ds) (h0 : H0 a = none) (g : G a = none) (nb : ¬ isB B a) (ne : p ≠ a) : Loo K B G0 H0 G (upd H a o) p ds := by
  obtain ⟨xs, h1, h2⟩ := l.h
  exact ⟨l.x.poke h0 g nb, l.h0, l.g, l.nb, xs, by rw [upd_ne ne]; exact h1, h2⟩
/-- the pile as it is from now on -/
theorem Loo.put {xs : List V} (l : Loo K B G0 H0 G H p ds) (dx : DpAll K G xs es) : Loo K B G0 H0 G (upd H p (.lst xs)) p es :=
  ⟨l.x.poke l.h0 l.g l.nb, l.h0, l.g, l.nb, xs, upd_same, dx⟩
end
end Lw

namespace Lw
open PySem.Spec PySem L2 PyProof.Rows
open Evl (Ex Ex.refl Ex.trans Ex.new Ex.off ex_rd ex_l ex_t)
/-! ### dicts of lists with numbers for keys -/
abbrev EK := Int × Addr × List PyData
def kvE (E : List EK) : List (Key × V) := E.map fun e => (Sum.inl e.1, V.ref e.2.1)
def mmE (E : List EK) : List (Int × List PyData) := E.map fun e => (e.1, e.2.2)
structure LoK (K : Fg) (B : Bg) (G0 H0 G H : Hp) (p : Addr) (E : List EK) : Prop where
  x : Ext K B G0 H0 G H
  h0 : H0 p = none
  g : G p = none
  nb : ¬ isB B p
  kn : (E.map (·.1)).Nodup
  ln : (E.map (·.2.1)).Nodup
  h : H p = some (.dK (kvE E))
  ls : ∀ e ∈ E, (e.2.1 ≠ p ∧ H0 e.2.1 = none ∧ G e.2.1 = none ∧ ¬ isB B e.2.1) ∧ ∃ xs, H e.2.1 = some (.lst xs) ∧ DpAll K G xs e.2.2
def addK (k : Int) (d : PyData) (e : EK) : EK := if e.1 = k then (e.1, e.2.1, e.2.2 ++ [d]) else e
theorem addK_1 (k : Int) (d : PyData) (e : EK) : (addK k d e).1 = e.1 ∧ (addK k d e).2.1 = e.2.1 := by
  unfold addK
  split <;> exact ⟨rfl, rfl⟩
/-- told by keys and data, frozen -/
def DpI (K : Fg) (G : Hp) (v : V) (mm : List (Int × PyData)) : Prop := ∃ (a : Addr) (kvs : List (Key × V)), v = .ref a ∧ G a = some (.dK kvs) ∧ Paired (fun (kv : Key × V) (m : Int × PyData) => kv.1 = Sum.inl m.1 ∧ Dp K G kv.2 m.2) kvs mm
section
variable {K : Fg} {P : Program} {w : World} {B : Bg} {G0 H0 G G' H G2 H2 : Hp} {σ : L2.St} {te ta tb tk tv ty : TE} {tr : TA} {tt : TT} {d x : PyData} {ds es : List PyData} {D : Ends} {t u : TS} {b : Bool} {v y : V} {i j : Nat} {k : Int} {p : Addr} {E : List EK} {mm : List (Int × PyData)}
theorem LoK.step (l : LoK K B G0 H0 G H p E) (X : Ext K B G H G2 H2) : LoK K B G0 H0 G2 H2 p E :=
  ⟨l.x.trans X, l.h0, X.fr p _ l.h l.g, l.nb, l.kn, l.ln, X.hh p _ l.nb l.h, fun e he => by
    obtain ⟨⟨a1, a2, a3, a4⟩, xs, b1, b2⟩ := l.ls e he
    exact ⟨⟨a1, a2, X.fr _ _ b1 a3, a4⟩, xs, X.hh _ _ a4 b1, dpAll_mono X.gg b2⟩⟩
theorem LoK.app (l : LoK K B G0 H0 G H p E) {e0 : EK} (he : e0 ∈ E) {xs : List V} (hx : H e0.2.1 = some (.lst xs)) (ax : DpAll K G xs e0.2.2) (dy : Dp K G y d) : LoK K B G0 H0 G (upd H e0.2.1 (.lst (xs ++ [y]))) p (E.map (addK e0.1 d)) := by
  obtain ⟨⟨a1, a2, a3, a4⟩, _⟩ := l.ls e0 he
  refine ⟨l.x.poke a2 a3 a4, l.h0, l.g, l.nb, ?_, ?_, ?_, fun e h => ?_⟩
  · have z : (E.map (addK e0.1 d)).map (·.1) = E.map (·.1) := by
      rw [List.map_map]
      exact List.map_congr_left fun e _ => (addK_1 _ _ e).1
    rw [z]
    exact l.kn
  · have z : (E.map (addK e0.1 d)).map (·.2.1) = E.map (·.2.1) := by
      rw [List.map_map]
      exact List.map_congr_left fun e _ => (addK_1 _ _ e).2
    rw [z]
    exact l.ln
  · have z : kvE (E.map (addK e0.1 d)) = kvE E := by
      unfold kvE
      rw [List.map_map]
      refine List.map_congr_left fun e _ => ?_
      obtain ⟨q1, q2⟩ := addK_1 e0.1 d e
      show ((Sum.inl (addK e0.1 d e).1, V.ref (addK e0.1 d e).2.1) : Key × V) = (Sum.inl e.1, V.ref e.2.1)
      rw [q1, q2]
    rw [upd_ne (Ne.symm a1), z]
    exact l.h
  · obtain ⟨e, hm, rfl⟩ := List.mem_map.mp h
    obtain ⟨_, q2⟩ := addK_1 e0.1 d e
    rw [q2]
    obtain ⟨c1, ys, c2, c3⟩ := l.ls e hm
    refine ⟨c1, ?_⟩
    by_cases c : e.1 = e0.1
    · obtain rfl := nd_inj l.kn hm he c
      refine ⟨xs ++ [y], upd_same, ?_⟩
      unfold addK
      rw [if_pos rfl]
      exact dpAll_app ax (.cons dy .nil)
    · have ne : e.2.1 ≠ e0.2.1 := fun z => c (by rw [nd_inj l.ln hm he z])
      unfold addK
      rw [if_neg c, upd_ne ne]
      exact ⟨ys, c2, c3⟩
/-- told by what stands in it -/
def LoI (K : Fg) (B : Bg) (G0 H0 G H : Hp) (p : Addr) (mm : List (Int × List PyData)) : Prop := ∃ E, LoK K B G0 H0 G H p E ∧ mmE E = mm
theorem LoI.step {mm : List (Int × List PyData)} (l : LoI K B G0 H0 G H p mm) (X : Ext K B G H G2 H2) : LoI K B G0 H0 G2 H2 p mm := by
  obtain ⟨E, l, e⟩ := l
  exact ⟨E, l.step X, e⟩
theorem LoK.frz (l : LoK K B G0 H0 G H p E) : ∃ G2, Ext K B G0 H0 G2 H ∧ Ex G G2 ∧ DpI K G2 (.ref p) ((mmE E).map fun m => (m.1, .list m.2)) := by
  let G2 : Hp := fun a => if a = p ∨ a ∈ E.map (·.2.1) then H a else G a
  have out : ∀ {a : Addr} {o : HO}, G a = some o → ¬ (a = p ∨ a ∈ E.map (·.2.1)) := fun {a o} z c => by
    rcases c with c | c
    · rw [c, l.g] at z
      cases z
    · obtain ⟨e, he, rfl⟩ := List.mem_map.mp c
      rw [(l.ls e he).1.2.2.1] at z
      cases z
  have gg : Ex G G2 := fun a o z => by
    show (if a = p ∨ a ∈ E.map (·.2.1) then H a else G a) = some o
    rw [if_neg (out z)]
    exact z
  have no : ∀ {a : Addr}, (a = p ∨ a ∈ E.map (·.2.1)) → H0 a = none ∧ ¬ isB B a := fun {a} c => by
    rcases c with c | c
    · rw [c]
      exact ⟨l.h0, l.nb⟩
    · obtain ⟨e, he, rfl⟩ := List.mem_map.mp c
      exact ⟨(l.ls e he).1.2.1, (l.ls e he).1.2.2.2⟩
  refine ⟨G2, ⟨l.x.gg.trans gg, l.x.hh, fun a o z g => ?_, fun a o z => ?_, l.x.ok.c.mono gg, l.x.ok.b.keep (fun a z g => ?_) fun _ _ _ z => z⟩, gg, p, kvE E, rfl, ?_, ?_⟩
  · show (if a = p ∨ a ∈ E.map (·.2.1) then H a else G a) = none
    rw [if_neg (fun c => by rw [(no c).1] at z; cases z)]
    exact l.x.fr a o z g
  · have z : (if a = p ∨ a ∈ E.map (·.2.1) then H a else G a) = some o := z
    split at z
    · exact z
    · exact l.x.ok.e a o z
  · show (if a = p ∨ a ∈ E.map (·.2.1) then H a else G a) = none
    rw [if_neg (fun c => (no c).2 z)]
    exact g
  · show (if p = p ∨ p ∈ E.map (·.2.1) then H p else G p) = _
    rw [if_pos (.inl rfl)]
    exact l.h
  · unfold mmE kvE
    rw [List.map_map]
    refine paired_same fun e he => ⟨rfl, ?_⟩
    obtain ⟨_, xs, c2, c3⟩ := l.ls e he
    refine .lst (SqL.of ?_) (dpAll_mono gg c3)
    show (if e.2.1 = p ∨ e.2.1 ∈ E.map (·.2.1) then H e.2.1 else G e.2.1) = _
    rw [if_pos (.inr (List.mem_map.mpr ⟨e, he, rfl⟩))]
    exact c2
/-- one key more, with an empty list -/
theorem LoK.more (l : LoK K B G0 H0 G H p E) (hk : k ∉ E.map (·.1)) {r : Addr} (hr : H r = none) : LoK K B G0 H0 G (upd (upd H r (.lst [])) p (.dK (putK (kvE E) (Sum.inl k) (.ref r)))) p (E ++ [(k, r, [])]) := by
  have nr := l.x.ok.b.ne hr
  have rp : r ≠ p := fun c => by
    rw [c, l.h] at hr
    cases hr
  have l2 := l.step (Ext.loose (o := .lst []) l.x.ok hr)
  have e1 : putK (kvE E) (Sum.inl k) (.ref r) = kvE (E ++ [(k, r, [])]) := by
    rw [putK_new]
    · unfold kvE
      rw [List.map_append]
      rfl
    · have z : ∀ E : List EK, k ∉ E.map (·.1) → valV (kvE E) (Sum.inl k) = none := by
        intro E
        induction E with
        | nil => exact fun _ => rfl
        | cons f E ih =>
          intro h
          rw [List.map_cons, List.mem_cons, not_or] at h
          show valV ((Sum.inl f.1, V.ref f.2.1) :: kvE E) _ = _
          rw [valV_neg (p := ((Sum.inl f.1, V.ref f.2.1) : Key × V)) (fun c => h.1 (Sum.inl.inj c).symm)]
          exact ih h.2
      exact z E hk
  have old : ∀ e ∈ E, e.2.1 ≠ r := fun e he c => by
    obtain ⟨_, xs, b1, _⟩ := l.ls e he
    rw [c, hr] at b1
    cases b1
  refine ⟨l2.x.poke l.h0 l2.g l.nb, l.h0, l.g, l.nb, ?_, ?_, by rw [upd_same, e1], fun e he => ?_⟩
  · rw [List.map_append]
    rw [List.nodup_append]
    exact ⟨l.kn, List.pairwise_singleton _ _, fun x hx z hz c => hk (by rw [← show z = k from mem_1 hz, ← c]; exact hx)⟩
  · rw [List.map_append]
    rw [List.nodup_append]
    refine ⟨l.ln, List.pairwise_singleton _ _, fun x hx z hz c => ?_⟩
    obtain ⟨e, he, rfl⟩ := List.mem_map.mp hx
    exact old e he (c.trans (mem_1 hz))
  · rcases mem_or he with he | he
    · obtain ⟨c1, xs, c2, c3⟩ := l2.ls e he
      exact ⟨c1, xs, by rw [upd_ne c1.1]; exact c2, c3⟩
    · rw [mem_1 he]
      refine ⟨⟨rp, l.x.old nr hr, l.x.ok.e.off hr, nr⟩, [], ?_, .nil⟩
      show upd (upd H r (.lst [])) p _ r = _
      rw [upd_ne rp, upd_same]
theorem LoK.nil (e : Ok K B G H) (hp : H p = none) : LoK K B G H G (upd H p (.dK [])) p [] := ⟨Ext.loose e hp, hp, e.e.off hp, e.b.ne hp, List.nodup_nil, List.nodup_nil, upd_same, fun _ h => by cases h⟩
end
end Lw

namespace Lw
open PySem.Spec PySem L2 PyProof.Rows
open Evl (Ex Ex.refl Ex.trans Ex.new Ex.off ex_rd ex_l ex_t)
/-! ### sorted of a dict with numbers for keys -/
section
variable {s : Shared} {P : Program} {w : World} {A : Around} {E : Value → Shared → Prop}
end
section
variable {K : Fg} {P : Program} {w : World} {B : Bg} {G0 H0 G H G' G1 H1 G2 H2 : Hp} {σ : L2.St} {te ta tb tk tv ty : TE} {tr : TA} {tt : TT} {tg : TG} {d : PyData} {ds es : List PyData} {D : Ends} {t u : TS} {b : Bool} {v y : V} {i j : Nat} {k : Int} {p : Addr} {E : List EK} {mm : List (Int × List PyData)} {nn : List (Int × PyData)}
theorem LoK.from_ (X : Ext K B G H G1 H1) (l : LoK K B G1 H1 G2 H2 p E) : LoK K B G H G2 H2 p E :=
  ⟨X.trans l.x, X.old l.nb l.h0, l.g, l.nb, l.kn, l.ln, l.h, fun e he => by
    obtain ⟨⟨a1, a2, a3, a4⟩, z⟩ := l.ls e he
    exact ⟨⟨a1, X.old a4 a2, a3, a4⟩, z⟩⟩
theorem LoI.from_ (X : Ext K B G H G1 H1) (l : LoI K B G1 H1 G2 H2 p mm) : LoI K B G H G2 H2 p mm := by
  obtain ⟨E, l, e⟩ := l
  exact ⟨E, l.from_ X, e⟩
/-- told by what stands there now -/
theorem LoK.frz2 (l : LoK K B G0 H0 G H p E) : ∃ G2, Ext K B G0 H0 G2 H ∧ Ex G G2 ∧ DpI K G2 (.ref p) ((mmE E).map fun m => (m.1, .list m.2)) ∧ ∀ a, (a = p ∨ a ∈ E.map (·.2.1)) → G2 a = H a := by
  let G2 : Hp := fun a => if a = p ∨ a ∈ E.map (·.2.1) then H a else G a
  have out : ∀ {a : Addr} {o : HO}, G a = some o → ¬ (a = p ∨ a ∈ E.map (·.2.1)) := fun {a o} z c => by
    rcases c with c | c
    · rw [c, l.g] at z
      cases z
    · obtain ⟨e, he, rfl⟩ := List.mem_map.mp c
      rw [(l.ls e he).1.2.2.1] at z
      cases z
  have gg : Ex G G2 := fun a o z => by
    show (if a = p ∨ a ∈ E.map (·.2.1) then H a else G a) = some o
    rw [if_neg (out z)]
    exact z
  have no : ∀ {a : Addr}, (a = p ∨ a ∈ E.map (·.2.1)) → H0 a = none ∧ ¬ isB B a := fun {a} c => by
    rcases c with c | c
    · rw [c]
      exact ⟨l.h0, l.nb⟩
    · obtain ⟨e, he, rfl⟩ := List.mem_map.mp c
      exact ⟨(l.ls e he).1.2.1, (l.ls e he).1.2.2.2⟩
  refine ⟨G2, ⟨l.x.gg.trans gg, l.x.hh, fun a o z g => ?_, fun a o z => ?_, l.x.ok.c.mono gg, l.x.ok.b.keep (fun a z g => ?_) fun _ _ _ z => z⟩, gg, ⟨p, kvE E, rfl, ?_, ?_⟩, fun a c => if_pos c⟩
  · show (if a = p ∨ a ∈ E.map (·.2.1) then H a else G a) = none
    rw [if_neg (fun c => by rw [(no c).1] at z; cases z)]
    exact l.x.fr a o z g
  · have z : (if a = p ∨ a ∈ E.map (·.2.1) then H a else G a) = some o := z
    split at z
    · exact z
    · exact l.x.ok.e a o z
  · show (if a = p ∨ a ∈ E.map (·.2.1) then H a else G a) = none
    rw [if_neg (fun c => (no c).2 z)]
    exact g
  · show (if p = p ∨ p ∈ E.map (·.2.1) then H p else G p) = _
    rw [if_pos (.inl rfl)]
    exact l.h
  · unfold mmE kvE
    rw [List.map_map]
    refine paired_same fun e he => ⟨rfl, ?_⟩
    obtain ⟨_, xs, c2, c3⟩ := l.ls e he
    refine .lst (SqL.of ?_) (dpAll_mono gg c3)
    show (if e.2.1 = p ∨ e.2.1 ∈ E.map (·.2.1) then H e.2.1 else G e.2.1) = _
    rw [if_pos (.inr (List.mem_map.mpr ⟨e, he, rfl⟩))]
    exact c2
def listI (mm : List (Int × List PyData)) : List (Int × PyData) := mm.map fun m => (m.1, .list m.2)
theorem LoI.frz (l : LoI K B G0 H0 G H p mm) : ∃ G2, Ext K B G0 H0 G2 H ∧ Ex G G2 ∧ DpI K G2 (.ref p) (listI mm) := by
  obtain ⟨E, l, rfl⟩ := l
  obtain ⟨G2, X, e, d, _⟩ := l.frz2
  exact ⟨G2, X, e, d⟩
/-- d.clear() -/
theorem LoI.clear (hσ : σ[i]? = some (some (.ref p))) (e : Ok K B G0 H0) (l : LoI K B G0 H0 G H p mm) (k : ∀ H2, Ext K B G0 H0 G0 H2 → D.nx σ H2) : tDrop (tBM0 K "dict" rDClear (tVar i)) D σ H := by
  obtain ⟨E, l, rfl⟩ := l
  exact ⟨.ref p, hσ, .inr (.inr (.inl ⟨rfl, .inl ⟨_, l.h⟩⟩)), p, _, rfl, rfl, l.h, k _ ((l.x.back (Ex.refl G0) e.c).poke l.h0 (e.e.off l.h0) l.nb)⟩
/-! such dicts that a def returns: new, or to be kept -/
def RetI (K : Fg) (B : Bg) (G H : Hp) (Q : VK) (mm : List (Int × List PyData)) : Prop := ∀ p G2 H2, LoI K B G H G2 H2 p mm → Q (.ref p) H2
theorem RetI.mono {Q : VK} (X : Ext K B G H G1 H1) (h : RetI K B G H Q mm) : RetI K B G1 H1 Q mm := fun p G2 H2 l => h p G2 H2 (l.from_ X)
end
end Lw

namespace Lw
open PySem.Spec PySem L2 PyProof.Rows
open Evl (Ex Ex.refl Ex.trans Ex.new Ex.off ex_rd ex_l ex_t)
/-! ### how far: steps along neighbours -/
def Wlk (adj : Int → List Int) (s : Int) : Nat → Int → Prop
  | 0, p => p = s
  | n + 1, p => ∃ a, Wlk adj s n a ∧ p ∈ adj a
def Far (adj : Int → List Int) (s p : Int) (n : Nat) : Prop := Wlk adj s n p ∧ ∀ m, Wlk adj s m p → n ≤ m
section
variable {adj : Int → List Int} {s : Int} {ks : List Int} {p a b : Int} {n m k : Nat}
theorem Far.one (h : Far adj s p n) (h2 : Far adj s p m) : n = m := Nat.le_antisymm (h.2 m h2.1) (h2.2 n h.1)
theorem Far.zero : Far adj s s 0 := ⟨rfl, fun _ _ => Nat.zero_le _⟩
theorem Far.next (h : Far adj s a n) (hb : b ∈ adj a) (no : ∀ m, m ≤ n → ¬ Wlk adj s m b) : Far adj s b (n + 1) :=
  ⟨⟨a, h.1, hb⟩, fun m z => by
    by_cases c : m ≤ n
    · exact absurd z (no m c)
    · omega⟩
theorem far_ex (h : Wlk adj s n p) : ∃ m, m ≤ n ∧ Far adj s p m := by
  obtain ⟨m, h1, h2⟩ := least_ex (fun n => Wlk adj s n p) n h
  exact ⟨m, h2 n h, h1, h2⟩
theorem wlk_in (hs : s ∈ ks) (cl : ∀ a ∈ ks, ∀ b ∈ adj a, b ∈ ks) : ∀ {n : Nat} {p : Int}, Wlk adj s n p → p ∈ ks
  | 0, p, h => by
    rw [show p = s from h]
    exact hs
  | n + 1, p, h => by
    obtain ⟨a, h1, h2⟩ := h
    exact cl a (wlk_in hs cl h1) p h2
end
/-- the table of all that can be reached -/
structure IsTab (adj : Int → List Int) (s : Int) (T : List (Int × Int)) : Prop where
  nd : (T.map (·.1)).Nodup
  mem : ∀ p n, (p, n) ∈ T ↔ ∃ m : Nat, n = (m : Int) ∧ Far adj s p m
/-- a queue: W found, those ahead of j done -/
structure Bfs (adj : Int → List Int) (s : Int) (ks W : List Int) (T : List (Int × Int)) (j : Nat) : Prop where
  tw : T.map (·.1) = W
  nd : W.Nodup
  sub : ∀ p ∈ W, p ∈ ks
  st : s ∈ W
  far : ∀ p n, (p, n) ∈ T → ∃ m : Nat, n = (m : Int) ∧ Far adj s p m
  up : ∀ (i i' : Nat) (p p' : Int) (m m' : Nat), i ≤ i' → W[i]? = some p → W[i']? = some p' → Far adj s p m → Far adj s p' m' → m ≤ m'
  cl : ∀ (i : Nat) (a : Int), i < j → W[i]? = some a → ∀ b ∈ adj a, b ∈ W
  bd : ∀ (p h : Int) (m k : Nat), p ∈ W → Far adj s p m → W[j]? = some h → Far adj s h k → m ≤ k + 1
section
variable {adj : Int → List Int} {s : Int} {ks W : List Int} {T : List (Int × Int)} {j : Nat} {h b : Int} {k : Nat}
theorem Bfs.has (z : Bfs adj s ks W T j) {p : Int} (hp : p ∈ W) : ∃ m : Nat, (p, (m : Int)) ∈ T ∧ Far adj s p m := by
  rw [← z.tw] at hp
  obtain ⟨q, hq, rfl⟩ := (List.mem_map.mp hp)
  obtain ⟨m, e, f⟩ := z.far q.1 q.2 hq
  exact ⟨m, by rw [← e]; exact hq, f⟩
theorem Bfs.new (z : Bfs adj s ks W T j) (hj : W[j]? = some h) (f : Far adj s h k) (hb : b ∈ adj h) (no : b ∉ W) : Far adj s b (k + 1) := by
  have all : ∀ (m : Nat), m ≤ k → ∀ p, Wlk adj s m p → p ∈ W := by
    intro m
    induction m with
    | zero =>
      intro _ p w
      rw [show p = s from w]
      exact z.st
    | succ m ih =>
      rintro hm p ⟨a, w, ha⟩
      have am := ih (by omega) a w
      obtain ⟨i, hi⟩ := List.getElem?_of_mem am
      by_cases c : i < j
      · exact z.cl i a c hi p ha
      · obtain ⟨m', hm', fa⟩ := far_ex w
        have := z.up j i h a k m' (by omega) hj hi f fa
        omega
  exact f.next hb fun m hm w => no (all m hm b w)
theorem getE_app {α : Type} {W : List α} {x y : α} {i : Nat} (h : (W ++ [x])[i]? = some y) : W[i]? = some y ∨ y = x := by
  by_cases c : i < W.length
  · rw [List.getElem?_append_left c] at h
    exact .inl h
  · rw [List.getElem?_append_right (by omega)] at h
    exact .inr (mem_1 (List.mem_of_getElem? h))
theorem Bfs.push (z : Bfs adj s ks W T j) (hj : W[j]? = some h) (f : Far adj s h k) (hb : b ∈ adj h) (bk : b ∈ ks) (no : b ∉ W) : Bfs adj s ks (W ++ [b]) (T ++ [(b, ((k + 1 : Nat) : Int))]) j := by
  have fb := z.new hj f hb no
  have jl : j < W.length := (List.getElem?_eq_some_iff.mp hj).1
  have bd2 : ∀ (p : Int) (m : Nat), p ∈ W ++ [b] → Far adj s p m → m ≤ k + 1 := fun p m hp fp => by
    rcases mem_or hp with hp | hp
    · exact z.bd p h m k hp fp hj f
    · rw [mem_1 hp] at fp
      exact Nat.le_of_eq (fp.one fb)
  refine ⟨by rw [List.map_append, z.tw]; rfl, ?_, fun p hp => ?_, List.mem_append_left _ z.st, fun p n hp => ?_, fun i i' p p' m m' hi h1 h2 f1 f2 => ?_, fun i a hi h1 c hc => ?_, fun p h2 m k2 hp fp hj2 fh => ?_⟩
  · rw [List.nodup_append]
    exact ⟨z.nd, List.pairwise_singleton _ _, fun x hx y hy c => no (by rw [← show y = b from mem_1 hy, ← c]; exact hx)⟩
  · rcases mem_or hp with hp | hp
    · exact z.sub p hp
    · rw [mem_1 hp]
      exact bk
  · rcases mem_or hp with hp | hp
    · exact z.far p n hp
    · have e := mem_1 hp
      injection e with e1 e2
      exact ⟨k + 1, e2, by rw [e1]; exact fb⟩
  · rcases getE_app h2 with h2' | e2
    · have il : i' < W.length := (List.getElem?_eq_some_iff.mp h2').1
      rw [List.getElem?_append_left (by omega)] at h1
      exact z.up i i' p p' m m' hi h1 h2' f1 f2
    · rw [e2] at f2
      rw [f2.one fb]
      exact bd2 p m (List.mem_of_getElem? h1) f1
  · rw [List.getElem?_append_left (by omega)] at h1
    exact List.mem_append_left _ (z.cl i a hi h1 c hc)
  · rw [List.getElem?_append_left jl, hj] at hj2
    obtain rfl := Option.some.inj hj2
    rw [fh.one f]
    exact bd2 p m hp fp
theorem Bfs.next (z : Bfs adj s ks W T j) (hj : W[j]? = some h) (all : ∀ b ∈ adj h, b ∈ W) : Bfs adj s ks W T (j + 1) := by
  refine ⟨z.tw, z.nd, z.sub, z.st, z.far, z.up, fun i a hi h1 b hb => ?_, fun p h2 m k2 hp fp hj2 fh => ?_⟩
  · by_cases c : i < j
    · exact z.cl i a c h1 b hb
    · have e : i = j := by omega
      rw [e, hj] at h1
      obtain rfl := Option.some.inj h1
      exact all b hb
  · obtain ⟨k, _, f⟩ := z.has (List.mem_of_getElem? hj)
    have a := z.bd p h m k hp fp hj f
    have b := z.up j (j + 1) h h2 k k2 (Nat.le_succ _) hj hj2 f fh
    omega
theorem Bfs.done (z : Bfs adj s ks W T j) (e : W.length ≤ j) : IsTab adj s T := by
  have all : ∀ {n : Nat} {p : Int}, Wlk adj s n p → p ∈ W := fun {n p} w => wlk_in (ks := W) z.st (fun a ha b hb => by
    obtain ⟨i, hi⟩ := List.getElem?_of_mem ha
    have il : i < W.length := (List.getElem?_eq_some_iff.mp hi).1
    exact z.cl i a (by omega) hi b hb) w
  refine ⟨by rw [z.tw]; exact z.nd, fun p n => ⟨z.far p n, ?_⟩⟩
  rintro ⟨m, rfl, f⟩
  obtain ⟨m', h1, f'⟩ := z.has (all f.1)
  rw [f.one f']
  exact h1
theorem Bfs.len (z : Bfs adj s ks W T j) : W.length ≤ ks.length := nd_len W ks z.nd z.sub
end
/-- by levels: all that is at most k away, and of the next level those that S tells -/
structure Lv (adj : Int → List Int) (s : Int) (T : List (Int × Int)) (k : Nat) (S : Int → Prop) : Prop where
  nd : (T.map (·.1)).Nodup
  mem : ∀ p n, (p, n) ∈ T ↔ ∃ m : Nat, n = (m : Int) ∧ Far adj s p m ∧ (m ≤ k ∨ (m = k + 1 ∧ S p))
section
variable {adj : Int → List Int} {s : Int} {ks : List Int} {T : List (Int × Int)} {k : Nat} {S S2 : Int → Prop} {a b : Int}
theorem Lv.as (z : Lv adj s T k S) (e : ∀ p, Far adj s p (k + 1) → (S p ↔ S2 p)) : Lv adj s T k S2 := by
  refine ⟨z.nd, fun p n => (z.mem p n).trans ⟨?_, ?_⟩⟩
  · rintro ⟨m, e1, f, h⟩
    refine ⟨m, e1, f, ?_⟩
    rcases h with h | ⟨h1, h2⟩
    · exact .inl h
    · subst h1
      exact .inr ⟨rfl, (e p f).mp h2⟩
  · rintro ⟨m, e1, f, h⟩
    refine ⟨m, e1, f, ?_⟩
    rcases h with h | ⟨h1, h2⟩
    · exact .inl h
    · subst h1
      exact .inr ⟨rfl, (e p f).mpr h2⟩
theorem Lv.next (z : Lv adj s T k S) (e : ∀ p, Far adj s p (k + 1) → S p) : Lv adj s T (k + 1) fun _ => False := by
  refine ⟨z.nd, fun p n => (z.mem p n).trans ⟨?_, ?_⟩⟩
  · rintro ⟨m, e1, f, h⟩
    exact ⟨m, e1, f, .inl (by omega)⟩
  · rintro ⟨m, e1, f, h⟩
    refine ⟨m, e1, f, ?_⟩
    rcases h with h | ⟨_, h⟩
    · by_cases c : m ≤ k
      · exact .inl c
      · have e2 : m = k + 1 := by omega
        subst e2
        exact .inr ⟨rfl, e p f⟩
    · exact h.elim
theorem Lv.done (z : Lv adj s T k S) (e : ∀ p m, Far adj s p m → m ≤ k) : IsTab adj s T :=
  ⟨z.nd, fun p n => (z.mem p n).trans ⟨fun ⟨m, e1, f, _⟩ => ⟨m, e1, f⟩, fun ⟨m, e1, f⟩ => ⟨m, e1, f, .inl (e p m f)⟩⟩⟩
theorem Lv.at_ (z : Lv adj s T k S) (a : Int) : (a, (k : Int)) ∈ T ↔ Far adj s a k := by
  rw [z.mem]
  constructor
  · rintro ⟨m, e, f, _⟩
    rw [show k = m by omega]
    exact f
  · exact fun f => ⟨k, rfl, f, .inl (Nat.le_refl _)⟩
theorem Lv.old (z : Lv adj s T k S) (h : b ∈ T.map (·.1)) : Lv adj s T k fun p => S p ∨ p = b := z.as fun p f => ⟨.inl, fun h2 => by
  rcases h2 with h2 | rfl
  · exact h2
  · obtain ⟨q, hq, rfl⟩ := List.mem_map.mp h
    obtain ⟨m, _, f2, h3⟩ := (z.mem q.1 q.2).mp hq
    have e := f.one f2
    rcases h3 with h3 | ⟨_, h3⟩
    · omega
    · exact h3⟩
end
/-! ### such tables as dicts -/
section
variable {T : List (Int × Int)} {k n : Int}
end
def intI (T : List (Int × Int)) : List (Int × PyData) := T.map fun q => (q.1, .int q.2)
section
variable {K : Fg} {P : Program} {w : World} {B : Bg} {G0 H0 G H G' G1 H1 G2 H2 : Hp} {σ : L2.St} {te ta tb tk tv ty : TE} {tr : TA} {tt : TT} {g : TG} {d : PyData} {ds es : List PyData} {D : Ends} {t u : TS} {b : Bool} {v y : V} {i j : Nat} {k n : Int} {p f : Addr} {kvs : List (Key × V)} {T : List (Int × Int)} {S : List (Int × Int) → Prop}
/-- a new table is returned -/
def RetT (K : Fg) (B : Bg) (G H : Hp) (Q : VK) (S : List (Int × Int) → Prop) : Prop := ∀ v T G2 H2, S T → Ext K B G H G2 H2 → DpI K G2 v (intI T) → Q v H2
theorem RetT.mono {Q : VK} (X : Ext K B G H G1 H1) (h : RetT K B G H Q S) : RetT K B G1 H1 Q S := fun v T G2 H2 s X2 dv => h v T G2 H2 s (X.trans X2) dv
end
/-! what is never reached -/
end Lw

namespace Lw
open PySem.Spec PySem L2 PyProof.Rows
open Evl (Ex Ex.refl Ex.trans Ex.new Ex.off ex_rd ex_l ex_t)
section
variable {K : Fg} {P : Program} {w : World} {B : Bg} {G0 H0 G H G' G1 H1 G2 H2 : Hp} {σ : L2.St} {te ta tb tk tv ty : TE} {tr : TA} {tt : TT} {g : TG} {d x : PyData} {ds es : List PyData} {D : Ends} {t u : TS} {v y : V} {i j : Nat} {k n : Int} {p f : Addr} {kvs : List (Key × V)} {nn : List (Int × PyData)}
end
end Lw

namespace Lw
open PySem.Spec PySem L2 PyProof.Rows
open Evl (Ex Ex.refl Ex.trans Ex.new Ex.off ex_rd ex_l ex_t)
section
variable {K : Fg} {P : Program} {w : World} {B : Bg} {G0 H0 G H G' G1 H1 G2 H2 : Hp} {σ : L2.St} {te ta tb tk tv ty : TE} {tr : TA} {tt : TT} {g : TG} {d x : PyData} {ds es : List PyData} {D : Ends} {t u : TS} {v y : V} {i j : Nat} {k n : Int} {p f : Addr} {kvs : List (Key × V)} {nn : List (Int × PyData)}
/-- a dict with number keys that is returned and kept -/
def RetD (K : Fg) (B : Bg) (G H : Hp) (Q : VK) (nn : List (Int × PyData)) : Prop := ∀ v G2 H2, Ext K B G H G2 H2 → DpI K G2 v nn → Q v H2
theorem RetD.mono {Q : VK} (X : Ext K B G H G1 H1) (h : RetD K B G H Q nn) : RetD K B G1 H1 Q nn := fun v G2 H2 X2 dv => h v G2 H2 (X.trans X2) dv
end
end Lw

namespace Lw
open PySem.Spec PySem L2 PyProof.Rows
open Evl (Ex Ex.refl Ex.trans Ex.new Ex.off ex_rd ex_l ex_t)
/-! ### a dict with number keys, locked while it is walked -/
def Dat (G G' : Hp) : Prop := ∀ a xs, (Rd G a (.lst xs) → Rd G' a (.lst xs)) ∧ (Rd G a (.tup xs) → Rd G' a (.tup xs))
mutual
theorem dp_dat {K : Fg} {H H' : Hp} (e : Dat H H') : ∀ {v : V} {d : PyData}, Dp K H v d → Dp K H' v d
  | _, _, .non => .non
  | _, _, .bl b => .bl b
  | _, _, .int i => .int i
  | _, _, .str x => .str x
  | _, _, .lst h a => .lst (h.imp_left (e _ _).1) (dpAll_dat e a)
  | _, _, .tup h a => .tup (h.imp_left (e _ _).2) (dpAll_dat e a)
theorem dpAll_dat {K : Fg} {H H' : Hp} (e : Dat H H') : ∀ {vs : List V} {ds : List PyData}, DpAll K H vs ds → DpAll K H' vs ds
  | _, _, .nil => .nil
  | _, _, .cons h a => .cons (dp_dat e h) (dpAll_dat e a)
end
section
variable {K : Fg} {B : Bg} {G G' H G2 H2 G1 : Hp} {a d : Addr} {u u' : HO} {o : Obj} {kvs : List (Key × V)} {v : V} {mm nn : List (Int × PyData)} {σ : L2.St} {te ty : TE} {ds : List PyData} {x : PyData} {i : Nat} {k : Int}
/-- a dict told by its keys, locked or not -/
def DpR (K : Fg) (G : Hp) (v : V) (mm : List (Int × PyData)) : Prop := ∃ (a : Addr) (kvs : List (Key × V)), v = .ref a ∧ Rd G a (.dK kvs) ∧ Paired (fun (kv : Key × V) (m : Int × PyData) => kv.1 = Sum.inl m.1 ∧ Dp K G kv.2 m.2) kvs mm
/-- locked -/
def DpZ (K : Fg) (G : Hp) (v : V) (mm : List (Int × PyData)) : Prop := ∃ (a : Addr) (o : Obj) (kvs : List (Key × V)), v = .ref a ∧ G a = some (.frz o (.dK kvs)) ∧ Paired (fun (kv : Key × V) (m : Int × PyData) => kv.1 = Sum.inl m.1 ∧ Dp K G kv.2 m.2) kvs mm
theorem DpZ.r (h : DpZ K G v mm) : DpR K G v mm := by
  obtain ⟨a, o, kvs, e, h, p⟩ := h
  exact ⟨a, kvs, e, .inr ⟨o, h⟩, p⟩
end
section
variable {K : Fg} {B : Bg} {G G' H : Hp} {σ : L2.St} {te : TE} {tt : TT} {tb : TBd} {ds : List PyData} {v : V} {mm : List (Int × PyData)} {vs : List Nat}
end
end Lw

namespace Lw
open PySem.Spec PySem L2 PyProof.Rows
open Evl (Ex Ex.refl Ex.trans Ex.new Ex.off ex_rd ex_l ex_t)
/-! ### two lists that the law changes later -/
structure LL (K : Fg) (B : Bg) (G0 H0 G H : Hp) (p q : Addr) (ds es : List PyData) : Prop where
  l : Loo K B G0 H0 G H p ds
  m : Loo K B G0 H0 G H q es
  ne : p ≠ q
section
variable {K : Fg} {B : Bg} {G0 H0 G H G2 H2 : Hp} {p q : Addr} {ds es : List PyData} {d : PyData} {σ : L2.St} {ta te : TE} {D : Ends} {u : TS} {i : Nat}
theorem LL.of (a : Loo K B G0 H0 G H p ds) (b : Loo K B G H G2 H2 q es) : LL K B G0 H0 G2 H2 p q ds es :=
  ⟨a.step b.x, ⟨a.x.trans b.x, a.x.old b.nb b.h0, b.g, b.nb, b.h⟩, fun e => by
    obtain ⟨_, z, _⟩ := a.h
    rw [e, b.h0] at z
    cases z⟩
theorem LL.step (a : LL K B G0 H0 G H p q ds es) (X : Ext K B G H G2 H2) : LL K B G0 H0 G2 H2 p q ds es := ⟨a.l.step X, a.m.step X, a.ne⟩
/-- told as they stand; what comes behind -/
theorem LL.see (a : LL K B G0 H0 G H p q ds es) : ∃ G1, Ex G G1 ∧ Ok K B G1 H ∧ Dp K G1 (.ref p) (.list ds) ∧ Dp K G1 (.ref q) (.list es) ∧ ∀ G2 H2, Ext K B G1 H G2 H2 → LL K B G0 H0 G H2 p q ds es := by
  obtain ⟨xs, h1, h2⟩ := a.l.h
  obtain ⟨ys, h3, h4⟩ := a.m.h
  have X1 : Ext K B G0 H0 (upd G p (.lst xs)) H := a.l.x.freeze a.l.h0 a.l.g a.l.nb h1
  have gq : upd G p (.lst xs) q = none := by
    rw [upd_ne (Ne.symm a.ne)]
    exact a.m.g
  have X2 : Ext K B G0 H0 (upd (upd G p (.lst xs)) q (.lst ys)) H := X1.freeze a.m.h0 gq a.m.nb h3
  have e1 : Ex G (upd G p (.lst xs)) := Ex.new a.l.g
  have e2 : Ex (upd G p (.lst xs)) (upd (upd G p (.lst xs)) q (.lst ys)) := Ex.new gq
  refine ⟨_, e1.trans e2, X2.ok, .lst (SqL.of (e2 p _ upd_same)) (dpAll_mono (e1.trans e2) h2), .lst (SqL.of upd_same) (dpAll_mono (e1.trans e2) h4), fun G2 H2 X => ?_⟩
  have eg : Ex G G2 := (e1.trans e2).trans X.gg
  have hh : ∀ c o, ¬ isB B c → H c = some o → H2 c = some o := X.hh
  have Y : Ext K B G0 H0 G H2 := ⟨a.l.x.gg, fun c o n z => hh c o n (a.l.x.hh c o n z), a.l.x.fr, X.ok.less eg a.l.x.ok.c⟩
  exact ⟨⟨Y, a.l.h0, a.l.g, a.l.nb, xs, hh p _ a.l.nb h1, h2⟩, ⟨Y, a.m.h0, a.m.g, a.m.nb, ys, hh q _ a.m.nb h3, h4⟩, a.ne⟩
theorem LL.append (hσ : σ[i]? = some (some (.ref p))) (a : LL K B G0 H0 G H p q ds es) (h : EvD K B ta σ G d) (hl : ds.length < 100000) (k : ∀ G2 H2, LL K B G0 H0 G2 H2 p q (ds ++ [d]) es → Ex G G2 → u D σ H2) :
    tSeq (tDrop (tBM K "list" rAppend (tVar i) (tCons ta tNil))) u D σ H := by
  obtain ⟨_, h1, _⟩ := a.l.h
  show tDrop (tBM K "list" rAppend (tVar i) (tCons ta tNil)) { D with nx := u D } σ H
  refine ⟨.ref p, hσ, .inl ⟨rfl, _, SqL.of h1⟩, h H a.l.x.ok _ fun v G2 H2 X dv => ?_⟩
  have m := a.step X
  obtain ⟨xs, h3, h4⟩ := m.l.h
  obtain ⟨ys, h5, h6⟩ := m.m.h
  have Y : Ext K B G0 H0 G2 (upd H2 p (.lst (xs ++ [v]))) := ⟨m.l.x.gg, fun c o n z => by
    rw [upd_ne (ne_of_none z a.l.h0)]
    exact m.l.x.hh c o n z, m.l.x.fr, m.l.x.ok.mut m.l.g a.l.nb⟩
  refine ⟨p, xs, v, rfl, rfl, h3, by rw [dpAll_len h4]; exact szl hl, k G2 _ ⟨⟨Y, a.l.h0, m.l.g, a.l.nb, xs ++ [v], upd_same, dpAll_app h4 (.cons dv .nil)⟩, ⟨Y, a.m.h0, m.m.g, a.m.nb, ys, ?_, h6⟩, a.ne⟩ X.gg⟩
  rw [upd_ne (Ne.symm a.ne)]
  exact h5
/-! ### a dict of pairs with a number ahead -/
end
end Lw

namespace Lw
open PySem.Spec PySem L2 PyProof.Rows
open Evl (Ex Ex.refl Ex.trans Ex.new Ex.off ex_rd ex_l ex_t)
/-! ### set(t), t a tuple of numbers; how many such a set has -/
section
variable {X : Cx}
end
section
variable {K : Fg} {B : Bg} {G G' H : Hp} {σ : L2.St} {te ta tb : TE} {tt tu : TT} {tr : TA} {ds : List PyData} {d : PyData} {v : V} {vs : List Nat} {w : World} {D : Ends} {t u : TS}
/-! ### [.. for a, b in a list of pairs] -/
/-! ### for over a tuple that is one of several -/
/-! ### tests of which it is all one how they come out -/
def EvBA (K : Fg) (B : Bg) (tt : TT) (σ : L2.St) (G : Hp) : Prop := ∀ H, Ok K B G H → ∀ Q : Bool → Hp → Prop, (∀ b G2 H2, Ext K B G H G2 H2 → Q b H2) → tt σ H Q
theorem EvBA.mono (e : Ex G G') (c : Cel K B G) (h : EvBA K B tt σ G) : EvBA K B tt σ G' := fun H eH Q q =>
  h H (eH.less e c) Q fun b G2 H2 X => by
    obtain ⟨X2, _⟩ := X.wide e eH
    exact q b _ H2 X2
/-! ### a list as a test -/
end
end Lw

namespace Lw
open PySem.Spec PySem L2 PyProof.Rows
open Evl (Ex Ex.refl Ex.trans Ex.new Ex.off ex_rd ex_l ex_t)
/-! ### {e for x in xs if t}: a new set of numbers -/
/-- what comes to a set by a number more -/
def more (S : Int → Bool) (k : Int) : Int → Bool := fun j => S j || decide (j = k)
section
variable {X : Cx}
end
section
variable {K : Fg} {B : Bg} {G G' H : Hp} {σ : L2.St} {te ta tb : TE} {tt tu : TT} {tr : TA} {ds : List PyData} {d : PyData} {w : World} {D : Ends} {t u : TS} {wi : TI} {as bs : Nat → Option PyData} {n : Nat}
end
end Lw

namespace Lw
open PySem.Spec PySem L2 PyProof.Rows
open Evl (Ex Ex.refl Ex.trans Ex.new Ex.off ex_rd ex_l ex_t)
/-! ### sorted(d.items()), numbers for keys and values -/
section
variable {s : Shared} {P : Program} {w : World} {A : Around} {E : Value → Shared → Prop}
end
/-- pairs of numbers as a dict's -/
def kvI2 (ps : List (Int × Int)) : List (L2.Key × V) := ps.map fun q => (Sum.inl q.1, V.int q.2)
section
variable {X : Cx}
end
section
variable {K : Fg} {B : Bg} {G G' H : Hp} {σ : L2.St} {te ta tb : TE} {tt tu : TT} {tr : TA} {ds : List PyData} {d : PyData} {w : World} {D : Ends} {t u : TS} {i : Nat}
/-- new tuples are taken in -/
theorem Ext.grow {G1 H1 H2 : Hp} {L : List (Addr × List Int)} (X : Ext K B G H G1 H1) (up : ∀ b o, H1 b = some o → H2 b = some o) (new : ∀ z ∈ L, H1 z.1 = none ∧ H2 z.1 = some (.tup (z.2.map V.int))) :
    ∃ G2, Ext K B G H G2 H2 ∧ Ex G1 G2 ∧ (∀ z ∈ L, G2 z.1 = some (.tup (z.2.map V.int))) ∧ ∀ a, G1 a = none → (∀ z ∈ L, z.1 ≠ a) → G2 a = none := by
  let GT : Hp := fun a => if a ∈ L.map (·.1) then H2 a else none
  have eT : Ex GT H2 := fun a o h => by
    have h' : (if a ∈ L.map (·.1) then H2 a else none) = some o := h
    split at h'
    · exact h'
    · cases h'
  have e1 : Ex G1 H2 := fun a o h => up a o (X.ok.e a o h)
  have none_of : ∀ a, G1 a = none → (∀ z ∈ L, z.1 ≠ a) → join G1 GT a = none := fun a g n => join_none g (by
    show (if a ∈ L.map (·.1) then H2 a else none) = none
    rw [if_neg fun m => by
      obtain ⟨z, hz, ez⟩ := List.mem_map.mp m
      exact n z hz ez])
  refine ⟨join G1 GT, ⟨X.gg.trans join_l, fun a o n h => up a o (X.hh a o n h), fun a o h g => none_of a (X.fr a o h g) fun z hz ez => ?_, ⟨join_of e1 eT, X.ok.c.mono join_l, X.ok.b.keep (fun a hb g => none_of a g fun z hz ez => ?_) fun a o _ h => up a o h⟩⟩, join_l, fun z hz => join_r e1 eT _ _ ?_, none_of⟩
  · rw [← ez] at h
    by_cases ib : isB B z.1
    · obtain ⟨c, q⟩ := ib
      obtain ⟨_, i, r, m, e2, _⟩ := X.ok.b z.1 c q
      rw [(new z hz).1] at e2
      cases e2
    · have y := X.hh _ _ ib h
      rw [(new z hz).1] at y
      cases y
  · obtain ⟨c, q⟩ := hb
    obtain ⟨_, i, r, m, e2, _⟩ := X.ok.b a c q
    rw [← ez, (new z hz).1] at e2
    cases e2
  · show (if z.1 ∈ L.map (·.1) then H2 z.1 else none) = _
    rw [if_pos (List.mem_map.mpr ⟨z, hz, rfl⟩)]
    exact (new z hz).2
/-- for a, b in pairs, what the loop changes told by what stands there now -/
theorem sq_forP0 {wi : TI} {as bs : Nat → Option PyData} {n i j : Nat} {Pv : Hp → Nat → L2.St → Hp → Hp → Prop} (h : EvP K B wi σ G n as bs) (e : Ok K B G H) (h0 : ∀ G2 H2, Ext K B G H G2 H2 → Pv G2 0 σ G2 H2)
    (ho : ∀ Gx k σ' G1 H1, Pv Gx k σ' G1 H1 → Ex Gx G1 ∧ Ok K B G1 H1) (hm : ∀ Gx k σ' G1 H1 G2 H2, Pv Gx k σ' G1 H1 → Ext K B G1 H1 G2 H2 → Pv Gx k σ' G2 H2)
    (hs : ∀ G1 H1, Ext K B G H G1 H1 → ∀ (k : Nat) x y v w σ' G' H', k < n → as k = some x → bs k = some y → Pv G1 k σ' G' H' → Dp K G' v x → Dp K G' w y →
      t (lpE D u fun σ2 H2 => ∃ G2, Pv G1 (k + 1) σ2 G2 H2) ((σ'.set i (some v)).set j (some w)) H')
    (hd : ∀ G1 H1, Ext K B G H G1 H1 → ∀ σ' G' H', Pv G1 n σ' G' H' → u D σ' H') : tSeq (tFor wi (gTup K 2 (gCons (gName i) (gCons (gName j) gNil))) t) u D σ H :=
  h H e _ fun J xs ys G1 H1 X wk dx dy => by
    refine for_it wk (fun k σ' H' => ∃ G', Pv G1 k σ' G' H') ⟨G1, h0 G1 H1 X⟩ ?_ ?_ ?_
    · rintro k σ' H' _ ⟨G', p⟩
      obtain ⟨p1, p2⟩ := ho _ _ _ _ _ p
      exact p1.trans p2.e
    · rintro k v σ' H' H2 hk ⟨G', p⟩ ⟨T, x, y, rfl, hT, rfl, ex, ey⟩
      obtain ⟨p1, p2⟩ := ho _ _ _ _ _ p
      obtain ⟨a, ha, ad⟩ := dx k x hk ex
      obtain ⟨b, hb, bd⟩ := dy k y hk ey
      have XT := Ext.new (o := .tup [x, y]) p2 hT
      have eg := p1.trans XT.gg
      exact ⟨T, [x, y], rfl, SqT.of upd_same, rfl, x, [y], rfl, y, [], rfl, rfl, hs G1 H1 X k a b x y σ' _ _ hk ha hb (hm _ _ _ _ _ _ _ p XT) (dp_mono eg ad) (dp_mono eg bd)⟩
    · rintro σ' H' ⟨G', p⟩
      exact hd G1 H1 X σ' G' H' p
/-! ### [.. for l in a tuple of tuples of numbers if ..] -/
/-! ### counting into a dict -/
structure CntI (ps : List (Int × Int)) (cs : List Int) : Prop where
  nd : (ps.map (·.1)).Nodup
  mem : ∀ c, c ∈ ps.map (·.1) ↔ c ∈ cs
  cnt : ∀ q ∈ ps, q.2 = (cs.count q.1 : Int)
theorem CntI.nil : CntI [] [] := ⟨List.nodup_nil, fun c => Iff.rfl, fun q h => by cases h⟩
theorem kvI2_val (ps : List (Int × Int)) (c : Int) : valV (kvI2 ps) (Sum.inl c) = (ps.find? fun q => decide (q.1 = c)).map fun q => V.int q.2 := by
  unfold valV kvI2
  rw [List.find?_map, Option.map_map]
  refine congrArg (fun z => Option.map _ z) (congrArg (fun f => List.find? f ps) (funext fun q => ?_))
  show decide (Sum.inl q.1 = Sum.inl c) = decide (q.1 = c)
  exact decide_eq_decide.mpr ⟨fun z => Sum.inl.inj z, fun z => by rw [z]⟩
theorem CntI.find {ps : List (Int × Int)} {cs : List Int} (h : CntI ps cs) (c : Int) : (ps.find? fun q => decide (q.1 = c)).map (·.2) = if c ∈ cs then some (cs.count c : Int) else none := by
  cases e : ps.find? fun q => decide (q.1 = c) with
  | none =>
    rw [if_neg fun m => ?_]
    · rfl
    · obtain ⟨q, hq, ec⟩ := List.mem_map.mp ((h.mem c).mpr m)
      exact List.find?_eq_none.mp e q hq (decide_eq_true ec)
  | some q =>
    have hq := List.mem_of_find?_eq_some e
    have ec : q.1 = c := of_decide_eq_true (List.find?_some (p := fun q : Int × Int => decide (q.1 = c)) e)
    rw [if_pos ((h.mem c).mp (List.mem_map.mpr ⟨q, hq, ec⟩))]
    show some q.2 = _
    rw [h.cnt q hq, ec]
theorem CntI.get {ps : List (Int × Int)} {cs : List Int} (h : CntI ps cs) (c : Int) : (valV (kvI2 ps) (Sum.inl c)).getD (.int 0) = .int (cs.count c : Int) := by
  have z := h.find c
  rw [kvI2_val]
  cases e : ps.find? fun q => decide (q.1 = c) with
  | none =>
    rw [e] at z
    by_cases m : c ∈ cs
    · rw [if_pos m] at z
      cases z
    · rw [List.count_eq_zero_of_not_mem m]
      rfl
  | some q =>
    rw [e] at z
    by_cases m : c ∈ cs
    · rw [if_pos m] at z
      have z : q.2 = _ := Option.some.inj z
      show V.int q.2 = _
      rw [z]
    · rw [if_neg m] at z
      cases z
theorem CntI.put {ps : List (Int × Int)} {cs : List Int} (h : CntI ps cs) (c : Int) : ∃ qs, putK (kvI2 ps) (Sum.inl c) (.int (cs.count c + 1 : Int)) = kvI2 qs ∧ CntI qs (cs ++ [c]) ∧ qs.length ≤ ps.length + 1 := by
  by_cases m : c ∈ ps.map (·.1)
  · refine ⟨ps.map fun q => if q.1 = c then (c, (cs.count c + 1 : Int)) else q, ?_, ⟨?_, fun z => ?_, fun q hq => ?_⟩, by rw [List.length_map]; omega⟩
    · unfold putK
      rw [if_pos ?_]
      · unfold kvI2
        simp only [List.map_map]
        refine List.map_congr_left fun q _ => ?_
        show (if (Sum.inl q.1 : L2.Key) = Sum.inl c then ((Sum.inl q.1 : L2.Key), V.int (cs.count c + 1 : Int)) else (Sum.inl q.1, V.int q.2)) = (Sum.inl (if q.1 = c then (c, (cs.count c + 1 : Int)) else q).1, V.int (if q.1 = c then (c, (cs.count c + 1 : Int)) else q).2)
        by_cases e : q.1 = c
        · rw [if_pos (by rw [e]), if_pos e, e]
        · rw [if_neg (fun z => e (Sum.inl.inj z)), if_neg e]
      · obtain ⟨q, hq, ec⟩ := List.mem_map.mp m
        exact List.any_eq_true.mpr ⟨_, List.mem_map.mpr ⟨q, hq, rfl⟩, decide_eq_true (by rw [ec])⟩
    · rw [List.map_map, List.map_congr_left (g := (·.1)) fun q _ => ?_]
      · exact h.nd
      · show (if q.1 = c then (c, _) else q).1 = q.1
        split
        · rename_i e
          exact e.symm
        · rfl
    · rw [List.map_map, List.map_congr_left (g := (·.1)) fun q _ => ?_, h.mem, List.mem_append, List.mem_singleton]
      · exact ⟨.inl, fun y => y.elim id fun e => by rw [e]; exact (h.mem c).mp m⟩
      · show (if q.1 = c then (c, _) else q).1 = q.1
        split
        · rename_i e
          exact e.symm
        · rfl
    · obtain ⟨q0, hq0, rfl⟩ := List.mem_map.mp hq
      by_cases e : q0.1 = c
      · rw [if_pos e, List.count_append, List.count_singleton_self]
        show (cs.count c + 1 : Int) = ((cs.count c + 1 : Nat) : Int)
        omega
      · rw [if_neg e, List.count_append, List.count_eq_zero_of_not_mem (a := q0.1) (l := [c]) (fun z => e (mem_1 z)), h.cnt q0 hq0]
        rfl
  · have mc : c ∉ cs := fun z => m ((h.mem c).mpr z)
    refine ⟨ps ++ [(c, (cs.count c + 1 : Int))], ?_, ⟨?_, fun z => ?_, fun q hq => ?_⟩, by rw [List.length_append]; exact Nat.le_refl _⟩
    · unfold putK
      rw [if_neg ?_]
      · unfold kvI2
        rw [List.map_append]
        rfl
      · intro y
        obtain ⟨p, hp, e⟩ := List.any_eq_true.mp y
        obtain ⟨q, mq, rfl⟩ := List.mem_map.mp hp
        exact m (List.mem_map.mpr ⟨q, mq, Sum.inl.inj (of_decide_eq_true e)⟩)
    · rw [List.map_append]
      exact List.nodup_append.mpr ⟨h.nd, List.pairwise_singleton _ _, fun a ha b hb e => m (by
        have hb : b = c := mem_1 hb
        rw [← hb, ← e]
        exact ha)⟩
    · rw [List.map_append, List.mem_append, List.mem_append, h.mem]
      exact Iff.rfl
    · rcases mem_or hq with hq | hq
      · have ne : q.1 ≠ c := fun z => m (by rw [← z]; exact List.mem_map.mpr ⟨q, hq, rfl⟩)
        rw [List.count_append, List.count_eq_zero_of_not_mem (a := q.1) (l := [c]) (fun z => ne (mem_1 z)), h.cnt q hq]
        rfl
      · rw [mem_1 hq, List.count_append, List.count_singleton_self]
        show (cs.count c + 1 : Int) = ((cs.count c + 1 : Nat) : Int)
        omega
end
end Lw

namespace Lw
open PySem.Spec PySem L2 PyProof.Rows
open Evl (Ex Ex.refl Ex.trans Ex.new Ex.off ex_rd ex_l ex_t)
/-! ### None asked of a dict whose keys are tuples -/
section
variable {s : Shared} {P : Program} {w : World} {A : Around}
variable {E : Value → Shared → Prop}
end
section
variable {X : Cx}
end
section
variable {K : Fg} {P : Program} {w : World} {B : Bg} {G G' G0 H0 G2 H2 H : Hp} {σ : L2.St} {te ta tb : TE} {tr : TA} {ds es : List PyData} {d : PyData} {D : Ends} {u : TS} {i j : Nat} {v : V} {p q : Addr}
end
end Lw

namespace Lw
open PySem.Spec PySem L2 PyProof.Rows
open Evl (Ex Ex.refl Ex.trans Ex.new Ex.off ex_rd ex_l ex_t)
/-! ### [.. for i in range(n) if ..] while an error is handled -/
section
variable {X : Cx}
end
end Lw

namespace Lw
open PySem.Spec PySem L2 PyProof.Rows
open Evl (Ex Ex.refl Ex.trans Ex.new Ex.off ex_rd ex_l ex_t)
/-! ### defs called while an error of a known class is handled -/
structure FnE (P : Program) (w : World) (K : Fg) (mg : Str → Option Value) (base : Heap) (CX : CXT) (k : Nat) (f : Addr) (fd : FuncData) (ps : List Str) (Ph : Addr → Obj → Prop) (sp : Sp) : Prop where
  ln : ∀ vs H Q E, sp vs H Q E → vs.length = ps.length
  go : ∀ (A : Around) (outer : List Env) (s : Shared) (H : Hp) (us : List Value) (vs : List V) (Q : VK) (E : XK) (p : Addr × Obj), L2H.RoomH k A → L2H.Hot1 A p → Ph p.1 p.2 → L2H.PinOk outer H s p → Env0 P w K mg base A outer s H → BindsTo s fd ⟨us, []⟩ (ps.zip us) → Vals vs us → sp vs H Q E → codeAny (model P w) A (.call (.ref f) ⟨us, []⟩) (CR CX outer P w H s Q E) s
structure GoodE (P : Program) (w : World) (K : Fg) (mg : Str → Option Value) (base : Heap) (CX : CXT) (k : Nat) (x : Str) (ps : List Str) (Ph : Addr → Obj → Prop) (sp : Sp) : Prop where
  ex : ∃ fd, FnE P w K mg base CX k (He.ga K x) fd ps Ph sp ∧ Binds K fd ps []
  g : mg x = some (.ref (He.ga K x))
  kp : PySem.W.keepIn K (.ref (He.ga K x)) = true
section
variable {X : Cx} {k : Nat} {ps : List Str} {sp : Sp} {Ph : Addr → Obj → Prop} {x : Str} {p pos : Pos} {e : Expr} {es : List Expr} {t : TA}
end
section
variable {K : Fg} {B : Bg} {G H : Hp} {σ : L2.St} {te : TE} {tr : TA} {tt : TT}
end
end Lw

namespace Lw
open PySem.Spec PySem L2 PyProof.Rows
open Evl (Ex Ex.refl Ex.trans Ex.new Ex.off ex_rd ex_l ex_t)
/-! ### errors of which it is known that they have no context: calls, raises, try -/
section
variable {X : Cx} {x y n : Str} {c1 c2 : Value} {i : Nat} {body suite : List Stmt} {b₀ : Stmt} {np np2 tp pos pos' : Pos} {kk : Nat} {tb : WX → TS} {ts : Addr → Value → Option Addr → TS} {Wout : WX}
end
end Lw

namespace Lw
open PySem.Spec PySem L2 PyProof.Rows
open Evl (Ex Ex.refl Ex.trans Ex.new Ex.off ex_rd ex_l ex_t)
/-! ### lists of drawn items: displays, kept or loose; an item of a loose list set -/
section
variable {K : Fg} {B : Bg} {G G0 H H0 : Hp} {σ : L2.St} {D : Ends} {ds : List PyData} {p : Addr} {te ti ta tb : TE} {tr : TA} {u : TS}
theorem dpAll_set {v : V} {d : PyData} (dv : Dp K G v d) : ∀ {ds : List PyData} {xs : List V} {j : Nat}, DpAll K G xs ds → DpAll K G (xs.set j v) (ds.set j d)
  | [], _, _, .nil => .nil
  | _ :: _, _, 0, .cons _ a => .cons dv a
  | _ :: _, _, _ + 1, .cons h a => .cons h (dpAll_set dv a)
/-- xs[i] = y, xs loose, i and y drawn -/
theorem st_pokeL {i : Nat} {S : PyData → Prop} {J : Nat → Prop} (hσ : σ[i]? = some (some (.ref p))) (l : Loo K B G0 H0 G H p ds) (h : EvS K B te σ G S) (hi : EvS K B ti σ G (fun d => ∃ j : Nat, d = .int (j : Int) ∧ j < ds.length ∧ J j)) (k : ∀ j d G2 H2, S d → J j → Loo K B G0 H0 G2 H2 p (ds.set j d) → Ex G G2 → D.nx σ H2) : tAsg te (gSub (tVar i) ti rSetL) D σ H :=
  h H l.x.ok _ fun d v G2 H2 s X dv => ⟨.ref p, hσ, hi.mono X.gg l.x.ok.c H2 X.ok _ fun d2 v2 G3 H3 s2 X3 dv2 => by
    obtain ⟨j, rfl, hj, Jj⟩ := s2
    obtain rfl := dp_int dv2
    have l3 := (l.step X).step X3
    obtain ⟨xs, h3, a3⟩ := l3.h
    refine ⟨p, xs, (j : Int), j, rfl, rfl, h3, ?_, k j d G3 _ s Jj (l3.put (dpAll_set (dp_mono X3.gg dv) a3)) (X.gg.trans X3.gg)⟩
    unfold ixN
    rw [dpAll_len a3, if_pos (by omega), if_pos (by omega), Int.toNat_natCast]⟩
end
end Lw

namespace Lw
open PySem.Spec PySem L2 PyProof.Rows
open Evl (Ex Ex.refl Ex.trans Ex.new Ex.off ex_rd ex_l ex_t)
/-! ### enumerate over a text -/
section
variable {s : Shared} {prog : Program} {w : World} {A : Around} {E : Value → Shared → Prop}
end
section
variable {K : Fg} {P : Program} {w : World} {B : Bg} {G G' G0 H H0 : Hp} {σ : L2.St} {D : Ends} {ds : List PyData} {p : Addr} {te ti ta tb : TE} {tr : TA} {tt : TT} {tbd : TBd} {u : TS} {wi : TI} {as bs : Nat → Option PyData} {n : Nat} {vs : List Nat} {a b : Str} {ls : List (List Int)}
theorem EvP.mono (e : Ex G G') (c : Cel K B G) (h : EvP K B wi σ G n as bs) : EvP K B wi σ G' n as bs := fun H eH R k =>
  h H (eH.less e c) R fun J xs ys G1 H1 X wk dx dy => by
    obtain ⟨X2, e2⟩ := X.wide e eH
    refine k J xs ys _ H1 X2 (wk.mono (fun _ q => e2.trans q) fun _ _ _ _ _ _ y => y) (fun i x hi q => ?_) (fun i x hi q => ?_)
    · obtain ⟨d, z1, z2⟩ := dx i x hi q
      exact ⟨d, z1, dp_mono e2 z2⟩
    · obtain ⟨d, z1, z2⟩ := dy i x hi q
      exact ⟨d, z1, dp_mono e2 z2⟩
/-! ### clauses over pairs, one within another -/
/-! ### comprehensions over a text, dicts over a tuple -/
/-! ### join within a comprehension; f-strings, signs in texts -/
/-- a, b, c = xs, xs a list -/
theorem sq_unpackL {u : TS} {n : Nat} {g : TGs} (h : EvD K B te σ G (.list ds)) (e : Ok K B G H) (hl : ds.length = n) (k : ∀ vs G2 H2, Ext K B G H G2 H2 → DpAll K G2 vs ds → g vs σ H2 (u D)) : tSeq (tAsg te (gLst K n g)) u D σ H :=
  h H e _ fun v G2 H2 X dv => by
    obtain ⟨a, xs, rfl, hs, hx⟩ := dp_lst dv
    exact ⟨a, xs, rfl, ex_l X.ok.e hs, (dpAll_len hx).trans hl, k xs G2 H2 X hx⟩
end
end Lw

namespace Lw
open PySem.Spec PySem L2 PyProof.Rows
open Evl (Ex Ex.refl Ex.trans Ex.new Ex.off ex_rd ex_l ex_t)
/-! ### rows of signs, each row a list that is changed -/
def rowV (C : Nat) (f : Nat → Nat) : List V := (List.range C).map fun c => V.str ⟨#[f c]⟩
def rowP (C : Nat) (f : Nat → Nat) : List PyData := (List.range C).map fun c => PyData.str ⟨#[f c]⟩
def gridP (R C : Nat) (f : Nat → Nat → Nat) : List PyData := (List.range R).map fun r => PyData.list (rowP C (f r))
structure LoX (K : Fg) (B : Bg) (G0 H0 G H : Hp) (p : Addr) (R C : Nat) (f : Nat → Nat → Nat) : Prop where
  x : Ext K B G0 H0 G H
  h0 : H0 p = none
  g : G p = none
  nb : ¬ isB B p
  h : ∃ qs : List Addr, H p = some (.lst (qs.map V.ref)) ∧ qs.length = R ∧ qs.Nodup ∧ p ∉ qs ∧ (∀ q ∈ qs, H0 q = none ∧ G q = none ∧ ¬ isB B q) ∧ ∀ (r : Nat) q, qs[r]? = some q → H q = some (.lst (rowV C (f r)))
section
variable {K : Fg} {B : Bg} {G G' G0 H H0 G2 H2 : Hp} {σ : L2.St} {D : Ends} {p : Addr} {te tr tc : TE} {ta : TA} {t u : TS} {R C i n : Nat} {f g : Nat → Nat → Nat} {ds : List PyData}
theorem LoX.step (l : LoX K B G0 H0 G H p R C f) (X : Ext K B G H G2 H2) : LoX K B G0 H0 G2 H2 p R C f := by
  obtain ⟨qs, h1, h2, h3, h4, h5, h6⟩ := l.h
  refine ⟨l.x.trans X, l.h0, X.fr p _ h1 l.g, l.nb, qs, X.hh p _ l.nb h1, h2, h3, h4, fun q hq => ?_, fun r q hr => X.hh q _ (h5 q (List.mem_of_getElem? hr)).2.2 (h6 r q hr)⟩
  obtain ⟨a1, a2, a3⟩ := h5 q hq
  obtain ⟨r, lt, er⟩ := List.getElem_of_mem hq
  exact ⟨a1, X.fr q _ (h6 r q (by rw [List.getElem?_eq_getElem lt, er])) a2, a3⟩
theorem row_congr {f g : Nat → Nat} (h : ∀ c, c < C → f c = g c) : rowV C f = rowV C g := List.map_congr_left fun c hc => by rw [h c (List.mem_range.mp hc)]
theorem LoX.congr (l : LoX K B G0 H0 G H p R C f) (h : ∀ r c, r < R → c < C → f r c = g r c) : LoX K B G0 H0 G H p R C g := by
  obtain ⟨qs, h1, h2, h3, h4, h5, h6⟩ := l.h
  refine ⟨l.x, l.h0, l.g, l.nb, qs, h1, h2, h3, h4, h5, fun r q hr => ?_⟩
  have lt : r < R := by
    rw [← h2]
    exact (List.getElem?_eq_some_iff.mp hr).1
  rw [← row_congr fun c hc => h r c lt hc]
  exact h6 r q hr
/-! a call or a comprehension that tells such rows -/
def RetX (K : Fg) (B : Bg) (G H : Hp) (Q : VK) (R C : Nat) (f : Nat → Nat → Nat) : Prop := ∀ p G2 H2, LoX K B G H G2 H2 p R C f → Q (.ref p) H2
def EvX (K : Fg) (B : Bg) (te : TE) (σ : L2.St) (G : Hp) (R C : Nat) (f : Nat → Nat → Nat) : Prop := ∀ H, Ok K B G H → ∀ Q : VK, RetX K B G H Q R C f → te σ H Q
theorem LoX.back {G1 H1 : Hp} (X : Ext K B G0 H0 G1 H1) (l : LoX K B G1 H1 G H p R C f) : LoX K B G0 H0 G H p R C f := by
  obtain ⟨qs, h1, h2, h3, h4, h5, h6⟩ := l.h
  exact ⟨X.trans l.x, X.old l.nb l.h0, l.g, l.nb, qs, h1, h2, h3, h4, fun q hq => ⟨X.old (h5 q hq).2.2 (h5 q hq).1, (h5 q hq).2⟩, h6⟩
theorem RetX.mono {Q : VK} (X : Ext K B G H G2 H2) (h : RetX K B G H Q R C f) : RetX K B G2 H2 Q R C f := fun p G3 H3 l => h p G3 H3 (l.back X)
theorem frz_rows : ∀ (qs : List Addr) (f : Nat → Nat → Nat) (G : Hp), Ext K B G0 H0 G H → qs.Nodup → (∀ q ∈ qs, H0 q = none ∧ G q = none ∧ ¬ isB B q) → (∀ (r : Nat) q, qs[r]? = some q → H q = some (.lst (rowV C (f r)))) →
    ∃ G2, Ext K B G0 H0 G2 H ∧ Ex G G2 ∧ (∀ a, a ∉ qs → G a = none → G2 a = none) ∧ DpAll K G2 (qs.map V.ref) ((List.range qs.length).map fun r => PyData.list (rowP C (f r)))
  | [], f, G, X, _, _, _ => ⟨G, X, Ex.refl G, fun _ _ h => h, .nil⟩
  | q :: qs, f, G, X, nd, hq, hr => by
    obtain ⟨nq, nd⟩ := List.nodup_cons.mp nd
    obtain ⟨a1, a2, a3⟩ := hq q List.mem_cons_self
    have h0 := hr 0 q rfl
    have X1 : Ext K B G0 H0 (upd G q (.lst (rowV C (f 0)))) H := X.freeze a1 a2 a3 h0
    obtain ⟨G2, X2, e2, k2, d2⟩ := frz_rows qs (fun r => f (r + 1)) _ X1 nd (fun z hz => by
      obtain ⟨b1, b2, b3⟩ := hq z (List.mem_cons_of_mem _ hz)
      exact ⟨b1, by rw [upd_ne (fun e : z = q => nq (e ▸ hz))]; exact b2, b3⟩) fun r z hz => hr (r + 1) z hz
    refine ⟨G2, X2, (Ex.new a2).trans e2, fun a na ga => k2 a (fun h => na (List.mem_cons_of_mem _ h)) (by rw [upd_ne (fun e : a = q => na (by rw [e]; exact List.mem_cons_self))]; exact ga), ?_⟩
    have d0 : DpAll K G2 (rowV C (f 0)) (rowP C (f 0)) := by
      unfold rowV rowP
      have z := strs_dp (K := K) (H := G2) ((List.range C).map fun c => (⟨#[f 0 c]⟩ : Str))
      rw [List.map_map, List.map_map] at z
      exact z
    have el : (List.range (q :: qs).length).map (fun r => PyData.list (rowP C (f r))) = PyData.list (rowP C (f 0)) :: (List.range qs.length).map fun r => PyData.list (rowP C (f (r + 1))) := by
      rw [List.length_cons]
      rw [List.range_succ_eq_map]
      rw [List.map_cons]
      rw [List.map_map]
      rfl
    rw [el]
    exact .cons (.lst (SqL.of (e2 _ _ upd_same)) d0) d2
theorem LoX.frz (l : LoX K B G0 H0 G H p R C f) : ∃ G2, Ext K B G0 H0 G2 H ∧ Ex G G2 ∧ Dp K G2 (.ref p) (.list (gridP R C f)) := by
  obtain ⟨qs, h1, h2, h3, h4, h5, h6⟩ := l.h
  obtain ⟨G2, X2, e2, k2, d2⟩ := frz_rows qs f G l.x h3 h5 h6
  have gp := k2 p h4 l.g
  refine ⟨_, X2.freeze l.h0 gp l.nb h1, e2.trans (Ex.new gp), .lst (SqL.of upd_same) ?_⟩
  rw [h2] at d2
  exact dpAll_mono (Ex.new gp) d2
theorem EvX.ed (h : EvX K B te σ G R C f) : EvD K B te σ G (.list (gridP R C f)) := fun H e Q q => h H e _ fun p G2 H2 l => by
  obtain ⟨G3, X3, _, d3⟩ := l.frz
  exact q _ G3 H2 X3 d3
/-! ### for a, b in a tuple of pairs -/
end
end Lw

namespace Lw
open PySem.Spec PySem L2 PyProof.Rows
open Evl (Ex Ex.refl Ex.trans Ex.new Ex.off ex_rd ex_l ex_t)
/-! ### a number that is not in a range -/
section
variable {X : Cx}
end
section
variable {K : Fg} {B : Bg} {G H : Hp} {σ : L2.St} {ta tl th : TE}
end
end Lw

namespace Lw
open PySem.Spec PySem L2 PyProof.Rows
open Evl (Ex Ex.refl Ex.trans Ex.new Ex.off ex_rd ex_l ex_t)
/-! ### [e for a, b, c in xs if t], xs triples of numbers -/
section
variable {K : Fg} {B : Bg} {G H : Hp} {σ : L2.St} {ta te : TE} {tt : TT}
theorem take_3 {f : List Int → Option PyData} {ls : List (List Int)} {m : Nat} {k : List Int} (h : ls[m]? = some k) : (ls.take (m + 1)).filterMap f = (ls.take m).filterMap f ++ (f k).toList := by
  rw [List.take_add_one, h, List.filterMap_append]
  exact congrArg _ (by
    show List.filterMap f [k] = _
    cases e : f k <;> simp [List.filterMap, e])
theorem pick_3 {G : Hp} {ls : List (List Int)} {xs : List V} {m : Nat} {x : V} (tri : ∀ k ∈ ls, ∃ x y z : Int, k = [x, y, z]) (hx : DpAll K G xs (ls.map encT)) (hj : xs[m]? = some x) : ∃ a b c p, ls[m]? = some [a, b, c] ∧ x = .ref p ∧ SqT K G p [.int a, .int b, .int c] := by
  obtain ⟨d, hd, dx⟩ := dpAll_at hx hj
  rw [List.getElem?_map] at hd
  obtain ⟨k, ek, rfl⟩ := Option.map_eq_some_iff.mp hd
  obtain ⟨a, b, c, rfl⟩ := tri k (List.mem_of_getElem? ek)
  obtain ⟨p, zs, rfl, hz, hzz⟩ := dp_tup dx
  obtain rfl := dpAll_intsV (bs := [a, b, c]) hzz
  exact ⟨a, b, c, p, ek, rfl, hz⟩
theorem ef_lc3T {i j l : Nat} {ls : List (List Int)} {f : List Int → Option PyData} (ha : EvD K B ta σ G (.tuple (ls.map encT))) (hn : ls.length ≤ 100000) (tri : ∀ k ∈ ls, ∃ x y z : Int, k = [x, y, z])
    (ht : ∀ x y z G', [x, y, z] ∈ ls → Ex G G' → Cel K B G' → EvB K B tt ((((wipe σ [i, j, l]).set i (some (.int x))).set j (some (.int y))).set l (some (.int z))) G' (f [x, y, z]).isSome)
    (he : ∀ x y z o G', [x, y, z] ∈ ls → Ex G G' → Cel K B G' → f [x, y, z] = some o → EvD K B te ((((wipe σ [i, j, l]).set i (some (.int x))).set j (some (.int y))).set l (some (.int z))) G' o)
    (hw : ∀ u v w, wipe ((((wipe σ [i, j, l]).set i (some u)).set j (some v)).set l (some w)) [i, j, l] = wipe σ [i, j, l]) :
    EvF K B (tLc (iTup K ta) (gTup K 3 (gCons (gName i) (gCons (gName j) (gCons (gName l) gNil)))) tt te [i, j, l]) σ G (ls.filterMap f) := fun H e Q q =>
  ha H e _ fun v G1 H1 X dv => by
    obtain ⟨a, xs, rfl, hs, hx⟩ := dp_tup dv
    refine ⟨a, rfl, ⟨xs, ex_t X.ok.e hs⟩, fun D hD => ?_⟩
    have nb := X.ok.b.ne hD
    show ∃ W, _
    refine lc_tup (K := K) (a := a) (xs := xs) (Qd := fun H => Q (.ref D) H) (fun j H' => ∃ G' ys, Ext K B G1 H1 G' H' ∧ G' D = none ∧ H' D = some (.lst ys) ∧ DpAll K G' ys ((ls.take j).filterMap f))
      ⟨G1, [], Ext.loose X.ok hD, X.ok.e.off hD, upd_same, .nil⟩ ?_ ?_ ?_
    · rintro j H' _ ⟨G', ys, X', _⟩
      exact ex_t (X'.gg.trans X'.ok.e) hs
    · rintro m x H' hj ⟨G', ys, X', g', h', a'⟩
      obtain ⟨c1, c2, c3, p, ek, rfl, hz⟩ := pick_3 tri hx hj
      have mk := List.mem_of_getElem? ek
      have jl : m < ls.length := (List.getElem?_eq_some_iff.mp ek).1
      refine ⟨p, [.int c1, .int c2, .int c3], rfl, ex_t (X'.gg.trans X'.ok.e) hz, rfl, _, _, rfl, _, _, rfl, _, _, rfl, rfl, hw _ _ _, ?_⟩
      have hlen : ((ls.take m).filterMap f).length < 100000 := by
        have z := List.length_filterMap_le f (ls.take m)
        rw [List.length_take] at z
        omega
      have c' := (e.c.mono X.gg).mono X'.gg
      refine lc_turn (o := f [c1, c2, c3]) hD nb X' g' h' a' hlen (ht c1 c2 c3 G' mk (X.gg.trans X'.gg) c') (fun o eo => he c1 c2 c3 o G' mk (X.gg.trans X'.gg) c' eo) fun G4 H4 ys X4 g4 h4 a4 => ⟨G4, ys, X4, g4, h4, ?_⟩
      rw [take_3 ek]
      exact a4
    · rintro H' ⟨G', ys, X', g', h', a'⟩
      have z : xs.length = ls.length := (dpAll_len hx).trans (List.length_map _)
      rw [z, List.take_length] at a'
      exact q D ys G' H' (X.trans X') (X.old nb hD) g' nb h' a'
theorem ef_lc3L {i j l : Nat} {ls : List (List Int)} {f : List Int → Option PyData} (ha : EvD K B ta σ G (.list (ls.map encT))) (hn : ls.length ≤ 100000) (tri : ∀ k ∈ ls, ∃ x y z : Int, k = [x, y, z])
    (ht : ∀ x y z G', [x, y, z] ∈ ls → Ex G G' → Cel K B G' → EvB K B tt ((((wipe σ [i, j, l]).set i (some (.int x))).set j (some (.int y))).set l (some (.int z))) G' (f [x, y, z]).isSome)
    (he : ∀ x y z o G', [x, y, z] ∈ ls → Ex G G' → Cel K B G' → f [x, y, z] = some o → EvD K B te ((((wipe σ [i, j, l]).set i (some (.int x))).set j (some (.int y))).set l (some (.int z))) G' o)
    (hw : ∀ u v w, wipe ((((wipe σ [i, j, l]).set i (some u)).set j (some v)).set l (some w)) [i, j, l] = wipe σ [i, j, l]) :
    EvF K B (tLc (iList K ta) (gTup K 3 (gCons (gName i) (gCons (gName j) (gCons (gName l) gNil)))) tt te [i, j, l]) σ G (ls.filterMap f) := fun H e Q q =>
  ha H e _ fun v G1 H1 X dv => by
    obtain ⟨a, xs, rfl, hs, hx⟩ := dp_lst dv
    refine ⟨a, rfl, ⟨xs, ex_l X.ok.e hs⟩, fun D hD => ?_⟩
    have nb := X.ok.b.ne hD
    show ∃ W, _
    refine lc_list (K := K) (a := a) (xs := xs) (Qd := fun H => Q (.ref D) H) (fun j H' => ∃ G' ys, Ext K B G1 H1 G' H' ∧ G' D = none ∧ H' D = some (.lst ys) ∧ DpAll K G' ys ((ls.take j).filterMap f))
      ⟨G1, [], Ext.loose X.ok hD, X.ok.e.off hD, upd_same, .nil⟩ ?_ ?_ ?_
    · rintro j H' _ ⟨G', ys, X', _⟩
      exact ex_l (X'.gg.trans X'.ok.e) hs
    · rintro m x H' hj ⟨G', ys, X', g', h', a'⟩
      obtain ⟨c1, c2, c3, p, ek, rfl, hz⟩ := pick_3 tri hx hj
      have mk := List.mem_of_getElem? ek
      have jl : m < ls.length := (List.getElem?_eq_some_iff.mp ek).1
      refine ⟨p, [.int c1, .int c2, .int c3], rfl, ex_t (X'.gg.trans X'.ok.e) hz, rfl, _, _, rfl, _, _, rfl, _, _, rfl, rfl, hw _ _ _, ?_⟩
      have hlen : ((ls.take m).filterMap f).length < 100000 := by
        have z := List.length_filterMap_le f (ls.take m)
        rw [List.length_take] at z
        omega
      have c' := (e.c.mono X.gg).mono X'.gg
      refine lc_turn (o := f [c1, c2, c3]) hD nb X' g' h' a' hlen (ht c1 c2 c3 G' mk (X.gg.trans X'.gg) c') (fun o eo => he c1 c2 c3 o G' mk (X.gg.trans X'.gg) c' eo) fun G4 H4 ys X4 g4 h4 a4 => ⟨G4, ys, X4, g4, h4, ?_⟩
      rw [take_3 ek]
      exact a4
    · rintro H' ⟨G', ys, X', g', h', a'⟩
      have z : xs.length = ls.length := (dpAll_len hx).trans (List.length_map _)
      rw [z, List.take_length] at a'
      exact q D ys G' H' (X.trans X') (X.old nb hD) g' nb h' a'
end
end Lw

namespace Lw
open PySem.Spec PySem L2 PyProof.Rows
open Evl (Ex Ex.refl Ex.trans Ex.new Ex.off ex_rd ex_l ex_t)
/-! ### where a text stands in another one -/
section
variable {K : Fg} {B : Bg} {σ : L2.St} {G : Hp} {te ta : TE} {a b : Str}
end
end Lw

namespace Lw
open PySem.Spec PySem L2 PyProof.Rows
open Evl (Ex Ex.refl Ex.trans Ex.new Ex.off ex_rd ex_l ex_t)
/-! ### isinstance(e, (A, B)), e a caught error with a dict of its own at dd -/
section
variable {K : Fg} {B : Bg} {G G' H : Hp} {σ : L2.St} {te : TE} {t : TS} {D : Ends}
/-! ### a dict of three things by their names, frozen -/
def DpWo (K : Fg) (G : Hp) (n1 n2 n3 : Str) (v : V) (d1 d2 : PyData) (ds : List PyData) : Prop := ∃ (p r : Addr) (v1 v2 : V) (xs : List V), v = .ref p ∧ G p = some (.dK [(Sum.inr n1, v1), (Sum.inr n2, v2), (Sum.inr n3, .ref r)]) ∧ Dp K G v1 d1 ∧ Dp K G v2 d2 ∧ G r = some (.lst xs) ∧ DpAll K G xs ds
def RetWo (K : Fg) (B : Bg) (G H : Hp) (Q : VK) (n1 n2 n3 : Str) (d1 d2 : PyData) (ds : List PyData) : Prop := ∀ v G2 H2, Ext K B G H G2 H2 → DpWo K G2 n1 n2 n3 v d1 d2 ds → Q v H2
variable {n1 n2 n3 : Str} {d1 d2 d : PyData} {ds es : List PyData} {t1 t2 t3 tb : TE} {tr : TA} {u : TS} {i : Nat} {v : V}
theorem RetWo.mono {G1 H1 : Hp} {Q : VK} (X : Ext K B G H G1 H1) (h : RetWo K B G H Q n1 n2 n3 d1 d2 ds) : RetWo K B G1 H1 Q n1 n2 n3 d1 d2 ds := fun v G2 H2 X2 w => h v G2 H2 (X.trans X2) w
end
end Lw

namespace Lw
open PySem.Spec PySem L2 PyProof.Rows
open Evl (Ex Ex.refl Ex.trans Ex.new Ex.off ex_rd ex_l ex_t)
/-! ### own errors over LookupError with a field, of which it is known that they have no context -/
/-! ### lists that are told as they stand -/
def EvL (K : Fg) (B : Bg) (te : TE) (σ : L2.St) (G : Hp) (ds : List PyData) : Prop := ∀ H, Ok K B G H → ∀ Q : VK, (∀ r xs G2 H2, Ext K B G H G2 H2 → G2 r = some (.lst xs) → DpAll K G2 xs ds → Q (.ref r) H2) → te σ H Q
section
variable {K : Fg} {B : Bg} {G G' H : Hp} {σ : L2.St} {te ta tb t1 t2 t3 : TE} {tr : TA} {D : Ends} {ds es : List PyData} {d1 d2 : PyData} {u : TS}
theorem EvL.ed (h : EvL K B te σ G ds) : EvD K B te σ G (.list ds) := fun H e Q q => h H e Q fun r xs G2 H2 X hr a => q _ G2 H2 X (.lst (SqL.of hr) a)
theorem EvL.mono (e : Ex G G') (c : Cel K B G) (h : EvL K B te σ G ds) : EvL K B te σ G' ds := fun H eH Q q =>
  h H (eH.less e c) Q fun p xs G2 H2 X hp a => by
    obtain ⟨X2, e2⟩ := X.wide e eH
    exact q p xs _ H2 X2 (e2 _ _ hp) (dpAll_mono e2 a)
/-- three things in a tuple, the last one a list that is told as it stands -/
def Dp3 (K : Fg) (G : Hp) (v : V) (d1 d2 : PyData) (ds : List PyData) : Prop := ∃ (p r : Addr) (v1 v2 : V) (xs : List V), v = .ref p ∧ G p = some (.tup [v1, v2, .ref r]) ∧ Dp K G v1 d1 ∧ Dp K G v2 d2 ∧ G r = some (.lst xs) ∧ DpAll K G xs ds
theorem dp3_d {v : V} (h : Dp3 K G v d1 d2 ds) : Dp K G v (.tuple [d1, d2, .list ds]) := by
  obtain ⟨p, r, v1, v2, xs, rfl, hp, a1, a2, hr, ax⟩ := h
  exact .tup (SqT.of hp) (.cons a1 (.cons a2 (.cons (.lst (SqL.of hr) ax) .nil)))
def Ret3 (K : Fg) (B : Bg) (G H : Hp) (Q : VK) (d1 d2 : PyData) (ds : List PyData) : Prop := ∀ v G2 H2, Ext K B G H G2 H2 → Dp3 K G2 v d1 d2 ds → Q v H2
theorem Ret3.mono {G1 H1 : Hp} {Q : VK} (X : Ext K B G H G1 H1) (h : Ret3 K B G H Q d1 d2 ds) : Ret3 K B G1 H1 Q d1 d2 ds := fun v G2 H2 X2 w => h v G2 H2 (X.trans X2) w
theorem Ret3.of {Q : VK} (h : Ret K B G H Q (.tuple [d1, d2, .list ds])) : Ret3 K B G H Q d1 d2 ds := fun v G2 H2 X w => h v G2 H2 X (dp3_d w)
end
end Lw

namespace Lw
open PySem.Spec PySem L2 PyProof.Rows
open Evl (Ex Ex.refl Ex.trans Ex.new Ex.off ex_rd ex_l ex_t)
/-! ### tests of which one knows but so much -/
def EvTB (K : Fg) (B : Bg) (tt : TT) (σ : L2.St) (G : Hp) (P : Bool → Prop) : Prop := ∀ H, Ok K B G H → ∀ Q : Bool → Hp → Prop, (∀ b G2 H2, P b → Ext K B G H G2 H2 → Q b H2) → tt σ H Q
section
variable {K : Fg} {B : Bg} {G G' H : Hp} {σ : L2.St} {te : TE} {tt tu : TT} {t : TS} {D : Ends} {P R : Bool → Prop} {b : Bool}
theorem EvTB.mono (e : Ex G G') (c : Cel K B G) (h : EvTB K B tt σ G P) : EvTB K B tt σ G' P := fun H eH Q q =>
  h H (eH.less e c) Q fun b G2 H2 p X => q b _ H2 p (X.wide e eH).1
end
end Lw

namespace Lw
open PySem.Spec PySem L2 PyProof.Rows
open Evl (Ex Ex.refl Ex.trans Ex.new Ex.off ex_rd ex_l ex_t)
/-! ### tuples of which one knows that they have no dict -/
def Bare (o : Obj) : Prop := o.cls = .type "tuple" ∧ o.dict = none
/-- a tuple whose object is known to have no dict -/
def Kn (G : Hp) (v : V) : Prop := ∃ p o u, v = .ref p ∧ G p = some (.frz o u) ∧ Bare o
/-- the last of these is such a tuple -/
def Lkn (G : Hp) (xs : List V) : Prop := ∃ g, xs.getLast? = some g ∧ Kn G g
/-- a tuple whose last item is such a tuple -/
def Gk (K : Fg) (G : Hp) (v : V) (d : PyData) : Prop := ∃ p xs ds, v = .ref p ∧ d = .tuple ds ∧ SqT K G p xs ∧ DpAll K G xs ds ∧ Lkn G xs
theorem Kn.mono {G G' : Hp} {v : V} (e : Ex G G') (h : Kn G v) : Kn G' v := by
  obtain ⟨p, o, u, rfl, g, b⟩ := h
  exact ⟨p, o, u, rfl, e _ _ g, b⟩
theorem Lkn.mono {G G' : Hp} {xs : List V} (e : Ex G G') (h : Lkn G xs) : Lkn G' xs := by
  obtain ⟨g, h1, h2⟩ := h
  exact ⟨g, h1, h2.mono e⟩
theorem Gk.mono {K : Fg} {G G' : Hp} {v : V} {d : PyData} (e : Ex G G') (h : Gk K G v d) : Gk K G' v d := by
  obtain ⟨p, xs, ds, rfl, rfl, s, x, l⟩ := h
  exact ⟨p, xs, ds, rfl, rfl, ex_t e s, dpAll_mono e x, l.mono e⟩
/-- what evaluates to one of these data, and its value keeps P -/
def EvSW (K : Fg) (B : Bg) (te : TE) (σ : L2.St) (G : Hp) (S : PyData → Prop) (P : Hp → V → PyData → Prop) : Prop := ∀ H, Ok K B G H → ∀ Q : VK, (∀ d v G2 H2, S d → Ext K B G H G2 H2 → Dp K G2 v d → P G2 v d → Q v H2) → te σ H Q
abbrev EvW (K : Fg) (B : Bg) (te : TE) (σ : L2.St) (G : Hp) (d : PyData) (P : Hp → V → PyData → Prop) : Prop := EvSW K B te σ G (fun x => x = d) P
def RetSW (K : Fg) (B : Bg) (G H : Hp) (Q : VK) (S : PyData → Prop) (P : Hp → V → PyData → Prop) : Prop := ∀ d v G2 H2, S d → Ext K B G H G2 H2 → Dp K G2 v d → P G2 v d → Q v H2
def MonoP (P : Hp → V → PyData → Prop) : Prop := ∀ (G G' : Hp) (v : V) (d : PyData), Ex G G' → P G v d → P G' v d
/-- arguments, the last a known tuple -/
def EvAK (K : Fg) (B : Bg) (ta : TA) (σ : L2.St) (G : Hp) (S : List PyData → Prop) : Prop := ∀ H, Ok K B G H → ∀ Q : List V → Hp → Prop, (∀ ds vs G2 H2, S ds → Ext K B G H G2 H2 → DpAll K G2 vs ds → Lkn G2 vs → Q vs H2) → ta σ H Q
section
variable {K : Fg} {B : Bg} {G G' H : Hp} {σ : L2.St} {te ta tb : TE} {tr : TA} {u : TS} {D : Ends} {d : PyData} {ds fs : List PyData} {S : PyData → Prop} {P : Hp → V → PyData → Prop}
theorem EvSW.mono (mp : MonoP P) (e : Ex G G') (c : Cel K B G) (h : EvSW K B te σ G S P) : EvSW K B te σ G' S P := fun H eH Q q =>
  h H (eH.less e c) Q fun d v G2 H2 s X dv p => q d v _ H2 s (X.wide e eH).1 (dp_mono (X.wide e eH).2 dv) (mp _ _ _ _ (X.wide e eH).2 p)
theorem EvSW.es (h : EvSW K B te σ G S P) : EvS K B te σ G S := fun H e Q q => h H e Q fun d v G2 H2 s X dv _ => q d v G2 H2 s X dv
theorem EvSW.ed (h : EvW K B te σ G d P) : EvD K B te σ G d := fun H e Q q => h H e Q fun d' v G2 H2 s X dv _ => by
  subst s
  exact q v G2 H2 X dv
theorem RetSW.mono {G0 H0 : Hp} {Q : VK} (X : Ext K B G H G0 H0) (h : RetSW K B G H Q S P) : RetSW K B G0 H0 Q S P := fun d v G2 H2 s Y dv p => h d v G2 H2 s (X.trans Y) dv p
theorem EvAK.mono {R : List PyData → Prop} (e : Ex G G') (c : Cel K B G) (h : EvAK K B tr σ G R) : EvAK K B tr σ G' R := fun H eH Q q =>
  h H (eH.less e c) Q fun ds vs G2 H2 s X dv k => q ds vs _ H2 s (X.wide e eH).1 (dpAll_mono (X.wide e eH).2 dv) (k.mono (X.wide e eH).2)
/-! ### t.count(x) of a known tuple -/
theorem EvSW.to {S' : PyData → Prop} (h : EvSW K B te σ G S P) (f : ∀ d, S d → S' d) : EvSW K B te σ G S' P := fun H e Q q => h H e Q fun d v G2 H2 s X dv p => q d v G2 H2 (f d s) X dv p
/-! ### a dict of three things by their names, the first a plan whose glass is known -/
def DpWk (K : Fg) (G : Hp) (n1 n2 n3 : Str) (v : V) (d1 d2 : PyData) (rows : List PyData) : Prop := ∃ (p r : Addr) (v1 v2 : V) (xs : List V), v = .ref p ∧ G p = some (.dK [(Sum.inr n1, v1), (Sum.inr n2, v2), (Sum.inr n3, .ref r)]) ∧ Dp K G v1 d1 ∧ Dp K G v2 d2 ∧ G r = some (.lst xs) ∧ DpAll K G xs rows ∧ Gk K G v1 d1
def RetWk (K : Fg) (B : Bg) (G H : Hp) (Q : VK) (n1 n2 n3 : Str) (d1 d2 : PyData) (rows : List PyData) : Prop := ∀ v G2 H2, Ext K B G H G2 H2 → DpWk K G2 n1 n2 n3 v d1 d2 rows → Q v H2
theorem RetWk.mono {n1 n2 n3 : Str} {d1 d2 : PyData} {rows : List PyData} {G1 H1 : Hp} {Q : VK} (X : Ext K B G H G1 H1) (h : RetWk K B G H Q n1 n2 n3 d1 d2 rows) : RetWk K B G1 H1 Q n1 n2 n3 d1 d2 rows := fun v G2 H2 X2 w => h v G2 H2 (X.trans X2) w
theorem Rai.mono {G0 H0 : Hp} {E : XK} {C : Addr} (X : Ext K B G H G0 H0) (h : Rai K B G H E C) : Rai K B G0 H0 E C := fun G2 H2 Y => h G2 H2 (X.trans Y)
end
end Lw

namespace Lw
open PySem.Spec PySem L2 PyProof.Rows
open Evl (Ex Ex.refl Ex.trans Ex.new Ex.off ex_rd ex_l ex_t)
/-! ### own errors without a field, over LookupError or IndexError -/
end Lw

namespace Lw
open PySem.Spec PySem L2 PyProof.Rows
open Evl (Ex Ex.refl Ex.trans Ex.new Ex.off ex_rd ex_l ex_t)
/-! ### methods of own classes by their promises -/
structure GoodM (P : Program) (w : World) (K : Fg) (mg : Str → Option Value) (base : Heap) (CX : CXT) (k : Nat) (C : Addr) (m : Str) (ps : List Str) (dvs : List V) (sp : Sp) : Prop where
  ex : ∃ fd ds, FnOk P w K mg base CX k (He.ma K C m) fd ps sp ∧ Vals dvs ds ∧ Binds K fd ps ds
  me : Meth K C m (He.ma K C m)
structure GoodMk (P : Program) (w : World) (K : Fg) (mg : Str → Option Value) (base : Heap) (CX : CXT) (k : Nat) (C : Addr) (ps : List Str) (dvs : List V) (sp : Sp) : Prop where
  ex : ∃ fd ds, FnOk P w K mg base CX k (He.ma K C "__init__") fd ps sp ∧ Vals dvs ds ∧ Binds K fd ps ds
  made : Mk K C (He.ma K C "__init__")
section
variable {X : Cx} {CX : CXT} {k : Nat} {C : Addr} {m x : Str} {ps : List Str} {dvs : List V} {sp : Sp} {E : XK} {o e : Expr} {es : List Expr} {ta te : TE} {t : TA} {p pos apos : Pos}
end
/-! ### windows: what stands, and what can be taken back or done again -/
/-- a plan, and what was lost so far -/
structure Wst where
  pl : PyData
  lo : PyData
structure WS where
  st : Wst
  past : List (PyData × Wst)
  und : List (PyData × Wst)
def StK (K : Fg) (G : Hp) (v : V) (s : Wst) : Prop := ∃ q v1 v2, v = .ref q ∧ SqT K G q [v1, v2] ∧ Dp K G v1 s.pl ∧ Gk K G v1 s.pl ∧ Dp K G v2 s.lo
def PaK (K : Fg) (G : Hp) (v : V) (x : PyData × Wst) : Prop := ∃ q v1 v2, v = .ref q ∧ SqT K G q [v1, v2] ∧ Dp K G v1 x.1 ∧ StK K G v2 x.2
def winO (K : Fg) (dx : Addr) (vs : V) (a b : Addr) : HO := .ins (He.ga K "Window") dx [("standing", vs), ("past", .ref a), ("undone", .ref b)]
/-- a window at p, its two lists at a and b -/
structure Wn (K : Fg) (B : Bg) (G H : Hp) (p a b : Addr) (W : WS) : Prop where
  o : ∃ dx vs, H p = some (winO K dx vs a b) ∧ StK K G vs W.st
  pa : ∃ xs, H a = some (.lst xs) ∧ Paired (PaK K G) xs W.past
  un : ∃ xs, H b = some (.lst xs) ∧ Paired (PaK K G) xs W.und
  gp : G p = none
  ga : G a = none
  gb : G b = none
  np : ¬ isB B p
  na : ¬ isB B a
  nb : ¬ isB B b
  ab : a ≠ b
def own (p a b : Addr) (q : Addr) : Prop := q = p ∨ q = a ∨ q = b
/-- what stays but for the objects of S -/
structure Mut (K : Fg) (B : Bg) (S : Addr → Prop) (G H G2 H2 : Hp) : Prop where
  gg : Ex G G2
  hh : ∀ a o, ¬ isB B a → ¬ S a → H a = some o → H2 a = some o
  fr : ∀ a o, H a = some o → G a = none → G2 a = none
  st : ∀ a o, H a = some o → ∃ o2, H2 a = some o2
  ok : Ok K B G2 H2
section
variable {K : Fg} {B : Bg} {G G0 G1 G2 H H0 H1 H2 : Hp} {p a b q : Addr} {W : WS} {v : V} {s : Wst} {x : PyData × Wst} {S T : Addr → Prop}
theorem StK.mono (e : Ex G G2) (h : StK K G v s) : StK K G2 v s := by
  obtain ⟨q, v1, v2, rfl, h1, h2, h3, h4⟩ := h
  exact ⟨q, v1, v2, rfl, ex_t e h1, dp_mono e h2, h3.mono e, dp_mono e h4⟩
theorem PaK.mono (e : Ex G G2) (h : PaK K G v x) : PaK K G2 v x := by
  obtain ⟨q, v1, v2, rfl, h1, h2, h3⟩ := h
  exact ⟨q, v1, v2, rfl, ex_t e h1, dp_mono e h2, h3.mono e⟩
theorem PaK.all (e : Ex G G2) : ∀ {xs : List V} {ys : List (PyData × Wst)}, Paired (PaK K G) xs ys → Paired (PaK K G2) xs ys
  | _, _, .nil => .nil
  | _, _, .cons h r => .cons (h.mono e) (PaK.all e r)
theorem Bag.some (h : Bag B G H) (c : isB B q) : ∃ o, H q = some o := by
  obtain ⟨y, z⟩ := c
  obtain ⟨_, i, r, m, e, _⟩ := h q y z
  exact ⟨_, e⟩
theorem Mut.of (X : Lw.Ext K B G H G2 H2) : Mut K B S G H G2 H2 := ⟨X.gg, fun a o n _ h => X.hh a o n h, X.fr, fun a o h => by
  by_cases c : isB B a
  · exact X.ok.b.some c
  · exact ⟨o, X.hh a o c h⟩, X.ok⟩
/-- one change behind another: what the later one touches is the earlier one's, or new -/
theorem Mut.trans (m1 : Mut K B S G H G1 H1) (m2 : Mut K B T G1 H1 G2 H2) (sub : ∀ q, T q → S q ∨ H q = none) : Mut K B S G H G2 H2 :=
  ⟨m1.gg.trans m2.gg, fun a o n c h => m2.hh a o n (fun t => (sub a t).elim c fun z => by rw [z] at h; cases h) (m1.hh a o n c h), fun a o h g => by
    obtain ⟨o2, h2⟩ := m1.st a o h
    exact m2.fr a o2 h2 (m1.fr a o h g), fun a o h => by
    obtain ⟨o2, h2⟩ := m1.st a o h
    exact m2.st a o2 h2, m2.ok⟩
theorem Mut.ext (X : Lw.Ext K B G0 H0 G H) (m : Mut K B S G H G2 H2) (n : ∀ q, S q → H0 q = none) : Lw.Ext K B G0 H0 G2 H2 :=
  ⟨X.gg.trans m.gg, fun a o c h => m.hh a o c (fun t => by rw [n a t] at h; cases h) (X.hh a o c h), fun a o h g => by
    have g1 := X.fr a o h g
    by_cases c : isB B a
    · obtain ⟨o2, h2⟩ := X.ok.b.some c
      exact m.fr a o2 h2 g1
    · exact m.fr a o (X.hh a o c h) g1, m.ok⟩
theorem Mut.wide (m : Mut K B S G H G2 H2) (sub : ∀ q, S q → T q) : Mut K B T G H G2 H2 := ⟨m.gg, fun a o n c h => m.hh a o n (fun t => c (sub a t)) h, m.fr, m.st, m.ok⟩
theorem Wn.step (w : Wn K B G H p a b W) (X : Lw.Ext K B G H G2 H2) : Wn K B G2 H2 p a b W := by
  obtain ⟨dx, vs, h1, h2⟩ := w.o
  obtain ⟨xs, h3, h4⟩ := w.pa
  obtain ⟨ys, h5, h6⟩ := w.un
  exact ⟨⟨dx, vs, X.hh p _ w.np h1, h2.mono X.gg⟩, ⟨xs, X.hh a _ w.na h3, PaK.all X.gg h4⟩, ⟨ys, X.hh b _ w.nb h5, PaK.all X.gg h6⟩, X.fr p _ h1 w.gp, X.fr a _ h3 w.ga, X.fr b _ h5 w.gb, w.np, w.na, w.nb, w.ab⟩
/-- a window that a change does not touch -/
theorem Wn.apart (w : Wn K B G H p a b W) (m : Mut K B S G H G2 H2) (np : ¬ S p) (na : ¬ S a) (nb : ¬ S b) : Wn K B G2 H2 p a b W := by
  obtain ⟨dx, vs, h1, h2⟩ := w.o
  obtain ⟨xs, h3, h4⟩ := w.pa
  obtain ⟨ys, h5, h6⟩ := w.un
  exact ⟨⟨dx, vs, m.hh p _ w.np np h1, h2.mono m.gg⟩, ⟨xs, m.hh a _ w.na na h3, PaK.all m.gg h4⟩, ⟨ys, m.hh b _ w.nb nb h5, PaK.all m.gg h6⟩, m.fr p _ h1 w.gp, m.fr a _ h3 w.ga, m.fr b _ h5 w.gb, w.np, w.na, w.nb, w.ab⟩
theorem Wn.has (w : Wn K B G H p a b W) (c : own p a b q) : ∃ o, H q = some o := by
  obtain ⟨dx, vs, h1, _⟩ := w.o
  obtain ⟨xs, h3, _⟩ := w.pa
  obtain ⟨ys, h5, _⟩ := w.un
  rcases c with rfl | rfl | rfl
  · exact ⟨_, h1⟩
  · exact ⟨_, h3⟩
  · exact ⟨_, h5⟩
/-- a change of an object outside of G -/
theorem Mut.upd {o : HO} (e : Ok K B G H) (hq : S q) (hg : G q = none) (hb : ¬ isB B q) : Mut K B S G H G (upd H q o) :=
  ⟨Ex.refl G, fun a u _ c h => by
    rw [upd_ne (fun z => c (by rw [z]; exact hq))]
    exact h, fun _ _ _ g => g, fun a u h => by
    by_cases c : a = q
    · subst c
      exact ⟨o, upd_same⟩
    · exact ⟨u, by rw [upd_ne c]; exact h⟩, e.mut hg hb⟩
end
end Lw

namespace Lw
open PySem.Spec PySem PySem.W PySem.Calls L2 PyProof.Rows
/-! ### the head, looked at off all that the heap holds: no walk from address to address -/
def frR (g : Addr → Option Obj) (n : Nat) : PySem.W.Frag := He.frT g (List.range n)
def obsR (fa : List He.Fa) (fn : List He.DefD) (ts : List He.Tab) (ex : PySem.W.Frag → Bool) (g : Addr → Option Obj) (n : Nat) : He.AlX := (He.obsT fa fn ts (frR g n), ex (frR g n))
def hookR (fa : List He.Fa) (fn : List He.DefD) (ts : List He.Tab) (ex : PySem.W.Frag → Bool) : PySem.W.Hook where
  α := He.AlX
  obs := fun s => obsR fa fn ts ex s.heap.get? s.heap.objs.size
  val := fun w => He.valX fn ts w
  says := fun w h => ∃ K : PySem.W.Frag, K.In h ∧ He.SaysX fa fn ts [] ex w h K
  of := fun w s e => ⟨frR s.heap.get? s.heap.objs.size, He.frT_in, congrArg (fun z : He.AlX => z.1) e, congrArg (fun z : He.AlX => z.2) e, fun _ h => (nomatch h), fun _ h => (nomatch h), fun _ h => (nomatch h)⟩
  keeps := fun _ _ _ ⟨K, hK, c⟩ k => ⟨K, hK.keeps k, c.t, c.more, c.hd, c.out, fun p hp => k _ _ (c.empty p hp)⟩
theorem obsR_eq {fa : List He.Fa} {fn : List He.DefD} {ts : List He.Tab} {ex : PySem.W.Frag → Bool} (s : PySem.W.SharedT) : obsR fa fn ts ex (HandSHeadRun.getT s) s.n = (hookR fa fn ts ex).obs s.abs := by
  have e1 : HandSHeadRun.getT s = s.abs.heap.get? := funext fun a => HandSHeadRun.getT_eq s a
  have e2 : s.n = s.abs.heap.objs.size := (PySem.W.absHeap_size s.tree s.n s.life).symm
  show _ = obsR fa fn ts ex s.abs.heap.get? s.abs.heap.objs.size
  rw [e1, ← e2]
/-- the top's run, part by part: each part is asked in a run of its own -/
theorem runR {r : PySem.W.OpenRow} {q : Program} {M : Nat} {loose : List PySem.Str} {fa : List He.Fa} {fn fn1 fn2 : List He.DefD} {ts : List He.Tab} {ex : PySem.W.Frag → Bool} (hfn : fn = fn1 ++ fn2) (w : World)
    (h1 : ∀ os : OsState, (HandSHeadRun.endF (HandSHeadRun.stepQ (HandSHeadRun.denQ HandSHeadRun.tabQ) r.prog w) M r.prog w os).map (fun s => (HandSHeadRun.looksF r.prog (boot_heap w.params) s.abs, HandSHeadRun.seenQ q loose (importedModules r.prog.main.body) (fun s => PySem.W.xlAt q [] s && PySem.W.recOk r.toRowW.records s) s.abs)) = some (true, PySem.W.openGood q loose))
    (h2 : ∀ os : OsState, (HandSHeadRun.endF (HandSHeadRun.stepQ (HandSHeadRun.denQ HandSHeadRun.tabQ) r.prog w) M r.prog w os).map (fun s => (fa.all fun f => f.ok (frR (HandSHeadRun.getT s) s.n))) = some true)
    (h3 : ∀ os : OsState, (HandSHeadRun.endF (HandSHeadRun.stepQ (HandSHeadRun.denQ HandSHeadRun.tabQ) r.prog w) M r.prog w os).map (fun s => (ex (frR (HandSHeadRun.getT s) s.n), ts.map fun t => He.dicW (frR (HandSHeadRun.getT s) s.n) (t.1 (frR (HandSHeadRun.getT s) s.n)))) = some (true, ts.map fun t => some (He.keysIn w.params t.2)))
    (h4 : ∀ os : OsState, (HandSHeadRun.endF (HandSHeadRun.stepQ (HandSHeadRun.denQ HandSHeadRun.tabQ) r.prog w) M r.prog w os).map (fun s => fn1.all fun d => d.ok (frR (HandSHeadRun.getT s) s.n)) = some true)
    (h5 : ∀ os : OsState, (HandSHeadRun.endF (HandSHeadRun.stepQ (HandSHeadRun.denQ HandSHeadRun.tabQ) r.prog w) M r.prog w os).map (fun s => fn2.all fun d => d.ok (frR (HandSHeadRun.getT s) s.n)) = some true)
    (h6 : ∀ os : OsState, (HandSHeadRun.endF (HandSHeadRun.stepQ (HandSHeadRun.denQ HandSHeadRun.tabQ) r.prog w) M r.prog w os).map (fun s => fn.map fun d => He.fnW (frR (HandSHeadRun.getT s) s.n) d.at_) = some (fn.map He.DefD.val)) :
    HandSHeadRun.RunEq r q (hookR fa fn ts ex) (fun s => obsR fa fn ts ex (HandSHeadRun.getT s) s.n) M loose w := fun os => by
  have z1 := h1 os
  have z2 := h2 os
  have z3 := h3 os
  have z4 := h4 os
  have z5 := h5 os
  have z6 := h6 os
  cases e : HandSHeadRun.endF (HandSHeadRun.stepQ (HandSHeadRun.denQ HandSHeadRun.tabQ) r.prog w) M r.prog w os with
  | none =>
    rw [e] at z1
    cases z1
  | some s =>
    rw [e] at z1 z2 z3 z4 z5 z6
    have y1 := Option.some.inj z1
    have y2 : (fa.all fun f => f.ok (frR (HandSHeadRun.getT s) s.n)) = true := Option.some.inj z2
    have y3 := Option.some.inj z3
    have y4 : (fn1.all fun d => d.ok (frR (HandSHeadRun.getT s) s.n)) = true := Option.some.inj z4
    have y5 : (fn2.all fun d => d.ok (frR (HandSHeadRun.getT s) s.n)) = true := Option.some.inj z5
    have y6 : (fn.map fun d => He.fnW (frR (HandSHeadRun.getT s) s.n) d.at_) = fn.map He.DefD.val := Option.some.inj z6
    have y7 : (fn.all fun d => d.ok (frR (HandSHeadRun.getT s) s.n)) = true := by rw [hfn, List.all_append, y4, y5]; rfl
    have y8 : ex (frR (HandSHeadRun.getT s) s.n) = true := congrArg Prod.fst y3
    have y9 := congrArg Prod.snd y3
    have o : obsR fa fn ts ex (HandSHeadRun.getT s) s.n = He.valX fn ts w := by
      refine Prod.ext (Prod.ext (Prod.ext ?_ y6) y9) y8
      show ((fa.all fun f => f.ok (frR (HandSHeadRun.getT s) s.n)) && fn.all fun d => d.ok (frR (HandSHeadRun.getT s) s.n)) = true
      rw [y2, y7]
      rfl
    show some (_, _, obsR fa fn ts ex (HandSHeadRun.getT s) s.n) = some (true, PySem.W.openGood q loose, He.valX fn ts w)
    rw [o]
    have a1 := congrArg Prod.fst y1
    have a2 := congrArg Prod.snd y1
    exact congrArg some (Prod.ext a1 (Prod.ext a2 rfl))
end Lw

namespace Lw
open PySem.Spec PySem L2 PyProof.Rows
open Evl (Ex Ex.refl Ex.trans Ex.new Ex.off ex_rd ex_l ex_t)
/-! ### the fields of a window -/
section
variable {x y z u : V} {m : Str}
end
section
variable {K : Fg} {B : Bg} {G G0 G1 G2 H H0 H1 H2 : Hp} {p a b q : Addr} {W : WS} {v : V} {σ : L2.St} {i : Nat} {Q : VK}
/-- the parts of a window -/
theorem Wn.parts (w : Wn K B G H p a b W) : ∃ dx vs xs ys, H p = some (winO K dx vs a b) ∧ StK K G vs W.st ∧ H a = some (.lst xs) ∧ Paired (PaK K G) xs W.past ∧ H b = some (.lst ys) ∧ Paired (PaK K G) ys W.und := by
  obtain ⟨dx, vs, h1, h2⟩ := w.o
  obtain ⟨xs, h3, h4⟩ := w.pa
  obtain ⟨ys, h5, h6⟩ := w.un
  exact ⟨dx, vs, xs, ys, h1, h2, h3, h4, h5, h6⟩
theorem Wn.pa_ne (w : Wn K B G H p a b W) : p ≠ a := by
  obtain ⟨dx, vs, xs, ys, h1, _, h3, _⟩ := w.parts
  exact ne_of h1 h3 (by intro z; cases z)
theorem Wn.pb_ne (w : Wn K B G H p a b W) : p ≠ b := by
  obtain ⟨dx, vs, xs, ys, h1, _, _, _, h5, _⟩ := w.parts
  exact ne_of h1 h5 (by intro z; cases z)
/-- a window whose objects are part of what stays -/
structure WnG (K : Fg) (G : Hp) (p a b : Addr) (W : WS) : Prop where
  o : ∃ dx vs, G p = some (winO K dx vs a b) ∧ StK K G vs W.st
  pa : ∃ xs, G a = some (.lst xs) ∧ Paired (PaK K G) xs W.past
  un : ∃ xs, G b = some (.lst xs) ∧ Paired (PaK K G) xs W.und
theorem WnG.mono (e : Ex G G2) (w : WnG K G p a b W) : WnG K G2 p a b W := by
  obtain ⟨dx, vs, h1, h2⟩ := w.o
  obtain ⟨xs, h3, h4⟩ := w.pa
  obtain ⟨ys, h5, h6⟩ := w.un
  exact ⟨⟨dx, vs, e _ _ h1, h2.mono e⟩, ⟨xs, e _ _ h3, PaK.all e h4⟩, ⟨ys, e _ _ h5, PaK.all e h6⟩⟩
theorem ok_adopt {o : HO} (e : Ok K B G H) (h : H q = some o) (n : ¬ isB B q) : Ok K B (upd G q o) H :=
  ⟨fun c u z => by
    by_cases d : c = q
    · subst d
      rw [upd_same] at z
      exact h.trans z
    · rw [upd_ne d] at z
      exact e.e c u z, fun b c z => by
    obtain ⟨ns, y⟩ := e.c b c z
    exact ⟨ns, ex_l (fun c u z => by
      by_cases d : c = q
      · subst d
        have w := e.e c u z
        rw [h] at w
        rw [upd_same]
        exact w
      · rw [upd_ne d]
        exact z) y⟩, e.b.keep (fun c z g => by
    rw [upd_ne (fun d => n (by rw [← d]; exact z))]
    exact g) fun _ _ _ z => z⟩
/-- a window, looked at as part of what stays -/
theorem Wn.see (w : Wn K B G H p a b W) (e : Ok K B G H) : ∃ G1, Ex G G1 ∧ Ok K B G1 H ∧ WnG K G1 p a b W ∧ ∀ q, ¬ own p a b q → G1 q = G q := by
  obtain ⟨dx, vs, xs, ys, h1, h2, h3, h4, h5, h6⟩ := w.parts
  have e1 := ok_adopt e h1 w.np
  have x1 : Ex G (upd G p (winO K dx vs a b)) := Ex.new w.gp
  have ga : upd G p (winO K dx vs a b) a = none := by rw [upd_ne w.pa_ne.symm]; exact w.ga
  have e2 := ok_adopt e1 h3 w.na
  have x2 : Ex (upd G p (winO K dx vs a b)) (upd (upd G p (winO K dx vs a b)) a (.lst xs)) := Ex.new ga
  have gb : upd (upd G p (winO K dx vs a b)) a (.lst xs) b = none := by rw [upd_ne w.ab.symm, upd_ne w.pb_ne.symm]; exact w.gb
  have e3 := ok_adopt e2 h5 w.nb
  have x3 : Ex (upd (upd G p (winO K dx vs a b)) a (.lst xs)) (upd (upd (upd G p (winO K dx vs a b)) a (.lst xs)) b (.lst ys)) := Ex.new gb
  have x := (x1.trans x2).trans x3
  exact ⟨_, x, e3, ⟨⟨dx, vs, x3 _ _ (x2 _ _ upd_same), h2.mono x⟩, ⟨xs, x3 _ _ upd_same, PaK.all x h4⟩, ⟨ys, upd_same, PaK.all x h6⟩⟩, fun q n => by
    rw [upd_ne (fun c => n (.inr (.inr c))), upd_ne (fun c => n (.inr (.inl c))), upd_ne (fun c => n (.inl c))]⟩
/-- what was asked with more in what stays, told without it -/
theorem ext_less (g : Ex G G1) (c : Cel K B G) (X : Lw.Ext K B G1 H G2 H2) : Lw.Ext K B G H G H2 :=
  ⟨Ex.refl G, X.hh, fun _ _ _ z => z, ⟨fun a o z => X.ok.e a o (X.gg a o (g a o z)), c, X.ok.b.keep (fun a _ z => g.off (X.gg.off z)) fun _ _ _ z => z⟩⟩
/-- a test with windows in it -/
theorem see_test {tt : TT} {k : Bool} {R : Bool → Hp → Prop} (g : Ex G G1) (c : Cel K B G) (e : Ok K B G1 H) (h : EvB K B tt σ G1 k) (q : ∀ H2, Lw.Ext K B G H G H2 → R k H2) : tt σ H R := h H e _ fun G2 H2 X => q H2 (ext_less g c X)
theorem see_int {te : TE} {n : Int} (g : Ex G G1) (c : Cel K B G) (e : Ok K B G1 H) (h : EvD K B te σ G1 (.int n)) (q : ∀ H2, Lw.Ext K B G H G H2 → Q (.int n) H2) : te σ H Q := h H e _ fun v G2 H2 X dv => by
  obtain rfl := dp_int dv
  exact q H2 (ext_less g c X)
end
end Lw

namespace Lw
open PySem.Spec PySem L2 PyProof.Rows
open Evl (Ex Ex.refl Ex.trans Ex.new Ex.off ex_rd ex_l ex_t)
section
variable {K : Fg} {B : Bg} {σ : L2.St} {G G' H : Hp} {te ta tb tc : TE} {tt tu : TT} {tr : TA} {d x y z : PyData} {ds es : List PyData} {p : Addr} {o : HO}
end
end Lw

namespace Lw
open PySem.Spec PySem L2 PyProof.Rows
open Evl (Ex Ex.refl Ex.trans Ex.new Ex.off ex_rd ex_l ex_t)
/-! ### first, *others = a tuple -/
section
variable {s : Shared} {prog : Program} {w : World} {A : Around} {E : Value → Shared → Prop}
end
section
variable {X : Cx} {pos : Pos}
end
end Lw

namespace Lw
open PySem.Spec PySem L2 PyProof.Rows
open Evl (Ex Ex.refl Ex.trans Ex.new Ex.off ex_rd ex_l ex_t)
/-! ### try .. except (X, Y), without a name -/
section
variable {X : Cx} {x y : Str} {c1 c2 : Value} {body suite : List Stmt} {b₀ : Stmt} {np np2 tp pos pos' : Pos} {kk : Nat} {tb : WX → TS} {ts : Addr → Value → Option Addr → TS} {Wout : WX}
end
section
variable {K : Fg} {w : World} {B : Bg} {σ : L2.St} {G : Hp} {ta : TE}
end
end Lw

namespace Lw
open PySem.Spec PySem L2 PyProof.Rows
open Evl (Ex Ex.refl Ex.trans Ex.new Ex.off ex_rd ex_l ex_t)
/-! ### a window and a list beside it, both loose -/
section
variable {K : Fg} {B : Bg} {Gs Hs G G0 G1 G2 H H0 H1 H2 : Hp} {p a b b' f q : Addr} {W W2 : WS} {σ : L2.St} {i j : Nat} {n : Int} {ds es : List PyData} {S : Addr → Prop} {te ti : TE} {tt : TT} {t u w : TS} {D : Ends}
theorem Loo.mut (l : Loo K B G0 H0 G H f ds) (m : Mut K B S G H G2 H2) (nf : ¬ S f) (n : ∀ q, S q → H0 q = none) : Loo K B G0 H0 G2 H2 f ds := by
  obtain ⟨xs, h1, h2⟩ := l.h
  exact ⟨m.ext l.x n, l.h0, m.fr f _ h1 l.g, l.nb, xs, m.hh f _ l.nb nf h1, dpAll_mono m.gg h2⟩
theorem Loo.back (X : Lw.Ext K B Gs Hs G0 H0) (l : Loo K B G0 H0 G H f ds) : Loo K B Gs Hs G H f ds := ⟨X.trans l.x, X.old l.nb l.h0, l.g, l.nb, l.h⟩
structure WL (K : Fg) (B : Bg) (Gs Hs G H : Hp) (p a b f : Addr) (W : WS) (ds : List PyData) : Prop where
  l : Loo K B Gs Hs G H f ds
  w : Wn K B G H p a b W
  n : ∀ q, own p a b q → Hs q = none
  f : ¬ own p a b f
theorem WL.ok (z : WL K B Gs Hs G H p a b f W ds) : Ok K B G H := z.l.x.ok
theorem WL.step (z : WL K B Gs Hs G H p a b f W ds) (X : Lw.Ext K B G H G2 H2) : WL K B Gs Hs G2 H2 p a b f W ds := ⟨z.l.step X, z.w.step X, z.n, z.f⟩
theorem WL.mut (z : WL K B Gs Hs G H p a b f W ds) (m : Mut K B (own p a b) G H G2 H2) (w : Wn K B G2 H2 p a b' W2) (hb : H b' = none) : WL K B Gs Hs G2 H2 p a b' f W2 ds := by
  obtain ⟨xs, h1, _⟩ := z.l.h
  refine ⟨z.l.mut m z.f z.n, w, fun q c => ?_, fun c => ?_⟩
  · rcases c with rfl | rfl | rfl
    · exact z.n _ (.inl rfl)
    · exact z.n _ (.inr (.inl rfl))
    · exact z.l.x.old w.nb hb
  · rcases c with rfl | rfl | rfl
    · exact z.f (.inl rfl)
    · exact z.f (.inr (.inl rfl))
    · rw [h1] at hb
      cases hb
theorem WL.put {xs : List V} (z : WL K B Gs Hs G H p a b f W ds) (dx : DpAll K G xs es) : WL K B Gs Hs G (upd H f (.lst xs)) p a b f W es :=
  ⟨z.l.put dx, z.w.apart (Mut.upd (S := fun q => q = f) z.ok rfl z.l.g z.l.nb) (fun c => z.f (.inl c.symm)) (fun c => z.f (.inr (.inl c.symm))) (fun c => z.f (.inr (.inr c.symm))), z.n, z.f⟩
theorem WL.see (z : WL K B Gs Hs G H p a b f W ds) : ∃ G1, Ex G G1 ∧ Ok K B G1 H ∧ WnG K G1 p a b W ∧ Dp K G1 (.ref f) (.list ds) := by
  obtain ⟨G1, g1, o1, wg, off⟩ := z.w.see z.ok
  obtain ⟨xs, h1, h2⟩ := z.l.h
  have gf : G1 f = none := (off f z.f).trans z.l.g
  have g2 : Ex G1 (upd G1 f (.lst xs)) := Ex.new gf
  exact ⟨_, g1.trans g2, ok_adopt o1 h1 z.l.nb, wg.mono g2, .lst (SqL.of upd_same) (dpAll_mono (g1.trans g2) h2)⟩
/-- xs[i] = e, e told by what stands in xs and by the window -/
theorem WL.poke (z : WL K B Gs Hs G H p a b f W ds) (hσ : σ[i]? = some (some (.ref f))) (h : ∀ G1, Ex G G1 → WnG K G1 p a b W → Dp K G1 (.ref f) (.list ds) → EvD K B te σ G1 (.int n)) (hi : EvD K B ti σ G (.int (j : Int))) (hj : j < ds.length) (k : ∀ G2 H2, Ex G G2 → WL K B Gs Hs G2 H2 p a b f W (ds.set j (.int n)) → D.nx σ H2) : tAsg te (gSub (tVar i) ti rSetL) D σ H := by
  obtain ⟨G1, g1, o1, wg, dl⟩ := z.see
  refine see_int g1 z.ok.c o1 (h G1 g1 wg dl) fun H2 X => ⟨.ref f, hσ, hi H2 X.ok _ fun v2 G3 H3 X3 d2 => ?_⟩
  obtain rfl := dp_int d2
  have z3 := z.step (X.trans X3)
  obtain ⟨xs, h3, a3⟩ := z3.l.h
  refine ⟨f, xs, (j : Int), j, rfl, rfl, h3, ?_, k G3 _ X3.gg (z3.put (dpAll_set (.int n) a3))⟩
  unfold ixN
  rw [dpAll_len a3, if_pos (by omega), if_pos (by omega), Int.toNat_natCast]
/-- a test of what is loose, that comes out false -/
theorem WL.ifF (z : WL K B Gs Hs G H p a b f W ds) (h : ∀ G1, Ex G G1 → WnG K G1 p a b W → Dp K G1 (.ref f) (.list ds) → EvB K B tt σ G1 false) (k : ∀ H2, WL K B Gs Hs G H2 p a b f W ds → u D σ H2) : tIfS tt t u D σ H := by
  obtain ⟨G1, g1, o1, wg, dl⟩ := z.see
  refine see_test g1 z.ok.c o1 (h G1 g1 wg dl) fun H2 X => ?_
  rw [Lw.ifF]
  exact k H2 (z.step X)
/-- x = e, told by e's own reading -/
theorem sq_te {g : TG} (h : te σ H fun v H1 => g v σ H1 (u D)) : tSeq (tAsg te g) u D σ H := h
/-- two statements and what follows, told by what stands between -/
theorem cut1 {t1 u : TS} {D : Ends} {σ : L2.St} {H : Hp} (Mid : L2.St → Hp → Prop) (tail : ∀ σ' H', Mid σ' H' → u D σ' H') (main : (∀ σ' H', Mid σ' H' → u D σ' H') → tSeq t1 u D σ H) : tSeq t1 u D σ H := main tail
end
end Lw

namespace Lw
open PySem.Spec PySem L2 PyProof.Rows
open Evl (Ex Ex.refl Ex.trans Ex.new Ex.off ex_rd ex_l ex_t)
/-! ### len(x), repr(x), str(x) by own defs -/
section
variable {X : Cx} {CX : CXT} {k : Nat} {C f : Addr} {sp : Sp} {E : XK} {R : V → Prop} {Q : VK} {pins : List (Addr × Obj)} {s : Shared} {σ : L2.St} {H : Hp} {a dx : Addr} {fs : List (Str × V)} {A : Around}
/-- a method by its own promise, all its values handed in -/
theorem GoodM.fr {P : Program} {w : World} {K : Fg} {mg : Str → Option Value} {base : Heap} {m : Str} {ps : List Str} (g : GoodM P w K mg base CX k C m ps [] sp) : FnR P w K mg base CX k (He.ma K C m) sp := by
  obtain ⟨fd, ds, F, r, b⟩ := g.ex
  exact (F.raw b r).imp fun vs H Q E h => by
    rw [List.append_nil]
    exact h
end
/-! ### o.m(x) in a body whose errors are caught -/
/-! ### isinstance(e, (A, B)), e a caught error without a field -/
/-! ### how many are in a list, each once -/
section
variable {K : Fg} {w : World} {B : Bg} {σ : L2.St} {G : Hp} {ta : TE}
end
end Lw

namespace Lw
open PySem.Spec PySem L2 PyProof.Rows
open Evl (Ex Ex.refl Ex.trans Ex.new Ex.off ex_rd ex_l ex_t)
section
variable {K : Fg} {B : Bg} {σ : L2.St} {G G' H : Hp} {te : TE} {tt : TT} {tr : TA} {d : PyData} {ds : List PyData}
end
/-! ### worlds; what is told in passing -/
theorem DpWk.mono {K : Fg} {G G2 : Hp} {n1 n2 n3 : Str} {v : V} {d1 d2 : PyData} {rows : List PyData} (e : Ex G G2) (h : DpWk K G n1 n2 n3 v d1 d2 rows) : DpWk K G2 n1 n2 n3 v d1 d2 rows := by
  obtain ⟨p, r, v1, v2, xs, rfl, h1, h2, h3, h4, h5, h6⟩ := h
  exact ⟨p, r, v1, v2, xs, rfl, e _ _ h1, dp_mono e h2, dp_mono e h3, e _ _ h4, dpAll_mono e h5, h6.mono e⟩
end Lw

namespace Lw
open PySem.Spec PySem L2 PyProof.Rows
open Evl (Ex Ex.refl Ex.trans Ex.new Ex.off ex_rd ex_l ex_t)
/-! ### readings that change nothing: te tells just v -/
def RdV (te : TE) (σ : L2.St) (H : Hp) (v : V) : Prop := ∀ Q : VK, Q v H → te σ H Q
section
variable {K : Fg} {B : Bg} {σ : L2.St} {G G' G1 G2 H H1 H2 : Hp} {te ta tb ti : TE} {v x y : V} {i n : Nat} {p f : Addr} {vs xs : List V}
theorem rv_var (h : σ[i]? = some (some v)) : RdV (tVar i) σ H v := fun Q q => ⟨v, h, q⟩
/-! ### a list of whatever values, outside of what stays -/
structure Lr (B : Bg) (G H : Hp) (f : Addr) (vs : List V) : Prop where
  h : H f = some (.lst vs)
  g : G f = none
  nb : ¬ isB B f
theorem Lr.step (l : Lr B G H f vs) (X : Lw.Ext K B G H G2 H2) : Lr B G2 H2 f vs := ⟨X.hh f _ l.nb l.h, X.fr f _ l.h l.g, l.nb⟩
theorem Lr.mut {S : Addr → Prop} (l : Lr B G H f vs) (m : Mut K B S G H G2 H2) (n : ¬ S f) : Lr B G2 H2 f vs := ⟨m.hh f _ l.nb n l.h, m.fr f _ l.h l.g, l.nb⟩
theorem Lr.put (l : Lr B G H f vs) (e : Ok K B G H) : Lr B G (upd H f (.lst xs)) f xs ∧ Mut K B (fun q => q = f) G H G (upd H f (.lst xs)) := ⟨⟨upd_same, l.g, l.nb⟩, Mut.upd e rfl l.g l.nb⟩
/-- frozen, for a test -/
theorem Lr.see (l : Lr B G H f vs) (e : Ok K B G H) : ∃ G1, Ex G G1 ∧ Ok K B G1 H ∧ G1 f = some (.lst vs) ∧ ∀ q, q ≠ f → G1 q = G q := ⟨_, Ex.new l.g, ok_adopt e l.h l.nb, upd_same, fun q h => upd_ne h⟩
/-- a, b = a tuple that is told -/
theorem g_unp {g : TGs} {N : L2.St → Hp → Prop} {ds : List PyData} (dv : Dp K G v (.tuple ds)) (e : Ex G H) (hl : ds.length = n) (k : ∀ vs, DpAll K G vs ds → g vs σ H N) : gTup K n g v σ H N := by
  obtain ⟨a, xs, rfl, hs, hx⟩ := dp_tup dv
  exact ⟨a, xs, rfl, ex_t e hs, (dpAll_len hx).trans hl, k xs hx⟩
end
end Lw

namespace Lw
open PySem.Spec PySem L2 PyProof.Rows
open Evl (Ex Ex.refl Ex.trans Ex.new Ex.off ex_rd ex_l ex_t)
/-! ### a call within an expression, told first -/
section
variable {K : Fg} {B : Bg} {σ : L2.St} {G G' G1 G2 H H1 H2 : Hp} {te tu tc t0 t1 t2 : TE} {v u x : V} {p a b : Addr} {W : WS} {D : Ends} {ts us : TS} {r r2 r3 : R2} {sp : Sp} {E : XK} {Q : VK} {g : TG}
theorem te_call1 (h1 : RdV te σ H v) (h : sp [v] H Q E) : tCall sp [] E (tCons te tNil) σ H Q := h1 _ h
theorem st_te (h : te σ H fun v H1 => g v σ H1 D.nx) : tAsg te g D σ H := h
theorem sq_st {w : TS} (h : ts { D with nx := w D } σ H) : tSeq ts w D σ H := h
/-- a window that stays loose while others are frozen -/
theorem Wn.frz (w : Wn K B G H p a b W) (g : Ex G G1) (hp : G1 p = none) (ha : G1 a = none) (hb : G1 b = none) : Wn K B G1 H p a b W := by
  obtain ⟨dx, vs, h1, h2⟩ := w.o
  obtain ⟨xs, h3, h4⟩ := w.pa
  obtain ⟨ys, h5, h6⟩ := w.un
  exact ⟨⟨dx, vs, h1, h2.mono g⟩, ⟨xs, h3, PaK.all g h4⟩, ⟨ys, h5, PaK.all g h6⟩, hp, ha, hb, w.np, w.na, w.nb, w.ab⟩
end
end Lw

namespace Lw
open PySem.Spec PySem L2 PyProof.Rows
open Evl (Ex Ex.refl Ex.trans Ex.new Ex.off ex_rd ex_l ex_t)
section
variable {K : Fg} {B : Bg} {σ : L2.St} {G G' G1 G2 H H1 H2 : Hp} {te tu tv tc ta tb : TE} {tr : TA} {v u x : V} {f : Addr} {vs : List V} {D : Ends} {ts us : TS} {sp : Sp} {E : XK} {Q : VK}
end
end Lw

namespace Lw
open PySem.Spec PySem L2 PyProof.Rows
open Evl (Ex Ex.refl Ex.trans Ex.new Ex.off ex_rd ex_l ex_t)
/-! ### x == y and x != y by an own __eq__ -/
section
variable {X : Cx} {CX : CXT} {k : Nat} {C f : Addr} {sp : Sp} {E : XK}
section
variable {prog : Program} {w : World} {A : Around} {Ee : Value → Shared → Prop} {K : PySem.W.Frag} {x : Addr} {ox : Obj} {od : Option Obj} {b tb : Value} {s : Shared}
end
end
end Lw

namespace Lw
open PySem.Spec PySem L2 PyProof.Rows
open Evl (Ex Ex.refl Ex.trans Ex.new Ex.off ex_rd ex_l ex_t)
/-! ### an own thing == whatever -/
section
variable {X : Cx} {CX : CXT} {k : Nat} {C f : Addr} {sp : Sp} {E : XK}
end
/-! ### what a run tells of two parts -/
end Lw

namespace Lw
open PySem.Spec PySem PySem.W PySem.Calls L2 PyProof.Rows
/-! ### the top's run in more parts: the defs are asked in four lists -/
end Lw

namespace Lw
open PySem.Spec PySem L2 PyProof.Rows
open Evl (Ex Ex.refl Ex.trans Ex.new Ex.off ex_rd ex_l ex_t)
/-! ### lists of whatever values: walked by comprehensions; == of lists that are not as long -/
section
variable {K : Fg} {B : Bg} {G G' H : Hp} {σ : L2.St} {te ta tb : TE} {tt : TT} {n : Nat} {a b : Addr} {xs ys : List V}
end
end Lw

namespace Lw
open PySem.Spec PySem L2 PyProof.Rows
open Evl (Ex Ex.refl Ex.trans Ex.new Ex.off ex_rd ex_l ex_t)
/-! ### lists of whatever values, told as they stand: cut, put together, frozen -/
def EvU (K : Fg) (B : Bg) (te : TE) (σ : L2.St) (G : Hp) (xs : List V) : Prop := ∀ H, Ok K B G H → ∀ Q : VK, (∀ r G2 H2, Lw.Ext K B G H G2 H2 → G2 r = some (.lst xs) → Q (.ref r) H2) → te σ H Q
section
variable {K : Fg} {B : Bg} {G G' H : Hp} {σ : L2.St} {te ta tb : TE} {tt : TT} {n : Nat} {a b r : Addr} {xs ys : List V} {v : V} {tl th : TO} {lo hi : Option Int}
theorem EvU.mono (e : Ex G G') (c : Cel K B G) (h : EvU K B te σ G xs) : EvU K B te σ G' xs := fun H eH Q q => h H (eH.less e c) Q fun r G2 H2 X hr => by
  obtain ⟨X2, e2⟩ := X.wide e eH
  exact q r _ H2 X2 (e2 _ _ hr)
end
end Lw

namespace Lw
open PySem.Spec PySem L2 PyProof.Rows
open Evl (Ex Ex.refl Ex.trans Ex.new Ex.off ex_rd ex_l ex_t)
/-! ### what is told from here on: over each heap that comes of this one (windows may stay loose) -/
def EvH (K : Fg) (B : Bg) (te : TE) (σ : L2.St) (G H : Hp) (d : PyData) : Prop := ∀ G' H', Lw.Ext K B G H G' H' → ∀ Q : VK, Ret K B G' H' Q d → te σ H' Q
def EvHF (K : Fg) (B : Bg) (te : TE) (σ : L2.St) (G H : Hp) (ds : List PyData) : Prop := ∀ G' H', Lw.Ext K B G H G' H' → ∀ Q : VK, RetF K B G' H' Q ds → te σ H' Q
def EvHA (K : Fg) (B : Bg) (tr : TA) (σ : L2.St) (G H : Hp) (ds : List PyData) : Prop := ∀ G' H', Lw.Ext K B G H G' H' → ∀ Q : List V → Hp → Prop, (∀ vs G2 H2, Lw.Ext K B G' H' G2 H2 → DpAll K G2 vs ds → Q vs H2) → tr σ H' Q
section
variable {K : Fg} {B : Bg} {G G' G1 H H' H1 : Hp} {σ : L2.St} {te ta tb : TE} {tt : TT} {tr : TA} {n : Nat} {a b r : Addr} {xs ys : List V} {v : V} {d x y z : PyData} {ds es : List PyData} {rr : R2}
theorem EvH.step (h : EvH K B te σ G H d) (X : Lw.Ext K B G H G1 H1) : EvH K B te σ G1 H1 d := fun G' H' X' Q q => h G' H' (X.trans X') Q q
theorem EvHF.step (h : EvHF K B te σ G H ds) (X : Lw.Ext K B G H G1 H1) : EvHF K B te σ G1 H1 ds := fun G' H' X' Q q => h G' H' (X.trans X') Q q
theorem EvHA.step (h : EvHA K B tr σ G H ds) (X : Lw.Ext K B G H G1 H1) : EvHA K B tr σ G1 H1 ds := fun G' H' X' Q q => h G' H' (X.trans X') Q q
theorem EvH.here (h : EvH K B te σ G H d) (e : Ok K B G H) {Q : VK} (q : Ret K B G H Q d) : te σ H Q := h G H (Ext.refl e) Q q
theorem EvHF.here (h : EvHF K B te σ G H ds) (e : Ok K B G H) {Q : VK} (q : RetF K B G H Q ds) : te σ H Q := h G H (Ext.refl e) Q q
theorem EvHF.ed (h : EvHF K B te σ G H ds) : EvH K B te σ G H (.list ds) := fun G' H' X Q q => h G' H' X Q (RetF.of q)
end
end Lw

namespace Lw
open PySem.Spec PySem L2 PyProof.Rows
open Evl (Ex Ex.refl Ex.trans Ex.new Ex.off ex_rd ex_l ex_t)
section
variable {K : Fg} {B : Bg} {G G' G1 G2 H H' H1 H2 : Hp} {σ : L2.St} {te ta tb : TE} {tt : TT} {tr : TA} {n : Nat} {a b f : Addr} {xs ys : List V} {v : V} {d x y z : PyData} {ds es : List PyData} {tl th : TO} {lo hi : Option Int}
end
end Lw

namespace Lw
open PySem.Spec PySem L2 PyProof.Rows
open Evl (Ex Ex.refl Ex.trans Ex.new Ex.off ex_rd ex_l ex_t)
/-! ### methods and classes by names -/
/-- the i-th of a list, as a list -/
def pk {α : Type} (l : List α) (i : Nat) : List α := (l.drop i).take 1
structure GoodMN (P : Program) (w : World) (K : Fg) (mg : Str → Option Value) (base : Heap) (CX : CXT) (k : Nat) (C : Addr) (m : Str) (ps : List Str) (n : Nat) (ks : List Str) (gV : List V → List V → List V) (sp : Sp) : Prop where
  ex : ∃ fd g, FnOk P w K mg base CX k (He.ma K C m) fd ps sp ∧ KBn K fd ps (n + 1) ks g gV
  me : Meth K C m (He.ma K C m)
structure GoodMkN (P : Program) (w : World) (K : Fg) (mg : Str → Option Value) (base : Heap) (CX : CXT) (k : Nat) (C : Addr) (ps : List Str) (n : Nat) (ks : List Str) (gV : List V → List V → List V) (sp : Sp) : Prop where
  ex : ∃ fd g, FnOk P w K mg base CX k (He.ma K C "__init__") fd ps sp ∧ KBn K fd ps (n + 1) ks g gV
  made : Mk K C (He.ma K C "__init__")
section
variable {K : Fg} {x qual : Str} {params : Arguments} {body : List Stmt} {scope : Scope} {kws : List (Str × V)} {f : Addr} {fd : FuncData} {ps : List Str}
end
section
variable {X : Cx} {CX : CXT} {k n : Nat} {C : Addr} {m x : Str} {ps ks : List Str} {sp : Sp} {E : XK} {o e : Expr} {es : List Expr} {kws : List Keyword} {ta te : TE} {t tk : TA} {p pos apos : Pos} {gV : List V → List V → List V}
end
end Lw

namespace Lw
open PySem.Spec PySem L2 PyProof.Rows
open Evl (Ex Ex.refl Ex.trans Ex.new Ex.off ex_rd ex_l ex_t)
section
variable {K : Fg} {B : Bg} {G G1 G2 H H1 H2 : Hp} {σ : L2.St} {te tw tc t0 t1 : TE} {T A : TT} {t tk : TA} {ts us : TS} {D : Ends} {r r2 : R2} {p a b : Addr} {W : WS} {m : Str} {sp : Sp} {dvs : List V} {E : XK} {Q : VK} {n nk : Nat} {gV : List V → List V → List V} {v : V} {d : PyData}
end
end Lw

namespace Lw
open PySem.Spec PySem L2 PyProof.Rows
open Evl (Ex Ex.refl Ex.trans Ex.new Ex.off ex_rd ex_l ex_t)
/-! ### a def of whose errors it is known that they have no context, called where that isn't asked -/
section
variable {P : Program} {w : World} {K : Fg} {mg : Str → Option Value} {base : Heap} {k n : Nat} {f C : Addr} {fd : FuncData} {ps ks : List Str} {sp : Sp} {x m : Str} {dvs : List V} {gV : List V → List V → List V}
theorem cx_up {outer : List Env} {s : Shared} {H : Hp} {E : XK} {u : Value} {s' : Shared} (c : L2N.CX P w outer H s E u s') : L2.CX P w outer H s E u s' := by
  rcases c with ⟨a, B, H', cls, d, e, fl, r⟩
  exact ⟨a, B, H', cls, d, e, L2H.flyingZ_imp (fun _ z => z.zc) fl, r⟩
theorem fn_up (F : FnOk P w K mg base (L2N.CX P w) k f fd ps sp) : FnOk P w K mg base (L2.CX P w) k f fd ps sp :=
  ⟨F.len, fun A outer s H args us vs Q E hr e0 b r h => codeAny_mono (F.run A outer s H args us vs Q E hr e0 b r h) fun r s' z => by
    match r, z with
    | .ok (.ret u), z => exact z
    | .error e, z => exact cx_up z⟩
theorem Good.up (g : Good P w K mg base (L2N.CX P w) k x ps dvs sp) : Good P w K mg base (L2.CX P w) k x ps dvs sp := by
  obtain ⟨⟨fd, ds, F, r⟩, g1, g2⟩ := g
  exact ⟨⟨fd, ds, fn_up F, r⟩, g1, g2⟩
theorem GoodK.up (g : GoodK P w K mg base (L2N.CX P w) k x ps n ks gV sp) : GoodK P w K mg base (L2.CX P w) k x ps n ks gV sp := by
  obtain ⟨⟨fd, ds, F, r⟩, g1, g2⟩ := g
  exact ⟨⟨fd, ds, fn_up F, r⟩, g1, g2⟩
theorem GoodM.up (g : GoodM P w K mg base (L2N.CX P w) k C m ps dvs sp) : GoodM P w K mg base (L2.CX P w) k C m ps dvs sp := by
  obtain ⟨⟨fd, ds, F, r⟩, g1⟩ := g
  exact ⟨⟨fd, ds, fn_up F, r⟩, g1⟩
theorem GoodMk.up (g : GoodMk P w K mg base (L2N.CX P w) k C ps dvs sp) : GoodMk P w K mg base (L2.CX P w) k C ps dvs sp := by
  obtain ⟨⟨fd, ds, F, r⟩, g1⟩ := g
  exact ⟨⟨fd, ds, fn_up F, r⟩, g1⟩
theorem GoodMN.up (g : GoodMN P w K mg base (L2N.CX P w) k C m ps n ks gV sp) : GoodMN P w K mg base (L2.CX P w) k C m ps n ks gV sp := by
  obtain ⟨⟨fd, ds, F, r⟩, g1⟩ := g
  exact ⟨⟨fd, ds, fn_up F, r⟩, g1⟩
theorem GoodMkN.up (g : GoodMkN P w K mg base (L2N.CX P w) k C ps n ks gV sp) : GoodMkN P w K mg base (L2.CX P w) k C ps n ks gV sp := by
  obtain ⟨⟨fd, ds, F, r⟩, g1⟩ := g
  exact ⟨⟨fd, ds, fn_up F, r⟩, g1⟩
end
/-! ### raise X(..) from None, in an except suite -/
/-- __init__ of an own error, walked while another is handled -/
structure GoodIH (P : Program) (w : World) (K : Fg) (mg : Str → Option Value) (base : Heap) (k : Nat) (f : Addr) : Prop where
  ex : ∃ fd, L2H.FnH P w K mg base CX0 k f fd ["self", "at"] (sp_at K) ∧ Binds K fd ["self", "at"] []
section
variable {X : Cx} {x y : Str} {c1 c2 : Value} {body suite : List Stmt} {b₀ : Stmt} {np np2 tp pos pos' : Pos} {kk : Nat} {tb : WX → TS} {ts : Addr → Value → Option Addr → TS} {Wout : WX}
end
/-! ### *others, last = a list -/
section
variable {s : Shared} {prog : Program} {w : World} {A : Around} {E : Value → Shared → Prop}
end
/-! ### enumerate(xs, start=n) -/
/-! ### C(x) in a body whose errors are caught -/
/-! ### __init__ walked while an error is handled -/
end Lw

namespace Lw
open PySem.Spec PySem L2 PyProof.Rows
open Evl (Ex Ex.refl Ex.trans Ex.new Ex.off ex_rd ex_l ex_t)
section
variable {K : Fg} {B : Bg} {G H : Hp} {σ : L2.St} {te ti : TE} {tt : TT} {ds : List PyData}
end
end Lw

namespace Lw
open PySem.Spec PySem L2 PyProof.Rows
open Evl (Ex Ex.refl Ex.trans Ex.new Ex.off ex_rd ex_l ex_t)
section
variable {K : Fg} {B : Bg} {G H : Hp} {σ : L2.St} {te : TE} {A T : TT} {ts us : TS} {D : Ends}
end
end Lw

namespace Lw
open PySem.Spec PySem L2 PyProof.Rows
open Evl (Ex Ex.refl Ex.trans Ex.new Ex.off ex_rd ex_l ex_t)
end Lw

namespace Lw
open PySem.Spec PySem L2 PyProof.Rows
open Evl (Ex Ex.refl Ex.trans Ex.new Ex.off ex_rd ex_l ex_t)
/-! ### try .. except X .. except (Y, Z), without names -/
section
variable {X : Cx} {x0 x y : Str} {c0 c1 c2 : Value} {body suite0 suite : List Stmt} {d₀ b₀ : Stmt} {np0 np np2 tp pos pos' pos0 : Pos} {kk : Nat} {tb : WX → TS} {ts0 ts : Addr → Value → Option Addr → TS} {Wout : WX}
end
end Lw

namespace Lw
open PySem.Spec PySem L2 PyProof.Rows
open Evl (Ex Ex.refl Ex.trans Ex.new Ex.off ex_rd ex_l ex_t)
/-! ### sorted of a tuple of tuples -/
section
variable {s : Shared} {P : Program} {w : World} {A : Around} {E : Value → Shared → Prop}
theorem sorted_tupL {t : Addr} {vs : List Value} {kk : Value → List Int} {Q : Value → Shared → Prop} (ht : s.heap.IsTuple t vs.toArray) (z : vs.length ≤ sizeLine) (hT : ∀ v ∈ vs, TS.TupInts s.heap v (kk v) ∧ kk v ≠ [])
    (k : ∀ h' p (out : List Value) (c : Nat), (∀ b o, s.heap.get? b = some o → h'.get? b = some o) → s.heap.objs.size ≤ p → h'.get? p = some (seqObj "list" out.toArray c) → out.Perm vs → out.Pairwise (fun x y => HT.lexLt (kk y) (kk x) = false) → Q (.ref p) { s with heap := h' }) :
    wpAny (model P w) A (call (.builtin "sorted") [.ref t]) Q E s := by
  refine Calls.call_function_entry kind_sorted plain_sorted entry_sorted (args_sorted1 (.ref t)) ?_
  unfold Builtin.«sorted»
  refine wpAny_bind (m := checkCount "sorted" 1 1 _) (wpAny_pure (wpAny_bind (collect_tup (A := A.in1) ht z fun h1 k1 z1 => wpAny_bind (wpAny_newList ?_ z))))
  have oL : (h1.push (seqObj "list" vs.toArray 0)).get? h1.objs.size = some (seqObj "list" vs.toArray 0) := Heap.get?_push_size _ rfl
  have kp : ∀ b u, s.heap.get? b = some u → (h1.push (seqObj "list" vs.toArray 0)).get? b = some u := fun b u e => Heap.get?_push_of_some _ (k1 b u e)
  refine wpAny_bind (wpAny_holding (wpAny_call_entry slot_list_sort ⟨_, oL, rfl⟩ entry_list_sort (SrtO.list_sort_ord (NtL.swo_lexL kk) oL z (fun h2 => sortable_lexL (k := kk) (by omega) (fun v hv => ⟨(hT v hv).1.keeps fun b o e _ => kp b o e, (hT v hv).2⟩) fun o e c => ?_) fun out q1 q2 => ⟨_, rfl, ?_⟩) (args_list_sort _)))
  · have e' : some o = some (seqObj "list" vs.toArray 0) := e.symm.trans oL
    cases e'
    exact (by decide : ("list" : String) ≠ "tuple") (Value.type.inj c)
  obtain ⟨c, hc⟩ := sortedHeap_at (vs := vs) (out := out.toArray) oL
  refine wpAny_pure ⟨_, rfl, k _ h1.objs.size out c (fun b u e => ?_) z1 hc q2.perm q1⟩
  have lt := Heap.lt_size (k1 b u e)
  rw [sortedHeap_old (Nat.ne_of_lt lt) (by rw [size_push']; exact Nat.lt_succ_of_lt lt)]
  exact kp b u e
end
def rSortedTL (K : Fg) : List V → Hp → VK → Prop := fun vs H Q => ∃ (a : Addr) (ks : List (Addr × List Int)), vs = [V.ref a] ∧ SqT K H a (ks.map fun p => V.ref p.1) ∧ (∀ p ∈ ks, SqT K H p.1 (p.2.map V.int) ∧ p.2 ≠ []) ∧
  ∀ (L : List (Addr × List Int)) (p : Addr), L.Perm ks → L.Pairwise (fun x y => HT.lexLt y.2 x.2 = false) → H p = none → Q (.ref p) (upd H p (.lst (L.map fun q => V.ref q.1)))
theorem cr_sortedTL {X : Cx} : CallR X (.builtin "sorted") (rSortedTL X.K) := by
  rintro pins s σ H _ us Q I r ⟨a, ks, rfl, hs, hx, q⟩
  obtain ⟨its, rv, tp, hz⟩ := I.tuple hs
  rw [Vals.ref1 r]
  have ei := refs_vals rv
  have hT : ∀ p ∈ ks, TS.TupInts s.heap (.ref p.1) p.2 := fun p hp => by
    obtain ⟨ys, ry, ht, _⟩ := I.tuple (hx p hp).1
    exact ⟨p.1, ys.toArray, rfl, ht, ry.ints⟩
  have hk : ∀ p ∈ ks, TS.intsOf s.heap (.ref p.1) = p.2 := fun p hp => (hT p hp).ints
  refine sorted_tupL (P := X.prog) (w := X.w) (kk := TS.intsOf s.heap) tp (by rw [← rv.length]; exact hz) (fun v hv => ?_) fun h' p out c kp hp ho pm pw => ?_
  · rw [ei] at hv
    obtain ⟨p, hp, rfl⟩ := List.mem_map.mp hv
    rw [hk p hp]
    exact ⟨hT p hp, (hx p hp).2⟩
  · have pm2 : (out.map fun v => (adrV v, TS.intsOf s.heap v)).Perm ks := by
      have y := pm.map fun v => (adrV v, TS.intsOf s.heap v)
      rw [ei, List.map_map] at y
      have e0 : ks.map ((fun v => (adrV v, TS.intsOf s.heap v)) ∘ fun p => Value.ref p.1) = ks := by
        refine (List.map_congr_left fun p hp => ?_).trans (List.map_id ks)
        show (p.1, TS.intsOf s.heap (.ref p.1)) = p
        rw [hk p hp]
      rw [e0] at y
      exact y
    have eo : (out.map fun v => (adrV v, TS.intsOf s.heap v)).map (fun p => Value.ref p.1) = out := by
      rw [List.map_map]
      refine (List.map_congr_left fun v hv => ?_).trans (List.map_id out)
      have hv' := pm.mem_iff.mp hv
      rw [ei] at hv'
      obtain ⟨p, _, rfl⟩ := List.mem_map.mp hv'
      rfl
    have pw2 : (out.map fun v => (adrV v, TS.intsOf s.heap v)).Pairwise fun x y => HT.lexLt y.2 x.2 = false := List.pairwise_map.mpr pw
    generalize (out.map fun v => (adrV v, TS.intsOf s.heap v)) = L at pm2 eo pw2
    have rl := vals_refs L
    rw [eo] at rl
    have hlen : (L.map fun p => V.ref p.1).length ≤ sizeLine := by
      rw [List.length_map, pm2.length_eq]
      rw [List.length_map] at hz
      exact hz
    exact ⟨.ref p, upd H p (.lst (L.map fun p => V.ref p.1)), I.laid (t' := s.toks) kp hp ⟨hlen, out, c, rl, ho⟩, rfl, q L p pm2 pw2 (I.hok.fresh hp)⟩
section
variable {K : Fg} {B : Bg} {G : Hp} {σ : L2.St} {ta : TE}
theorem ef_sortedTL {ls : List (List Int)} (h : EvD K B ta σ G (.tuple (ls.map encT))) (hn : ∀ l ∈ ls, l ≠ []) : EvF K B (tCB (rSortedTL K) (tCons ta tNil)) σ G ((srtL ls).map encT) := fun H e Q q =>
  h H e _ fun v G2 H2 X dv => by
    obtain ⟨a, xs, rfl, hs, hx⟩ := dp_tup dv
    obtain ⟨ks, rfl, rfl, hk⟩ := dp_encs hx
    refine ⟨a, ks, rfl, ex_t X.ok.e hs, (fun p hp => ⟨ex_t X.ok.e (hk p hp), hn _ (List.mem_map.mpr ⟨p, hp, rfl⟩)⟩), fun L p pm pw hp => ?_⟩
    have nb := X.ok.b.ne hp
    have e0 : L.map (·.2) = srtL (ks.map (·.2)) := srtL_uniq (pm.map _) (List.pairwise_map.mpr pw)
    refine q p _ G2 _ (X.trans (Ext.loose X.ok hp)) (X.old nb hp) (X.ok.e.off hp) nb upd_same ?_
    rw [← e0]
    exact encs_dp fun r hr => hk r (pm.mem_iff.mp hr)
end
end Lw


namespace K26
open PySem.Spec PySem L2 PyProof.Rows Lw
open Evl (Ex Ex.refl Ex.trans Ex.new Ex.off ex_rd ex_l ex_t)
set_option maxHeartbeats 0
def top (i : Nat) : Stmt := PySem.Challenge.pw_leadlight_k26_moves_of_plans.main.body.getD i (.Pass ⟨0, 0, 0, 0⟩)
abbrev s_check_turn : Stmt := top 6
def d_check_turn : He.DefD := ⟨("check_turn", none), "check_turn", "check_turn", defArgs s_check_turn, defBody s_check_turn, defScope s_check_turn, [], []⟩
abbrev s_back : Stmt := top 7
def d_back : He.DefD := ⟨("back", none), "back", "back", defArgs s_back, defBody s_back, defScope s_back, [], []⟩
abbrev s_step : Stmt := top 8
def d_step : He.DefD := ⟨("step", none), "step", "step", defArgs s_step, defBody s_step, defScope s_step, [.int 1], []⟩
abbrev s_lead : Stmt := top 9
def d_lead : He.DefD := ⟨("lead", none), "lead", "lead", defArgs s_lead, defBody s_lead, defScope s_lead, [], []⟩
abbrev s_quarter_at : Stmt := top 11
def d_quarter_at : He.DefD := ⟨("quarter_at", none), "quarter_at", "quarter_at", defArgs s_quarter_at, defBody s_quarter_at, defScope s_quarter_at, [], []⟩
abbrev s_all_quarters : Stmt := top 13
def d_all_quarters : He.DefD := ⟨("all_quarters", none), "all_quarters", "all_quarters", defArgs s_all_quarters, defBody s_all_quarters, defScope s_all_quarters, [], []⟩
abbrev s_flipped : Stmt := top 14
def d_flipped : He.DefD := ⟨("flipped", none), "flipped", "flipped", defArgs s_flipped, defBody s_flipped, defScope s_flipped, [], []⟩
abbrev s_turned : Stmt := top 15
def d_turned : He.DefD := ⟨("turned", none), "turned", "turned", defArgs s_turned, defBody s_turned, defScope s_turned, [], []⟩
abbrev s_mirrored : Stmt := top 16
def d_mirrored : He.DefD := ⟨("mirrored", none), "mirrored", "mirrored", defArgs s_mirrored, defBody s_mirrored, defScope s_mirrored, [], []⟩
abbrev s__law_bag : Stmt := top 18
def d__law_bag : He.DefD := ⟨("_law_bag", none), "_law_bag", "_law_bag", defArgs s__law_bag, defBody s__law_bag, defScope s__law_bag, [], []⟩
abbrev s__law_pull : Stmt := top 19
def d__law_pull : He.DefD := ⟨("_law_pull", none), "_law_pull", "_law_pull", defArgs s__law_pull, defBody s__law_pull, defScope s__law_pull, [], []⟩
abbrev s__law_whole : Stmt := top 20
def d__law_whole : He.DefD := ⟨("_law_whole", none), "_law_whole", "_law_whole", defArgs s__law_whole, defBody s__law_whole, defScope s__law_whole, [], []⟩
abbrev s__law_same : Stmt := top 21
def d__law_same : He.DefD := ⟨("_law_same", none), "_law_same", "_law_same", defArgs s__law_same, defBody s__law_same, defScope s__law_same, [], []⟩
abbrev s__law_go : Stmt := top 22
def d__law_go : He.DefD := ⟨("_law_go", none), "_law_go", "_law_go", defArgs s__law_go, defBody s__law_go, defScope s__law_go, [], []⟩
abbrev s__law_name : Stmt := top 23
def d__law_name : He.DefD := ⟨("_law_name", none), "_law_name", "_law_name", defArgs s__law_name, defBody s__law_name, defScope s__law_name, [], []⟩
abbrev s__law_tips : Stmt := top 24
def d__law_tips : He.DefD := ⟨("_law_tips", none), "_law_tips", "_law_tips", defArgs s__law_tips, defBody s__law_tips, defScope s__law_tips, [], []⟩
abbrev s__law_on : Stmt := top 25
def d__law_on : He.DefD := ⟨("_law_on", none), "_law_on", "_law_on", defArgs s__law_on, defBody s__law_on, defScope s__law_on, [], []⟩
abbrev s__law_rim : Stmt := top 26
def d__law_rim : He.DefD := ⟨("_law_rim", none), "_law_rim", "_law_rim", defArgs s__law_rim, defBody s__law_rim, defScope s__law_rim, [], []⟩
abbrev s__law_all : Stmt := top 27
def d__law_all : He.DefD := ⟨("_law_all", none), "_law_all", "_law_all", defArgs s__law_all, defBody s__law_all, defScope s__law_all, [], []⟩
abbrev s__law_within : Stmt := top 28
def d__law_within : He.DefD := ⟨("_law_within", none), "_law_within", "_law_within", defArgs s__law_within, defBody s__law_within, defScope s__law_within, [], []⟩
abbrev s__law_over : Stmt := top 29
def d__law_over : He.DefD := ⟨("_law_over", none), "_law_over", "_law_over", defArgs s__law_over, defBody s__law_over, defScope s__law_over, [], []⟩
abbrev s__law_joined : Stmt := top 30
def d__law_joined : He.DefD := ⟨("_law_joined", none), "_law_joined", "_law_joined", defArgs s__law_joined, defBody s__law_joined, defScope s__law_joined, [], []⟩
abbrev s__law_slant : Stmt := top 31
def d__law_slant : He.DefD := ⟨("_law_slant", none), "_law_slant", "_law_slant", defArgs s__law_slant, defBody s__law_slant, defScope s__law_slant, [], []⟩
abbrev s__law_cell_pairs : Stmt := top 32
def d__law_cell_pairs : He.DefD := ⟨("_law_cell_pairs", none), "_law_cell_pairs", "_law_cell_pairs", defArgs s__law_cell_pairs, defBody s__law_cell_pairs, defScope s__law_cell_pairs, [], []⟩
abbrev s__law_panes : Stmt := top 33
def d__law_panes : He.DefD := ⟨("_law_panes", none), "_law_panes", "_law_panes", defArgs s__law_panes, defBody s__law_panes, defScope s__law_panes, [], []⟩
abbrev s__law_size : Stmt := top 34
def d__law_size : He.DefD := ⟨("_law_size", none), "_law_size", "_law_size", defArgs s__law_size, defBody s__law_size, defScope s__law_size, [], []⟩
abbrev s__law_some : Stmt := top 35
def d__law_some : He.DefD := ⟨("_law_some", none), "_law_some", "_law_some", defArgs s__law_some, defBody s__law_some, defScope s__law_some, [], []⟩
abbrev s__law_glass : Stmt := top 36
def d__law_glass : He.DefD := ⟨("_law_glass", none), "_law_glass", "_law_glass", defArgs s__law_glass, defBody s__law_glass, defScope s__law_glass, [], []⟩
abbrev s__law_leaded : Stmt := top 37
def d__law_leaded : He.DefD := ⟨("_law_leaded", none), "_law_leaded", "_law_leaded", defArgs s__law_leaded, defBody s__law_leaded, defScope s__law_leaded, [], []⟩
abbrev s__law_plan : Stmt := top 38
def d__law_plan : He.DefD := ⟨("_law_plan", none), "_law_plan", "_law_plan", defArgs s__law_plan, defBody s__law_plan, defScope s__law_plan, [], []⟩
abbrev s__law_spot : Stmt := top 39
def d__law_spot : He.DefD := ⟨("_law_spot", none), "_law_spot", "_law_spot", defArgs s__law_spot, defBody s__law_spot, defScope s__law_spot, [], []⟩
abbrev s__law_cell_of : Stmt := top 40
def d__law_cell_of : He.DefD := ⟨("_law_cell_of", none), "_law_cell_of", "_law_cell_of", defArgs s__law_cell_of, defBody s__law_cell_of, defScope s__law_cell_of, [], []⟩
abbrev s__law_part_of : Stmt := top 41
def d__law_part_of : He.DefD := ⟨("_law_part_of", none), "_law_part_of", "_law_part_of", defArgs s__law_part_of, defBody s__law_part_of, defScope s__law_part_of, [], []⟩
abbrev s__law_moved : Stmt := top 42
def d__law_moved : He.DefD := ⟨("_law_moved", none), "_law_moved", "_law_moved", defArgs s__law_moved, defBody s__law_moved, defScope s__law_moved, [], []⟩
abbrev s__law_said : Stmt := top 43
def d__law_said : He.DefD := ⟨("_law_said", none), "_law_said", "_law_said", defArgs s__law_said, defBody s__law_said, defScope s__law_said, [], []⟩
abbrev s_law : Stmt := top 44
def d_law : He.DefD := ⟨("law", none), "law", "law", defArgs s_law, defBody s_law, defScope s_law, [], []⟩
def fnA : List He.DefD := [d_check_turn, d_back, d_step, d_lead, d_quarter_at, d_all_quarters, d_flipped, d_turned, d_mirrored, d__law_bag, d__law_pull, d__law_whole, d__law_same, d__law_go, d__law_name, d__law_tips, d__law_on, d__law_rim]
def fnB : List He.DefD := [d__law_all, d__law_within, d__law_over, d__law_joined, d__law_slant, d__law_cell_pairs, d__law_panes, d__law_size, d__law_some, d__law_glass, d__law_leaded, d__law_plan, d__law_spot, d__law_cell_of, d__law_part_of, d__law_moved, d__law_said, d_law]
def fn : List He.DefD := fnA ++ fnB
def fa0 : List He.Fa := [.glo "LeadError", .glo "BadTurn", .glo "RIGHT", .glo "DOWN", .glo "check_turn", .glo "back", .glo "step", .glo "lead", .glo "quarter_at", .glo "all_quarters", .glo "flipped", .glo "turned", .glo "mirrored", .glo "_law_bag", .glo "_law_pull", .glo "_law_whole", .glo "_law_same", .glo "_law_go", .glo "_law_name", .glo "_law_tips", .glo "_law_on", .glo "_law_rim", .glo "_law_all", .glo "_law_within", .glo "_law_over", .glo "_law_joined", .glo "_law_slant", .glo "_law_cell_pairs", .glo "_law_panes", .glo "_law_size"]
def fa1 : List He.Fa := [.glo "_law_some", .glo "_law_glass", .glo "_law_leaded", .glo "_law_plan", .glo "_law_spot", .glo "_law_cell_of", .glo "_law_part_of", .glo "_law_moved", .glo "_law_said", .glo "law", .free "ValueError", .free "all", .free "bool", .free "enumerate", .free "int", .free "isinstance", .free "len", .free "list", .free "max", .free "min", .free "range", .free "set", .free "sorted", .free "str", .free "tuple", .exc "LeadError", .exc "BadTurn"]
def fa : List He.Fa := fa0 ++ fa1
def ts : List He.Tab := []
def exL (K : PySem.W.Frag) : List Bool := [He.tupB K "RIGHT" [.int 1, .int 1, .int 0, .int (-1), .int (-1), .int (-1), .int 0, .int 1],
  He.tupB K "DOWN" [.int 0, .int 1, .int 1, .int 1, .int 0, .int (-1), .int (-1), .int (-1)],
  decide (PySem.W.exmOne K (.ref (He.ga K "LeadError")) (.ref (He.ga K "LeadError")) = some true),
  decide (PySem.W.kitOne K (.ref (He.ga K "LeadError")) (.ref (He.ga K "LeadError")) = some true),
  decide (PySem.W.exmOne K (.ref (He.ga K "LeadError")) (.ref (He.ga K "BadTurn")) = some false),
  decide (PySem.W.kitOne K (.ref (He.ga K "LeadError")) (.ref (He.ga K "BadTurn")) = some false),
  decide (PySem.W.kitOne K (.ref (He.ga K "LeadError")) (.type "ValueError") = some true),
  excCB K (He.ga K "LeadError"),
  decide (PySem.W.exmOne K (.ref (He.ga K "BadTurn")) (.ref (He.ga K "LeadError")) = some true),
  decide (PySem.W.kitOne K (.ref (He.ga K "BadTurn")) (.ref (He.ga K "LeadError")) = some true),
  decide (PySem.W.exmOne K (.ref (He.ga K "BadTurn")) (.ref (He.ga K "BadTurn")) = some true),
  decide (PySem.W.kitOne K (.ref (He.ga K "BadTurn")) (.ref (He.ga K "BadTurn")) = some true),
  decide (PySem.W.kitOne K (.ref (He.ga K "BadTurn")) (.type "ValueError") = some true),
  excCB K (He.ga K "BadTurn")]
def exB (K : PySem.W.Frag) : Bool := (exL K).all id
structure Txt (K : PySem.W.Frag) (mg : Str → Option Value) : Prop where
  ex : ∃ h : Heap, K.In h ∧ h.Ns mainGlobals mg
  c : He.SaysD fa fn K
  more : exB K = true

theorem Txt.of {K : PySem.W.Frag} {mg : Str → Option Value} {h : Heap} {w : World} (X : K.In h) (G : h.Ns mainGlobals mg) (c : He.SaysT fa fn ts w K) (m : exB K = true) : Txt K mg := ⟨⟨h, X, G⟩, c.d, m⟩
theorem Txt.at_ {K : PySem.W.Frag} {mg : Str → Option Value} (T : Txt K mg) (i : Nat) {b : Bool} (h : (exL K)[i]? = some b) : b = true := by
  have z := List.all_eq_true.mp (show (exL K).all id = true from T.more) b (List.mem_of_getElem? h)
  exact z
section
variable {K : PySem.W.Frag} {mg : Str → Option Value} (T : Txt K mg)
include T
theorem Txt.g_LeadError : mg "LeadError" = some (.ref (He.ga K "LeadError")) := by
  obtain ⟨h, X, G⟩ := T.ex
  exact He.glo_ok X G (T.c.fact 0 (f := .glo "LeadError") rfl)
theorem Txt.g_BadTurn : mg "BadTurn" = some (.ref (He.ga K "BadTurn")) := by
  obtain ⟨h, X, G⟩ := T.ex
  exact He.glo_ok X G (T.c.fact 1 (f := .glo "BadTurn") rfl)
theorem Txt.g_RIGHT : mg "RIGHT" = some (.ref (He.ga K "RIGHT")) := by
  obtain ⟨h, X, G⟩ := T.ex
  exact He.glo_ok X G (T.c.fact 2 (f := .glo "RIGHT") rfl)
theorem Txt.g_DOWN : mg "DOWN" = some (.ref (He.ga K "DOWN")) := by
  obtain ⟨h, X, G⟩ := T.ex
  exact He.glo_ok X G (T.c.fact 3 (f := .glo "DOWN") rfl)
theorem Txt.g_check_turn : mg "check_turn" = some (.ref (He.ga K "check_turn")) := by
  obtain ⟨h, X, G⟩ := T.ex
  exact He.glo_ok X G (T.c.fact 4 (f := .glo "check_turn") rfl)
theorem Txt.g_back : mg "back" = some (.ref (He.ga K "back")) := by
  obtain ⟨h, X, G⟩ := T.ex
  exact He.glo_ok X G (T.c.fact 5 (f := .glo "back") rfl)
theorem Txt.g_step : mg "step" = some (.ref (He.ga K "step")) := by
  obtain ⟨h, X, G⟩ := T.ex
  exact He.glo_ok X G (T.c.fact 6 (f := .glo "step") rfl)
theorem Txt.g_lead : mg "lead" = some (.ref (He.ga K "lead")) := by
  obtain ⟨h, X, G⟩ := T.ex
  exact He.glo_ok X G (T.c.fact 7 (f := .glo "lead") rfl)
theorem Txt.g_quarter_at : mg "quarter_at" = some (.ref (He.ga K "quarter_at")) := by
  obtain ⟨h, X, G⟩ := T.ex
  exact He.glo_ok X G (T.c.fact 8 (f := .glo "quarter_at") rfl)
theorem Txt.g_all_quarters : mg "all_quarters" = some (.ref (He.ga K "all_quarters")) := by
  obtain ⟨h, X, G⟩ := T.ex
  exact He.glo_ok X G (T.c.fact 9 (f := .glo "all_quarters") rfl)
theorem Txt.g_flipped : mg "flipped" = some (.ref (He.ga K "flipped")) := by
  obtain ⟨h, X, G⟩ := T.ex
  exact He.glo_ok X G (T.c.fact 10 (f := .glo "flipped") rfl)
theorem Txt.g_turned : mg "turned" = some (.ref (He.ga K "turned")) := by
  obtain ⟨h, X, G⟩ := T.ex
  exact He.glo_ok X G (T.c.fact 11 (f := .glo "turned") rfl)
theorem Txt.g_mirrored : mg "mirrored" = some (.ref (He.ga K "mirrored")) := by
  obtain ⟨h, X, G⟩ := T.ex
  exact He.glo_ok X G (T.c.fact 12 (f := .glo "mirrored") rfl)
theorem Txt.g__law_bag : mg "_law_bag" = some (.ref (He.ga K "_law_bag")) := by
  obtain ⟨h, X, G⟩ := T.ex
  exact He.glo_ok X G (T.c.fact 13 (f := .glo "_law_bag") rfl)
theorem Txt.g__law_pull : mg "_law_pull" = some (.ref (He.ga K "_law_pull")) := by
  obtain ⟨h, X, G⟩ := T.ex
  exact He.glo_ok X G (T.c.fact 14 (f := .glo "_law_pull") rfl)
theorem Txt.g__law_whole : mg "_law_whole" = some (.ref (He.ga K "_law_whole")) := by
  obtain ⟨h, X, G⟩ := T.ex
  exact He.glo_ok X G (T.c.fact 15 (f := .glo "_law_whole") rfl)
theorem Txt.g__law_same : mg "_law_same" = some (.ref (He.ga K "_law_same")) := by
  obtain ⟨h, X, G⟩ := T.ex
  exact He.glo_ok X G (T.c.fact 16 (f := .glo "_law_same") rfl)
theorem Txt.g__law_go : mg "_law_go" = some (.ref (He.ga K "_law_go")) := by
  obtain ⟨h, X, G⟩ := T.ex
  exact He.glo_ok X G (T.c.fact 17 (f := .glo "_law_go") rfl)
theorem Txt.g__law_name : mg "_law_name" = some (.ref (He.ga K "_law_name")) := by
  obtain ⟨h, X, G⟩ := T.ex
  exact He.glo_ok X G (T.c.fact 18 (f := .glo "_law_name") rfl)
theorem Txt.g__law_tips : mg "_law_tips" = some (.ref (He.ga K "_law_tips")) := by
  obtain ⟨h, X, G⟩ := T.ex
  exact He.glo_ok X G (T.c.fact 19 (f := .glo "_law_tips") rfl)
theorem Txt.g__law_on : mg "_law_on" = some (.ref (He.ga K "_law_on")) := by
  obtain ⟨h, X, G⟩ := T.ex
  exact He.glo_ok X G (T.c.fact 20 (f := .glo "_law_on") rfl)
theorem Txt.g__law_rim : mg "_law_rim" = some (.ref (He.ga K "_law_rim")) := by
  obtain ⟨h, X, G⟩ := T.ex
  exact He.glo_ok X G (T.c.fact 21 (f := .glo "_law_rim") rfl)
theorem Txt.g__law_all : mg "_law_all" = some (.ref (He.ga K "_law_all")) := by
  obtain ⟨h, X, G⟩ := T.ex
  exact He.glo_ok X G (T.c.fact 22 (f := .glo "_law_all") rfl)
theorem Txt.g__law_within : mg "_law_within" = some (.ref (He.ga K "_law_within")) := by
  obtain ⟨h, X, G⟩ := T.ex
  exact He.glo_ok X G (T.c.fact 23 (f := .glo "_law_within") rfl)
theorem Txt.g__law_over : mg "_law_over" = some (.ref (He.ga K "_law_over")) := by
  obtain ⟨h, X, G⟩ := T.ex
  exact He.glo_ok X G (T.c.fact 24 (f := .glo "_law_over") rfl)
theorem Txt.g__law_joined : mg "_law_joined" = some (.ref (He.ga K "_law_joined")) := by
  obtain ⟨h, X, G⟩ := T.ex
  exact He.glo_ok X G (T.c.fact 25 (f := .glo "_law_joined") rfl)
theorem Txt.g__law_slant : mg "_law_slant" = some (.ref (He.ga K "_law_slant")) := by
  obtain ⟨h, X, G⟩ := T.ex
  exact He.glo_ok X G (T.c.fact 26 (f := .glo "_law_slant") rfl)
theorem Txt.g__law_cell_pairs : mg "_law_cell_pairs" = some (.ref (He.ga K "_law_cell_pairs")) := by
  obtain ⟨h, X, G⟩ := T.ex
  exact He.glo_ok X G (T.c.fact 27 (f := .glo "_law_cell_pairs") rfl)
theorem Txt.g__law_panes : mg "_law_panes" = some (.ref (He.ga K "_law_panes")) := by
  obtain ⟨h, X, G⟩ := T.ex
  exact He.glo_ok X G (T.c.fact 28 (f := .glo "_law_panes") rfl)
theorem Txt.g__law_size : mg "_law_size" = some (.ref (He.ga K "_law_size")) := by
  obtain ⟨h, X, G⟩ := T.ex
  exact He.glo_ok X G (T.c.fact 29 (f := .glo "_law_size") rfl)
theorem Txt.g__law_some : mg "_law_some" = some (.ref (He.ga K "_law_some")) := by
  obtain ⟨h, X, G⟩ := T.ex
  exact He.glo_ok X G (T.c.fact 30 (f := .glo "_law_some") rfl)
theorem Txt.g__law_glass : mg "_law_glass" = some (.ref (He.ga K "_law_glass")) := by
  obtain ⟨h, X, G⟩ := T.ex
  exact He.glo_ok X G (T.c.fact 31 (f := .glo "_law_glass") rfl)
theorem Txt.g__law_leaded : mg "_law_leaded" = some (.ref (He.ga K "_law_leaded")) := by
  obtain ⟨h, X, G⟩ := T.ex
  exact He.glo_ok X G (T.c.fact 32 (f := .glo "_law_leaded") rfl)
theorem Txt.g__law_plan : mg "_law_plan" = some (.ref (He.ga K "_law_plan")) := by
  obtain ⟨h, X, G⟩ := T.ex
  exact He.glo_ok X G (T.c.fact 33 (f := .glo "_law_plan") rfl)
theorem Txt.g__law_spot : mg "_law_spot" = some (.ref (He.ga K "_law_spot")) := by
  obtain ⟨h, X, G⟩ := T.ex
  exact He.glo_ok X G (T.c.fact 34 (f := .glo "_law_spot") rfl)
theorem Txt.g__law_cell_of : mg "_law_cell_of" = some (.ref (He.ga K "_law_cell_of")) := by
  obtain ⟨h, X, G⟩ := T.ex
  exact He.glo_ok X G (T.c.fact 35 (f := .glo "_law_cell_of") rfl)
theorem Txt.g__law_part_of : mg "_law_part_of" = some (.ref (He.ga K "_law_part_of")) := by
  obtain ⟨h, X, G⟩ := T.ex
  exact He.glo_ok X G (T.c.fact 36 (f := .glo "_law_part_of") rfl)
theorem Txt.g__law_moved : mg "_law_moved" = some (.ref (He.ga K "_law_moved")) := by
  obtain ⟨h, X, G⟩ := T.ex
  exact He.glo_ok X G (T.c.fact 37 (f := .glo "_law_moved") rfl)
theorem Txt.g__law_said : mg "_law_said" = some (.ref (He.ga K "_law_said")) := by
  obtain ⟨h, X, G⟩ := T.ex
  exact He.glo_ok X G (T.c.fact 38 (f := .glo "_law_said") rfl)
theorem Txt.g_law : mg "law" = some (.ref (He.ga K "law")) := by
  obtain ⟨h, X, G⟩ := T.ex
  exact He.glo_ok X G (T.c.fact 39 (f := .glo "law") rfl)
theorem Txt.f_all : mg "all" = none := by
  obtain ⟨h, X, G⟩ := T.ex
  exact He.free_ok X G (T.c.fact 41 (f := .free "all") rfl)
theorem Txt.f_bool : mg "bool" = none := by
  obtain ⟨h, X, G⟩ := T.ex
  exact He.free_ok X G (T.c.fact 42 (f := .free "bool") rfl)
theorem Txt.f_enumerate : mg "enumerate" = none := by
  obtain ⟨h, X, G⟩ := T.ex
  exact He.free_ok X G (T.c.fact 43 (f := .free "enumerate") rfl)
theorem Txt.f_int : mg "int" = none := by
  obtain ⟨h, X, G⟩ := T.ex
  exact He.free_ok X G (T.c.fact 44 (f := .free "int") rfl)
theorem Txt.f_isinstance : mg "isinstance" = none := by
  obtain ⟨h, X, G⟩ := T.ex
  exact He.free_ok X G (T.c.fact 45 (f := .free "isinstance") rfl)
theorem Txt.f_len : mg "len" = none := by
  obtain ⟨h, X, G⟩ := T.ex
  exact He.free_ok X G (T.c.fact 46 (f := .free "len") rfl)
theorem Txt.f_list : mg "list" = none := by
  obtain ⟨h, X, G⟩ := T.ex
  exact He.free_ok X G (T.c.fact 47 (f := .free "list") rfl)
theorem Txt.f_max : mg "max" = none := by
  obtain ⟨h, X, G⟩ := T.ex
  exact He.free_ok X G (T.c.fact 48 (f := .free "max") rfl)
theorem Txt.f_min : mg "min" = none := by
  obtain ⟨h, X, G⟩ := T.ex
  exact He.free_ok X G (T.c.fact 49 (f := .free "min") rfl)
theorem Txt.f_range : mg "range" = none := by
  obtain ⟨h, X, G⟩ := T.ex
  exact He.free_ok X G (T.c.fact 50 (f := .free "range") rfl)
theorem Txt.f_set : mg "set" = none := by
  obtain ⟨h, X, G⟩ := T.ex
  exact He.free_ok X G (T.c.fact 51 (f := .free "set") rfl)
theorem Txt.f_sorted : mg "sorted" = none := by
  obtain ⟨h, X, G⟩ := T.ex
  exact He.free_ok X G (T.c.fact 52 (f := .free "sorted") rfl)
theorem Txt.f_str : mg "str" = none := by
  obtain ⟨h, X, G⟩ := T.ex
  exact He.free_ok X G (T.c.fact 53 (f := .free "str") rfl)
theorem Txt.f_tuple : mg "tuple" = none := by
  obtain ⟨h, X, G⟩ := T.ex
  exact He.free_ok X G (T.c.fact 54 (f := .free "tuple") rfl)
theorem Txt.x_BadTurn : PySem.W.excIn K (He.ga K "BadTurn") He.veBase "ValueError.__new__" = true := (He.exc_ok (T.c.fact 56 (f := .exc "BadTurn") rfl)).1
theorem Txt.k_BadTurn : PySem.W.keepIn K (.ref (He.ga K "BadTurn")) = true := (He.exc_ok (T.c.fact 56 (f := .exc "BadTurn") rfl)).2.1
theorem Txt.b_BadTurn : PySem.W.subIn K (.ref (He.ga K "BadTurn")) (.type "BaseException") = some true := (He.exc_ok (T.c.fact 56 (f := .exc "BadTurn") rfl)).2.2.1
theorem Txt.t_BadTurn : PySem.W.typeIn K (.ref (He.ga K "BadTurn")) = some (.type "type") := (He.exc_ok (T.c.fact 56 (f := .exc "BadTurn") rfl)).2.2.2
theorem Txt.sq_RIGHT (H : Hp) : SqT K H (He.ga K "RIGHT") [.int 1, .int 1, .int 0, .int (-1), .int (-1), .int (-1), .int 0, .int 1] := He.tupB_ok (T.at_ 0 rfl) H
theorem Txt.sq_DOWN (H : Hp) : SqT K H (He.ga K "DOWN") [.int 0, .int 1, .int 1, .int 1, .int 0, .int (-1), .int (-1), .int (-1)] := He.tupB_ok (T.at_ 1 rfl) H
theorem Txt.exm_BadTurn_LeadError : PySem.W.exmOne K (.ref (He.ga K "BadTurn")) (.ref (He.ga K "LeadError")) = some true := of_decide_eq_true (T.at_ 8 rfl)
theorem Txt.kit_BadTurn_BadTurn : PySem.W.kitOne K (.ref (He.ga K "BadTurn")) (.ref (He.ga K "BadTurn")) = some true := of_decide_eq_true (T.at_ 11 rfl)
theorem Txt.ec_BadTurn : ExcC K (He.ga K "BadTurn") := excC_of (T.at_ 13 rfl)
end
def loose0 : List PySem.Str := ["LeadError", "BadTurn", "RIGHT", "DOWN", "check_turn", "back", "step", "lead", "quarter_at", "all_quarters", "flipped", "turned", "mirrored", "_law_bag", "_law_pull", "_law_whole", "_law_same", "_law_go", "_law_name", "_law_tips", "_law_on", "_law_rim", "_law_all", "_law_within", "_law_over", "_law_joined", "_law_slant", "_law_cell_pairs", "_law_panes", "_law_size"]
def loose1 : List PySem.Str := ["_law_some", "_law_glass", "_law_leaded", "_law_plan", "_law_spot", "_law_cell_of", "_law_part_of", "_law_moved", "_law_said"]
def loose : List PySem.Str := loose0 ++ loose1
abbrev R : PySem.W.OpenRow := PySem.W.OpenLaw.row PySem.Challenge.rw_leadlight_k26_moves_of_plans
abbrev hk : PySem.W.Hook := hookR fa fn ts exB
def ob (s : PySem.W.SharedT) : He.AlX := obsR fa fn ts exB (HandSHeadRun.getT s) s.n
theorem ob_eq (s : PySem.W.SharedT) : ob s = hk.obs s.abs := obsR_eq s
theorem run0 (w : World) : ∀ os : OsState, (HandSHeadRun.endF (HandSHeadRun.stepQ (HandSHeadRun.denQ HandSHeadRun.tabQ) R.prog w) 6000 R.prog w os).map (fun s => (HandSHeadRun.looksF R.prog (PySem.W.boot_heap w.params) s.abs, HandSHeadRun.seenQ (PySem.W.view R.prog [44]) loose (PySem.importedModules R.prog.main.body) (fun s => PySem.W.xlAt (PySem.W.view R.prog [44]) [] s && PySem.W.recOk R.toRowW.records s) s.abs)) = some (true, PySem.W.openGood (PySem.W.view R.prog [44]) loose) := by
  intro os
  kernel_rfl
theorem run1 (w : World) : ∀ os : OsState, (HandSHeadRun.endF (HandSHeadRun.stepQ (HandSHeadRun.denQ HandSHeadRun.tabQ) R.prog w) 6000 R.prog w os).map (fun s => (fa.all fun f => f.ok (frR (HandSHeadRun.getT s) s.n))) = some true := by
  intro os
  kernel_rfl
theorem run2 (w : World) : ∀ os : OsState, (HandSHeadRun.endF (HandSHeadRun.stepQ (HandSHeadRun.denQ HandSHeadRun.tabQ) R.prog w) 6000 R.prog w os).map (fun s => (exB (frR (HandSHeadRun.getT s) s.n), ts.map fun t => He.dicW (frR (HandSHeadRun.getT s) s.n) (t.1 (frR (HandSHeadRun.getT s) s.n)))) = some (true, ts.map fun t => some (He.keysIn w.params t.2)) := by
  intro os
  kernel_rfl
theorem run3 (w : World) : ∀ os : OsState, (HandSHeadRun.endF (HandSHeadRun.stepQ (HandSHeadRun.denQ HandSHeadRun.tabQ) R.prog w) 6000 R.prog w os).map (fun s => fnA.all fun d => d.ok (frR (HandSHeadRun.getT s) s.n)) = some true := by
  intro os
  kernel_rfl
theorem run4 (w : World) : ∀ os : OsState, (HandSHeadRun.endF (HandSHeadRun.stepQ (HandSHeadRun.denQ HandSHeadRun.tabQ) R.prog w) 6000 R.prog w os).map (fun s => fnB.all fun d => d.ok (frR (HandSHeadRun.getT s) s.n)) = some true := by
  intro os
  kernel_rfl
theorem run5 (w : World) : ∀ os : OsState, (HandSHeadRun.endF (HandSHeadRun.stepQ (HandSHeadRun.denQ HandSHeadRun.tabQ) R.prog w) 6000 R.prog w os).map (fun s => fn.map fun d => He.fnW (frR (HandSHeadRun.getT s) s.n) d.at_) = some (fn.map He.DefD.val) := by
  intro os
  kernel_rfl
theorem run (w : World) : HandSHeadRun.RunEq R (PySem.W.view R.prog [44]) hk ob 6000 loose w := runR (r := R) (q := (PySem.W.view R.prog [44])) (M := 6000) (loose := loose) (fa := fa) (fn := fn) (fn1 := fnA) (fn2 := fnB) (ts := ts) (ex := exB) rfl w (run0 w) (run1 w) (run2 w) (run3 w) (run4 w) (run5 w)
set_option maxHeartbeats 4400000
section
variable {mg : Str → Option Value} {base : Heap} {P : Program} {w : World} {K : PySem.W.Frag}
/-! check_turn -/
def okT (t : Int) : Prop := 0 ≤ t ∧ t ≤ 7
instance (t : Int) : Decidable (okT t) := inferInstanceAs (Decidable (_ ∧ _))
def sp_check_turn (K : Fg) : Sp := fun vs H Q E => ∃ (B : Bg) (G : Hp) (t : Int), Ok K B G H ∧ vs = [.int t] ∧ (okT t → Ret K B G H Q .none) ∧ (¬ okT t → Rai K B G H E (He.ga K "BadTurn"))
abbrev N_check_turn : List Str := ["turn"]
theorem sc_check_turn : FnScope N_check_turn ["turn"] (defScope s_check_turn) := ⟨rfl, rfl, rfl, by decide +kernel, rfl, by decide +kernel, by decide +kernel⟩
theorem ok_check_turn (T : Txt K mg)  : Good P w K mg base (L2.CX P w) 1 "check_turn" ["turn"] [] (sp_check_turn K) := by
  obtain ⟨fd, F⟩ := T.c.def_ 0 (d := d_check_turn) rfl
  have b : Binds K fd ["turn"] [] := F.bindsN fun _ _ _ _ _ _ us hl => match us, hl with | [_], _ => rfl
  refine ⟨⟨fd, [], F.ok sc_check_turn (fun vs H Q E h => ?_) (fun cdv A outer s H vs Q E hr h => ?_), .nil, b⟩, T.g_check_turn, F.kp⟩
  · obtain ⟨B, G, t, e, rfl, _⟩ := h
    all_goals rfl
  · obtain ⟨B, G, t, e, rfl, q, r⟩ := h
    all_goals refine ⟨_, (pss_one (ps_if (pt_not (pt_chain op_le op_le pe_int (pv 0) pe_int)) (pss_one (ps_raise rfl (takes_of rfl rfl rfl rfl) (pmk_own PySem.F.excBase_ValueError T.x_BadTurn T.g_BadTurn T.k_BadTurn (raises_own T.b_BadTurn T.t_BadTurn) (by rfl)))) pss_nil)), ?_⟩
    refine st_if (K := K) (B := B) (eb_not (eb_test (ed_chain ed_int (ed_var rfl (.int t)) (fun _ => ed_int) rd_B0 (fun _ => rd_B0)))) e (fun c G2 H2 X => ?_) (fun c G2 H2 X => ?_)
    · refine r (fun z => ?_) G2 H2 X
      have : (decide (0 ≤ t) && decide (t ≤ 7)) = true := by rw [decide_eq_true z.1, decide_eq_true z.2]; rfl
      rw [this] at c
      exact Bool.noConfusion c
    · have z : okT t := by
        simp only [Bool.not_eq_false', Bool.and_eq_true, decide_eq_true_eq] at c
        exact c
      exact q z _ G2 H2 X .non
theorem sq_chk {B : Bg} {G H : Hp} {σ : L2.St} {D : Ends} {u : TS} {E : XK} {i : Nat} {t : Int} (hσ : σ[i]? = some (some (.int t))) (e : Ok K B G H) (k1 : okT t → ∀ G2 H2, Ext K B G H G2 H2 → u D σ H2) (k2 : ¬ okT t → Rai K B G H E (He.ga K "BadTurn")) :
    tSeq (tDrop (tCall (sp_check_turn K) [] E (tCons (tVar i) tNil))) u D σ H := ⟨.int t, hσ, B, G, t, e, rfl, fun z v G2 H2 X _ => k1 z G2 H2 X, k2⟩
/-! back -/
def sp_back (K : Fg) : Sp := fun vs H Q E => ∃ (B : Bg) (G : Hp) (t : Int), Ok K B G H ∧ vs = [.int t] ∧ (okT t → Ret K B G H Q (.int ((t + 4) % 8))) ∧ (¬ okT t → Rai K B G H E (He.ga K "BadTurn"))
abbrev N_back : List Str := ["turn"]
theorem sc_back : FnScope N_back ["turn"] (defScope s_back) := ⟨rfl, rfl, rfl, by decide +kernel, rfl, by decide +kernel, by decide +kernel⟩
theorem ok_back (T : Txt K mg) (G_check_turn : Good P w K mg base (L2.CX P w) 1 "check_turn" ["turn"] [] (sp_check_turn K)) : Good P w K mg base (L2.CX P w) 2 "back" ["turn"] [] (sp_back K) := by
  obtain ⟨fd, F⟩ := T.c.def_ 1 (d := d_back) rfl
  have b : Binds K fd ["turn"] [] := F.bindsN fun _ _ _ _ _ _ us hl => match us, hl with | [_], _ => rfl
  refine ⟨⟨fd, [], F.ok sc_back (fun vs H Q E h => ?_) (fun cdv A outer s H vs Q E hr h => ?_), .nil, b⟩, T.g_back, F.kp⟩
  · obtain ⟨B, G, t, e, rfl, _⟩ := h
    all_goals rfl
  · obtain ⟨B, G, t, e, rfl, q, r⟩ := h
    all_goals refine ⟨_, (pss_cons (ps_expr (pe_own G_check_turn (hr.mono (by decide)) (by rfl) (passes_call (takes_of rfl rfl rfl rfl) (fun _ _ _ _ h => h)) (pa_cons (pv 0) pa_nil))) (pss_one (ps_ret (pe_op op_mod (pe_op op_add (pv 0) pe_int) pe_int)))), ?_⟩
    refine sq_chk rfl e (fun z G2 H2 X => ?_) r
    exact st_ret (ed_op (ed_op (ed_var rfl (.int t)) ed_int rd_I0) ed_int (rd_I (by decide))) X.ok ((q z).mono X)
theorem ed_back {B : Bg} {G : Hp} {σ : L2.St} {tr : TA} {E : XK} {t : Int} (ha : EvA K B tr σ G [.int t]) (ht : okT t) : EvD K B (tCall (sp_back K) [] E tr) σ G (.int ((t + 4) % 8)) :=
  ed_call ha fun vs G2 H2 _ e dv Q q => ⟨B, G2, t, e, by rw [List.append_nil]; exact dpAll_intsV (bs := [t]) dv, fun _ => q, fun n => absurd ht n⟩
/-! step -/
def dx (t : Int) : Int := [1, 1, 0, -1, -1, -1, 0, 1].getD t.toNat 0
def dy (t : Int) : Int := [0, 1, 1, 1, 0, -1, -1, -1].getD t.toNat 0
theorem lt8 {t : Int} (h : okT t) : ∃ n : Nat, t = (n : Int) ∧ n < 8 := by
  obtain ⟨h1, h2⟩ := h
  exact ⟨t.toNat, by omega, by omega⟩
theorem at_dx {t : Int} (h : okT t) : atI ([1, 1, 0, -1, -1, -1, 0, 1].map PyData.int) t = some (.int (dx t)) := by
  obtain ⟨n, rfl, hn⟩ := lt8 h
  refine atI_nat ?_
  match n, hn with
  | 0, _ | 1, _ | 2, _ | 3, _ | 4, _ | 5, _ | 6, _ | 7, _ => rfl
theorem at_dy {t : Int} (h : okT t) : atI ([0, 1, 1, 1, 0, -1, -1, -1].map PyData.int) t = some (.int (dy t)) := by
  obtain ⟨n, rfl, hn⟩ := lt8 h
  refine atI_nat ?_
  match n, hn with
  | 0, _ | 1, _ | 2, _ | 3, _ | 4, _ | 5, _ | 6, _ | 7, _ => rfl
theorem dx_small {t : Int} (h : okT t) : -1 ≤ dx t ∧ dx t ≤ 1 := by
  obtain ⟨n, rfl, hn⟩ := lt8 h
  match n, hn with
  | 0, _ | 1, _ | 2, _ | 3, _ | 4, _ | 5, _ | 6, _ | 7, _ => decide
theorem dy_small {t : Int} (h : okT t) : -1 ≤ dy t ∧ dy t ≤ 1 := by
  obtain ⟨n, rfl, hn⟩ := lt8 h
  match n, hn with
  | 0, _ | 1, _ | 2, _ | 3, _ | 4, _ | 5, _ | 6, _ | 7, _ => decide
theorem cm {i j : Int} (h : -1 ≤ j ∧ j ≤ 1) : CMul i j := .inr ⟨by omega, by omega⟩
def goD (x y t m : Int) : PyData := .tuple [.int (x + m * dx t), .int (y + m * dy t)]
def sp_step (K : Fg) : Sp := fun vs H Q E => ∃ (B : Bg) (G : Hp) (x y t m : Int), Ok K B G H ∧ vs = [.int x, .int y, .int t, .int m] ∧ (okT t → Ret K B G H Q (goD x y t m)) ∧ (¬ okT t → Rai K B G H E (He.ga K "BadTurn"))
abbrev N_step : List Str := ["x", "y", "turn", "many"]
theorem sc_step : FnScope N_step ["x", "y", "turn", "many"] (defScope s_step) := ⟨rfl, rfl, rfl, by decide +kernel, rfl, by decide +kernel, by decide +kernel⟩
theorem fn_step (T : Txt K mg) (G_check_turn : Good P w K mg base (L2.CX P w) 1 "check_turn" ["turn"] [] (sp_check_turn K)) {fd : FuncData} (F : FunD K "step" "step" (defArgs s_step) (defBody s_step) (defScope s_step) [.int 1] [] (He.ga K "step") fd) :
    FnOk P w K mg base (L2.CX P w) 2 (He.ga K "step") fd ["x", "y", "turn", "many"] (sp_step K) := by
  refine F.ok sc_step (fun vs H Q E h => ?_) (fun cdv A outer s H vs Q E hr h => ?_)
  · obtain ⟨B, G, x, y, t, m, e, rfl, _⟩ := h
    rfl
  · obtain ⟨B, G, x, y, t, m, e, rfl, q, r⟩ := h
    refine ⟨_, (pss_cons (ps_expr (pe_own G_check_turn (hr.mono (by decide)) (by rfl) (passes_call (takes_of rfl rfl rfl rfl) (fun _ _ _ _ h => h)) (pa_cons (pv 2) pa_nil))) (pss_one (ps_ret (pe_tup (pa_cons (pe_op op_add (pv 0) (pe_op op_mul (pv 3) (pe_ix (r := rIxT K) ix_tup (pe_glob (v := .ref (He.ga K "RIGHT")) (by rfl) T.g_RIGHT rfl) (pv 2) (fun _ _ => rfl)))) (pa_cons (pe_op op_add (pv 1) (pe_op op_mul (pv 3) (pe_ix (r := rIxT K) ix_tup (pe_glob (v := .ref (He.ga K "DOWN")) (by rfl) T.g_DOWN rfl) (pv 2) (fun _ _ => rfl)))) pa_nil)))))), ?_⟩
    refine sq_chk rfl e (fun z G2 H2 X => ?_) r
    refine st_ret (K := K) (B := B) (d := goD x y t m) (ed_tup (ea_cons (ed_op (ed_var rfl (.int x)) (ed_op (ed_var rfl (.int m)) (ed_op (ed_c (.tup (T.sq_RIGHT G2) (dpAll_ints [1, 1, 0, -1, -1, -1, 0, 1]))) (ed_var rfl (.int t)) (rd_ixT (at_dx z))) (rd_I (cm (dx_small z)))) rd_I0)
      (ea_cons (ed_op (ed_var rfl (.int y)) (ed_op (ed_var rfl (.int m)) (ed_op (ed_c (.tup (T.sq_DOWN G2) (dpAll_ints [0, 1, 1, 1, 0, -1, -1, -1]))) (ed_var rfl (.int t)) (rd_ixT (at_dy z))) (rd_I (cm (dy_small z)))) rd_I0) ea_nil)) (Nat.le_of_ble_eq_true rfl)) X.ok ((q z).mono X)
theorem fun_step (T : Txt K mg) : ∃ fd, FunD K "step" "step" (defArgs s_step) (defBody s_step) (defScope s_step) [.int 1] [] (He.ga K "step") fd := T.c.def_ 2 (d := d_step) rfl
theorem ok_step (T : Txt K mg) (G_check_turn : Good P w K mg base (L2.CX P w) 1 "check_turn" ["turn"] [] (sp_check_turn K)) : Good P w K mg base (L2.CX P w) 2 "step" ["x", "y", "turn", "many"] [] (sp_step K) := by
  obtain ⟨fd, F⟩ := fun_step T
  obtain ⟨ds, r, b⟩ := F.binds1 (ps := ["x", "y", "turn", "many"]) 4 1 (by simp) rfl fun T' kV doc pm an cdv ct us its l1 l2 => match us, its, l1, l2 with
    | [_, _, _, _], [_], _, _ => ⟨_, rfl, rfl⟩
  exact ⟨⟨fd, ds, fn_step T G_check_turn F, r, b⟩, T.g_step, F.kp⟩
theorem ok_step_d1 (T : Txt K mg) (G_check_turn : Good P w K mg base (L2.CX P w) 1 "check_turn" ["turn"] [] (sp_check_turn K)) : Good P w K mg base (L2.CX P w) 2 "step" ["x", "y", "turn", "many"] [.int 1] (sp_step K) := by
  obtain ⟨fd, F⟩ := fun_step T
  obtain ⟨ds, r, b⟩ := F.binds1 (ps := ["x", "y", "turn", "many"]) 3 0 (by simp) rfl fun T' kV doc pm an cdv ct us its l1 l2 => match us, its, l1, l2 with
    | [_, _, _], [_], _, _ => ⟨_, rfl, rfl⟩
  exact ⟨⟨fd, ds, fn_step T G_check_turn F, r, b⟩, T.g_step, F.kp⟩
theorem ok_step_many (T : Txt K mg) (G_check_turn : Good P w K mg base (L2.CX P w) 1 "check_turn" ["turn"] [] (sp_check_turn K)) : GoodK P w K mg base (L2.CX P w) 2 "step" ["x", "y", "turn", "many"] 3 ["many"] (fun vs zs => vs ++ zs) (sp_step K) := by
  obtain ⟨fd, F⟩ := fun_step T
  obtain ⟨its, b⟩ := F.kbindsD (ps := ["x", "y", "turn", "many"]) 3 ["many"] (fun vs _ zs => vs ++ zs) (by simp) (fun r1 _ r3 => r1.append r3) fun T' kV doc pm an cdv ct us its ws l1 l2 l3 => match us, its, ws, l1, l2, l3 with
    | [_, _, _], [_], [_], _, _, _ => ⟨_, rfl, rfl⟩
  exact ⟨⟨fd, _, fn_step T G_check_turn F, b⟩, T.g_step, F.kp⟩
theorem ok_step_turn_y_x (T : Txt K mg) (G_check_turn : Good P w K mg base (L2.CX P w) 1 "check_turn" ["turn"] [] (sp_check_turn K)) : GoodK P w K mg base (L2.CX P w) 2 "step" ["x", "y", "turn", "many"] 0 ["turn", "y", "x"] (fun vs zs => zs.reverse ++ [.int 1]) (sp_step K) := by
  obtain ⟨fd, F⟩ := fun_step T
  obtain ⟨its, b⟩ := F.kbindsD (ps := ["x", "y", "turn", "many"]) 0 ["turn", "y", "x"] (fun _ ds zs => zs.reverse ++ ds) (by simp) (fun _ r2 r3 => r3.reverse.append r2) fun T' kV doc pm an cdv ct us its ws l1 l2 l3 => match us, its, ws, l1, l2, l3 with
    | [], [_], [_, _, _], _, _, _ => ⟨_, rfl, rfl⟩
  exact ⟨⟨fd, _, fn_step T G_check_turn F, b⟩, T.g_step, F.kp⟩
theorem ed_step {B : Bg} {G : Hp} {σ : L2.St} {tr : TA} {E : XK} {x y t : Int} (ha : EvA K B tr σ G [.int x, .int y, .int t]) (ht : okT t) : EvD K B (tCall (sp_step K) [.int 1] E tr) σ G (goD x y t 1) :=
  ed_call ha fun vs G2 H2 _ e dv Q q => ⟨B, G2, x, y, t, 1, e, by rw [dpAll_intsV (bs := [x, y, t]) dv]; rfl, fun _ => q, fun n => absurd ht n⟩
/-! lead -/
def leadD (x y t : Int) : PyData := if t < 4 then .tuple [.int x, .int y, .int t] else .tuple [.int (x + 1 * dx t), .int (y + 1 * dy t), .int ((t + 4) % 8)]
/-- the name of a lead -/
def leadN (x y t : Int) : List Int := if t < 4 then [x, y, t] else [x + 1 * dx t, y + 1 * dy t, (t + 4) % 8]
theorem leadD_enc (x y t : Int) : leadD x y t = encT (leadN x y t) := by
  unfold leadD leadN
  split <;> rfl
def sp_lead (K : Fg) : Sp := fun vs H Q E => ∃ (B : Bg) (G : Hp) (x y t : Int), Ok K B G H ∧ vs = [.int x, .int y, .int t] ∧ (okT t → Ret K B G H Q (leadD x y t)) ∧ (¬ okT t → Rai K B G H E (He.ga K "BadTurn"))
abbrev N_lead : List Str := ["x", "y", "turn", "far_x", "far_y"]
theorem sc_lead : FnScope N_lead ["x", "y", "turn"] (defScope s_lead) := ⟨rfl, rfl, rfl, by decide +kernel, rfl, by decide +kernel, by decide +kernel⟩
theorem ok_lead (T : Txt K mg) (G_check_turn : Good P w K mg base (L2.CX P w) 1 "check_turn" ["turn"] [] (sp_check_turn K)) (G_step_d1 : Good P w K mg base (L2.CX P w) 2 "step" ["x", "y", "turn", "many"] [.int 1] (sp_step K)) (G_back : Good P w K mg base (L2.CX P w) 2 "back" ["turn"] [] (sp_back K)) : Good P w K mg base (L2.CX P w) 3 "lead" ["x", "y", "turn"] [] (sp_lead K) := by
  obtain ⟨fd, F⟩ := T.c.def_ 3 (d := d_lead) rfl
  have b : Binds K fd ["x", "y", "turn"] [] := F.bindsN fun _ _ _ _ _ _ us hl => match us, hl with | [_, _, _], _ => rfl
  refine ⟨⟨fd, [], F.ok sc_lead (fun vs H Q E h => ?_) (fun cdv A outer s H vs Q E hr h => ?_), .nil, b⟩, T.g_lead, F.kp⟩
  · obtain ⟨B, G, x, y, t, e, rfl, _⟩ := h
    all_goals rfl
  · obtain ⟨B, G, x, y, t, e, rfl, q, r⟩ := h
    all_goals refine ⟨_, (pss_cons (ps_expr (pe_own G_check_turn (hr.mono (by decide)) (by rfl) (passes_call (takes_of rfl rfl rfl rfl) (fun _ _ _ _ h => h)) (pa_cons (pv 2) pa_nil))) (pss_cons (ps_if (pt_cmpR op_lt (pv 2) pe_int (nomark _)) (pss_one (ps_ret (pe_tup (pa_cons (pv 0) (pa_cons (pv 1) (pa_cons (pv 2) pa_nil)))))) pss_nil) (pss_cons (ps_asg (pe_own G_step_d1 (hr.mono (by decide)) (by rfl) (passes_call (takes_of rfl rfl rfl rfl) (fun _ _ _ _ h => h)) (pa_cons (pv 0) (pa_cons (pv 1) (pa_cons (pv 2) pa_nil)))) (pg_tup rfl (pgs_cons (by exact (pg_name (i := 3) sc_lead.nd rfl (Or.inl rfl))) (pgs_cons (by exact (pg_name (i := 4) sc_lead.nd rfl (Or.inl rfl))) pgs_nil)))) (pss_one (ps_ret (pe_tup (pa_cons (pv 3) (pa_cons (pv 4) (pa_cons (pe_own G_back (hr.mono (by decide)) (by rfl) (passes_call (takes_of rfl rfl rfl rfl) (fun _ _ _ _ h => h)) (pa_cons (pv 2) pa_nil)) pa_nil))))))))), ?_⟩
    refine sq_chk rfl e (fun z G2 H2 X => ?_) r
    replace q := (q z).mono X
    unfold leadD at q
    refine sq_if (eb_test (ed_op (ed_var rfl (.int t)) ed_int rd_B0)) X.ok (fun c G3 H3 X3 => ?_) (fun c G3 H3 X3 => ?_)
    · rw [if_pos (of_decide_eq_true c)] at q
      exact st_ret (ed_tup (ea_cons (ed_var rfl (.int x)) (ea_cons (ed_var rfl (.int y)) (ea_cons (ed_var rfl (.int t)) ea_nil))) (Nat.le_of_ble_eq_true rfl)) X3.ok (q.mono X3)
    · rw [if_neg (of_decide_eq_false c)] at q
      refine sq_unpack (ed_step (ea_cons (ed_var rfl (.int x)) (ea_cons (ed_var rfl (.int y)) (ea_cons (ed_var rfl (.int t)) ea_nil))) z) X3.ok rfl (fun vs G4 H4 X4 dv => ?_)
      obtain rfl := dpAll_intsV (bs := [x + 1 * dx t, y + 1 * dy t]) dv
      refine ⟨_, _, rfl, _, _, rfl, rfl, ?_⟩
      exact st_ret (ed_tup (ea_cons (ed_var rfl (.int _)) (ea_cons (ed_var rfl (.int _)) (ea_cons (ed_back (ea_cons (ed_var rfl (.int t)) ea_nil) z) ea_nil))) (Nat.le_of_ble_eq_true rfl)) X4.ok ((q.mono X3).mono X4)
theorem ed_lead {B : Bg} {G : Hp} {σ : L2.St} {tr : TA} {E : XK} {x y t : Int} (ha : EvA K B tr σ G [.int x, .int y, .int t]) (ht : okT t) : EvD K B (tCall (sp_lead K) [] E tr) σ G (leadD x y t) :=
  ed_call ha fun vs G2 H2 _ e dv Q q => ⟨B, G2, x, y, t, e, by rw [List.append_nil]; exact dpAll_intsV (bs := [x, y, t]) dv, fun _ => q, fun n => absurd ht n⟩
/-! quarter_at -/
def qAt (w x y p : Int) : Int := 4 * (y * w + x) + p
def sp_quarter_at (K : Fg) : Sp := fun vs H Q E => ∃ (B : Bg) (G : Hp) (v : V) (w h : Int) (L g : PyData) (x y p : Int), Ok K B G H ∧ vs = [v, .int x, .int y, .int p] ∧ Dp K G v (.tuple [.int w, .int h, L, g]) ∧ (1 ≤ w ∧ w ≤ 9) ∧ Ret K B G H Q (.int (qAt w x y p))
abbrev N_quarter_at : List Str := ["plan", "x", "y", "part"]
theorem sc_quarter_at : FnScope N_quarter_at ["plan", "x", "y", "part"] (defScope s_quarter_at) := ⟨rfl, rfl, rfl, by decide +kernel, rfl, by decide +kernel, by decide +kernel⟩
theorem ok_quarter_at (T : Txt K mg)  : Good P w K mg base (L2.CX P w) 1 "quarter_at" ["plan", "x", "y", "part"] [] (sp_quarter_at K) := by
  obtain ⟨fd, F⟩ := T.c.def_ 4 (d := d_quarter_at) rfl
  have b : Binds K fd ["plan", "x", "y", "part"] [] := F.bindsN fun _ _ _ _ _ _ us hl => match us, hl with | [_, _, _, _], _ => rfl
  refine ⟨⟨fd, [], F.ok sc_quarter_at (fun vs H Q E h => ?_) (fun cdv A outer s H vs Q E hr h => ?_), .nil, b⟩, T.g_quarter_at, F.kp⟩
  · obtain ⟨B, G, v, w, h, L, g, x, y, p, e, rfl, _⟩ := h
    all_goals rfl
  · obtain ⟨B, G, v, wd, ht, L, g, x, y, p, e, rfl, dv, hw, q⟩ := h
    all_goals refine ⟨_, PSs.nox (pss_one (ps_ret (pe_op op_add (pe_op op_mul pe_int (pe_op op_add (pe_op op_mul (pv 2) (pe_ix (r := rIxT K) ix_tup (pv 0) pe_int (fun _ _ => rfl))) (pv 1))) (pv 3)))), ?_⟩
    exact st_ret (ed_op (ed_op ed_int (ed_op (ed_op (ed_var rfl (.int y)) (ed_op (ed_var rfl dv) ed_int (rd_ixT (i := 0) rfl)) (rd_I (.inr ⟨by omega, by omega⟩))) (ed_var rfl (.int x)) rd_I0) (rd_I (.inl (by decide)))) (ed_var rfl (.int p)) rd_I0) e q
theorem ed_qat {B : Bg} {G : Hp} {σ : L2.St} {tr : TA} {E : XK} {wd ht x y p : Int} {L g : PyData} (ha : EvA K B tr σ G [.tuple [.int wd, .int ht, L, g], .int x, .int y, .int p]) (hw : 1 ≤ wd ∧ wd ≤ 9) : EvD K B (tCall (sp_quarter_at K) [] E tr) σ G (.int (qAt wd x y p)) :=
  ed_call ha fun vs G2 H2 _ e dv Q q => by
    cases dv with
    | cons h0 a =>
      obtain rfl := dpAll_intsV (bs := [x, y, p]) a
      exact ⟨B, G2, _, wd, ht, L, g, x, y, p, e, rfl, h0, hw, q⟩
/-! all_quarters -/
/-! no item twice -/
theorem fm_congr {α β : Type} {f g : α → List β} {l : List α} (h : ∀ a ∈ l, f a = g a) : l.flatMap f = l.flatMap g := by
  rw [List.flatMap_def, List.flatMap_def, List.map_congr_left h]
/-! plans that are moved -/
def quB (w h : Nat) : List (List Int) := (List.range h).flatMap fun y : Nat => (List.range w).flatMap fun x : Nat => (List.range 4).flatMap fun p : Nat => [[(x : Int), (y : Int), (p : Int)]]
theorem quB_mem {w h : Nat} {l : List Int} : l ∈ quB w h → ∃ x y p : Nat, l = [(x : Int), (y : Int), (p : Int)] ∧ x < w ∧ y < h ∧ p < 4 := fun hl => by
  obtain ⟨y, hy, hl⟩ := List.mem_flatMap.mp hl
  obtain ⟨x, hx, hl⟩ := List.mem_flatMap.mp hl
  obtain ⟨p, hp, hl⟩ := List.mem_flatMap.mp hl
  exact ⟨x, y, p, mem_1 hl, List.mem_range.mp hx, List.mem_range.mp hy, List.mem_range.mp hp⟩
theorem quB_tri {w h : Nat} : ∀ l ∈ quB w h, ∃ x y p : Int, l = [x, y, p] := fun l hl => by
  obtain ⟨x, y, p, e, _⟩ := quB_mem hl
  exact ⟨_, _, _, e⟩
theorem range_mul {α : Type} (f : Nat → α) (n : Nat) : ∀ m, (List.range (m * n)).map f = (List.range m).flatMap fun i => (List.range n).map fun j => f (i * n + j)
  | 0 => by rw [Nat.zero_mul]; rfl
  | m + 1 => by
    rw [Nat.succ_mul, List.range_add, List.map_append, range_mul f n m, List.range_succ, List.flatMap_append, List.map_map]
    congr 1
    exact (List.append_nil _).symm
/-- the quarters by their numbers -/
def cellQ (w : Nat) (k : Nat) : List Int := [((k / 4 % w : Nat) : Int), ((k / 4 / w : Nat) : Int), ((k % 4 : Nat) : Int)]
theorem quB_range (w h : Nat) : quB w h = (List.range (4 * w * h)).map (cellQ w) := by
  have e : 4 * w * h = h * (w * 4) := by rw [Nat.mul_comm, Nat.mul_comm 4 w]
  rw [e, range_mul]
  unfold quB
  refine fm_congr fun y hy => ?_
  rw [range_mul]
  refine fm_congr fun x hx => ?_
  rw [List.map_eq_flatMap]
  refine fm_congr fun p hp => ?_
  have hx := List.mem_range.mp hx
  have hp := List.mem_range.mp hp
  have e1 : (y * (w * 4) + (x * 4 + p)) / 4 = y * w + x := by
    rw [← Nat.mul_assoc]
    omega
  have e2 : (y * (w * 4) + (x * 4 + p)) % 4 = p := by
    rw [← Nat.mul_assoc]
    omega
  have e3 : (y * w + x) % w = x := by
    rw [Nat.mul_add_mod_self_right]
    exact Nat.mod_eq_of_lt hx
  have e4 : (y * w + x) / w = y := by
    rw [Nat.add_comm, Nat.add_mul_div_right _ _ (by omega), Nat.div_eq_of_lt hx, Nat.zero_add]
  unfold cellQ
  rw [e1, e2, e3, e4]
theorem quB_len (w h : Nat) : (quB w h).length = 4 * w * h := by
  rw [quB_range, List.length_map, List.length_range]
theorem n400 {w h : Nat} (hw : w ≤ 9) (hh : h ≤ 9) : 4 * w * h ≤ 400 := Nat.le_trans (Nat.mul_le_mul (Nat.mul_le_mul_left 4 hw) hh) (by decide)
theorem q_lt {w h : Nat} {x y p : Int} (hx : 0 ≤ x ∧ x < (w : Int)) (hy : 0 ≤ y ∧ y < (h : Int)) (hp : 0 ≤ p ∧ p < 4) : 0 ≤ qAt w x y p ∧ (qAt w x y p).toNat < 4 * w * h := by
  obtain ⟨X, rfl⟩ := Int.eq_ofNat_of_zero_le hx.1
  obtain ⟨Y, rfl⟩ := Int.eq_ofNat_of_zero_le hy.1
  obtain ⟨P, rfl⟩ := Int.eq_ofNat_of_zero_le hp.1
  have e : qAt w (X : Int) (Y : Int) (P : Int) = ((4 * (Y * w + X) + P : Nat) : Int) := by
    unfold qAt
    push_cast
    rfl
  rw [e, Int.toNat_natCast]
  refine (⟨Int.natCast_nonneg _, ?_⟩)
  have h1 : (Y + 1) * w ≤ h * w := Nat.mul_le_mul_right w (by omega)
  rw [Nat.succ_mul] at h1
  have h2 : 4 * w * h = 4 * (h * w) := by rw [Nat.mul_assoc, Nat.mul_comm w h]
  omega
structure MovOk (w h : Nat) (ls : List (List Int)) (gl : List Int) : Prop where
  w9 : 1 ≤ w ∧ w ≤ 9
  h9 : 1 ≤ h ∧ h ≤ 9
  ln : ls.length ≤ 1000
  tri : ∀ l ∈ ls, ∃ x y t : Int, l = [x, y, t] ∧ 0 ≤ t ∧ t ≤ 3
  gn : gl.length = 4 * w * h
def flipN (w : Nat) : List Int → List Int
  | [x, y, t] => leadN ((w : Int) - x) y (4 - t)
  | _ => []
def turnN (h : Nat) : List Int → List Int
  | [x, y, t] => leadN ((h : Int) - y) x (t + 2)
  | _ => []
def flipF (w : Nat) (gl : List Int) : List Int → Int
  | [x, y, p] => gl.getD (qAt w ((w : Int) - 1 - x) y ((4 - p) % 4)).toNat 0
  | _ => 0
def turnF (w h : Nat) (gl : List Int) : List Int → Int
  | [x, y, p] => gl.getD (qAt w y ((h : Int) - 1 - x) ((p + 3) % 4)).toNat 0
  | _ => 0
def flipL (w : Nat) (ls : List (List Int)) : List (List Int) := srtL (ls.map (flipN w))
def turnL (h : Nat) (ls : List (List Int)) : List (List Int) := srtL (ls.map (turnN h))
def flipG (w h : Nat) (gl : List Int) : List Int := (quB w h).map (flipF w gl)
def turnG (w h : Nat) (gl : List Int) : List Int := (quB h w).map (turnF w h gl)
theorem leadN_tri {x y t : Int} (ht : okT t) : ∃ a b c : Int, leadN x y t = [a, b, c] ∧ 0 ≤ c ∧ c ≤ 3 := by
  obtain ⟨h0, h7⟩ := ht
  unfold leadN
  split
  · exact ⟨_, _, _, rfl, h0, by omega⟩
  · exact ⟨_, _, _, rfl, by omega, by omega⟩
theorem flip_ok {w h : Nat} {ls : List (List Int)} {gl : List Int} (m : MovOk w h ls gl) : MovOk w h (flipL w ls) (flipG w h gl) where
  w9 := m.w9
  h9 := m.h9
  ln := by
    unfold flipL
    rw [(srtL_perm _).length_eq, List.length_map]
    exact m.ln
  tri := fun l hl => by
    unfold flipL at hl
    rw [(srtL_perm _).mem_iff] at hl
    obtain ⟨k, hk, rfl⟩ := List.mem_map.mp hl
    obtain ⟨x, y, t, rfl, h0, h3⟩ := m.tri k hk
    exact leadN_tri ⟨by omega, by omega⟩
  gn := by
    unfold flipG
    rw [List.length_map]
    exact quB_len _ _
theorem turn_ok {w h : Nat} {ls : List (List Int)} {gl : List Int} (m : MovOk w h ls gl) : MovOk h w (turnL h ls) (turnG w h gl) where
  w9 := m.h9
  h9 := m.w9
  ln := by
    unfold turnL
    rw [(srtL_perm _).length_eq, List.length_map]
    exact m.ln
  tri := fun l hl => by
    unfold turnL at hl
    rw [(srtL_perm _).mem_iff] at hl
    obtain ⟨k, hk, rfl⟩ := List.mem_map.mp hl
    obtain ⟨x, y, t, rfl, h0, h3⟩ := m.tri k hk
    exact leadN_tri ⟨by omega, by omega⟩
  gn := by
    unfold turnG
    rw [List.length_map]
    exact quB_len _ _
def movD (w h : Nat) (ls : List (List Int)) (gl : List Int) : PyData := .tuple [.int (w : Int), .int (h : Int), .tuple (ls.map encT), encT gl]
def sp_all_quarters (K : Fg) : Sp := fun vs H Q E => ∃ (B : Bg) (G : Hp) (wn hn : Nat), Ok K B G H ∧ vs = [.int (wn : Int), .int (hn : Int)] ∧ wn ≤ 9 ∧ hn ≤ 9 ∧ RetF K B G H Q ((quB wn hn).map encT)
theorem quB_enc (w h : Nat) : ((List.range h).flatMap fun y : Nat => ((List.range w).flatMap fun x : Nat => ((List.range 4).flatMap fun p : Nat => [encT [(x : Int), (y : Int), (p : Int)]]))) = (quB w h).map encT := by
  unfold quB
  simp only [List.map_flatMap]
  rfl
abbrev N_all_quarters : List Str := ["width", "height", "y", "x", "part"]
theorem sc_all_quarters : FnScope N_all_quarters ["width", "height"] (defScope s_all_quarters) := ⟨rfl, rfl, rfl, by decide +kernel, rfl, by decide +kernel, by decide +kernel⟩
theorem ok_all_quarters (T : Txt K mg)  : Good P w K mg base (L2.CX P w) 1 "all_quarters" ["width", "height"] [] (sp_all_quarters K) := by
  obtain ⟨fd, F⟩ := T.c.def_ 5 (d := d_all_quarters) rfl
  have b : Binds K fd ["width", "height"] [] := F.bindsN fun _ _ _ _ _ _ us hl => match us, hl with | [_, _], _ => rfl
  refine ⟨⟨fd, [], F.ok sc_all_quarters (fun vs H Q E h => ?_) (fun cdv A outer s H vs Q E hr h => ?_), .nil, b⟩, T.g_all_quarters, F.kp⟩
  · obtain ⟨B, G, w, h, e, rfl, _⟩ := h
    all_goals rfl
  · obtain ⟨B, G, wn, hn, e, rfl, hw, hh, q⟩ := h
    all_goals refine ⟨_, PSs.nox (pss_one (ps_ret (pe_lcB (own := [("y", 2), ("x", 3), ("part", 4)]) (vs' := [3, 4]) (g := gName 2) rfl sc_all_quarters.nd (pi_range1 (by rfl) T.f_range (pa_cons (pv 1) pa_nil)) (blkOk_by (own := [("y", 2), ("x", 3), ("part", 4)]) (N := N_all_quarters) (sc := defScope s_all_quarters) (by decide +kernel)) (by decide) (fun _ _ _ _ _ => (pg_name (i := 2) sc_all_quarters.nd rfl (Or.inl rfl))) (fun _ _ _ _ _ => pts_nil) (fun _ _ _ _ _ => (pb_for (vs := [3, 4]) (vs' := [4]) (g := gName 3) rfl rfl rfl (by exact (pi_range1 (by rfl) T.f_range (pa_cons (pv 0) pa_nil))) (pg_name (i := 3) sc_all_quarters.nd rfl (Or.inl rfl)) pts_nil (by decide) (pb_for (vs := [4]) (vs' := []) (g := gName 4) rfl rfl rfl (by exact (pi_range1 (by rfl) T.f_range (pa_cons pe_int pa_nil))) (pg_name (i := 4) sc_all_quarters.nd rfl (Or.inl rfl)) pts_nil (by decide) (pb_elt rfl rfl (pe_tup (pa_cons (pv 3) (pa_cons (pv 2) (pa_cons (pv 4) pa_nil))))))))))), ?_⟩
    have ql := quB_len wn hn
    have q4 := n400 hw hh
    refine st_retF (ed_isF (ef_lcBR (n := hn) (b := fun _ => true) (f := fun y : Nat => (List.range wn).flatMap fun x : Nat => (List.range 4).flatMap fun p : Nat => [encT [(x : Int), (y : Int), (p : Int)]]) (ea_cons (ed_var rfl (.int (hn : Int))) ea_nil) (by decide) (fun _ _ => eb_yes) (fun y hy _ => ?_) (fun _ _ c => by cases c) (by omega) (by rw [quB_enc, List.length_map]; omega)) (quB_enc wn hn)) e q
    refine bd_R (n := wn) (b := fun _ => true) (f := fun x : Nat => (List.range 4).flatMap fun p : Nat => [encT [(x : Int), (y : Int), (p : Int)]]) (ea_cons (ed_var rfl (.int (wn : Int))) ea_nil) (by decide) (fun _ _ => eb_yes) (fun x hx _ => ?_) (fun _ _ c => by cases c) (by omega)
    refine bd_R (n := 4) (b := fun _ => true) (f := fun p : Nat => [encT [(x : Int), (y : Int), (p : Int)]]) (ea_cons ed_int ea_nil) (by decide) (fun _ _ => eb_yes) (fun p hp _ => ?_) (fun _ _ c => by cases c) (by decide)
    exact bd_E (ed_tup (ea_cons (ed_var rfl (.int _)) (ea_cons (ed_var rfl (.int _)) (ea_cons (ed_var rfl (.int _)) ea_nil))) (Nat.le_of_ble_eq_true rfl))
theorem ef_all_quarters {B : Bg} {G : Hp} {σ : L2.St} {tr : TA} {E : XK} {wn hn : Nat} (ha : EvA K B tr σ G [.int (wn : Int), .int (hn : Int)]) (hw : wn ≤ 9) (hh : hn ≤ 9) : EvF K B (tCall (sp_all_quarters K) [] E tr) σ G ((quB wn hn).map encT) :=
  ef_call ha fun vs G2 H2 _ e dv Q q => ⟨B, G2, wn, hn, e, by rw [List.append_nil]; exact dpAll_intsV (bs := [(wn : Int), (hn : Int)]) dv, hw, hh, q⟩
/-! flipped -/
theorem at_gl {gl : List Int} {i : Int} (h0 : 0 ≤ i) (h1 : i.toNat < gl.length) : atI (gl.map PyData.int) i = some (.int (gl.getD i.toNat 0)) := by
  obtain ⟨n, rfl⟩ := (Int.eq_ofNat_of_zero_le h0)
  refine atI_nat ?_
  rw [Int.toNat_natCast] at h1
  rw [List.getElem?_map, List.getD_eq_getElem?_getD, Int.toNat_natCast, List.getElem?_eq_getElem h1]
  rfl
theorem fm_some {α β : Type} (f : α → β) : ∀ l : List α, l.filterMap (fun k => some (f k)) = l.map f
  | [] => rfl
  | a :: l => congrArg (f a :: ·) (fm_some f l)
theorem lead_ne {x y t : Int} : leadN x y t ≠ [] := by
  unfold leadN
  split <;> exact List.cons_ne_nil _ _
def sp_flipped (K : Fg) : Sp := fun vs H Q E => ∃ (B : Bg) (G : Hp) (v : V) (wn hn : Nat) (ls : List (List Int)) (gl : List Int), Ok K B G H ∧ vs = [v] ∧ Dp K G v (movD wn hn ls gl) ∧ MovOk wn hn ls gl ∧ Ret K B G H Q (movD wn hn (flipL wn ls) (flipG wn hn gl))
abbrev N_flipped : List Str := ["plan", "width", "height", "within", "glass", "names", "colours", "x", "y", "turn", "part"]
theorem sc_flipped : FnScope N_flipped ["plan"] (defScope s_flipped) := ⟨rfl, rfl, rfl, by decide +kernel, rfl, by decide +kernel, by decide +kernel⟩
theorem ok_flipped (T : Txt K mg) (G_lead : Good P w K mg base (L2.CX P w) 3 "lead" ["x", "y", "turn"] [] (sp_lead K)) (G_all_quarters : Good P w K mg base (L2.CX P w) 1 "all_quarters" ["width", "height"] [] (sp_all_quarters K)) (G_quarter_at : Good P w K mg base (L2.CX P w) 1 "quarter_at" ["plan", "x", "y", "part"] [] (sp_quarter_at K)) : Good P w K mg base (L2.CX P w) 4 "flipped" ["plan"] [] (sp_flipped K) := by
  obtain ⟨fd, F⟩ := T.c.def_ 6 (d := d_flipped) rfl
  have b : Binds K fd ["plan"] [] := F.bindsN fun _ _ _ _ _ _ us hl => match us, hl with | [_], _ => rfl
  refine ⟨⟨fd, [], F.ok sc_flipped (fun vs H Q E h => ?_) (fun cdv A outer s H vs Q E hr h => ?_), .nil, b⟩, T.g_flipped, F.kp⟩
  · obtain ⟨B, G, v, wn, hn, ls, gl, e, rfl, _⟩ := h
    all_goals rfl
  · obtain ⟨B, G, v, wn, hn, ls, gl, e, rfl, dv, m, q⟩ := h
    all_goals refine ⟨_, PSs.nox (pss_cons (ps_asg (pv 0) (pg_tup rfl (pgs_cons (by exact (pg_name (i := 1) sc_flipped.nd rfl (Or.inr rfl))) (pgs_cons (by exact (pg_name (i := 2) sc_flipped.nd rfl (Or.inl rfl))) (pgs_cons (by exact (pg_name (i := 3) sc_flipped.nd rfl (Or.inl rfl))) (pgs_cons (by exact (pg_name (i := 4) sc_flipped.nd rfl (Or.inr rfl))) pgs_nil)))))) (pss_cons (ps_setLc (i := 5) (own := [("x", 7), ("y", 8), ("turn", 9)]) (g := gTup K 3 (gCons (gName 7) (gCons (gName 8) (gCons (gName 9) gNil)))) rfl sc_flipped.nd rfl rfl (sw_true rfl rfl rfl (by decide +kernel)) (pi_tup (pv 3)) (blkOk_by (own := [("x", 7), ("y", 8), ("turn", 9)]) (N := N_flipped) (sc := defScope s_flipped) (by decide +kernel)) (fun _ _ _ _ _ => (pg_tup rfl (pgs_cons (by exact (pg_name (i := 7) sc_flipped.nd rfl (Or.inl rfl))) (pgs_cons (by exact (pg_name (i := 8) sc_flipped.nd rfl (Or.inl rfl))) (pgs_cons (by exact (pg_name (i := 9) sc_flipped.nd rfl (Or.inl rfl))) pgs_nil))))) (fun _ _ _ _ _ => pts_nil) (fun _ _ _ _ _ => (pe_own G_lead (hr.mono (by decide)) (by rfl) passL (pa_cons (pe_op op_sub (pv 1) (pv 7)) (pa_cons (pv 8) (pa_cons (pe_op op_sub pe_int (pv 9)) pa_nil)))))) (pss_cons (ps_setLc (i := 6) (own := [("x", 7), ("y", 8), ("part", 10)]) (g := gTup K 3 (gCons (gName 7) (gCons (gName 8) (gCons (gName 10) gNil)))) rfl sc_flipped.nd rfl rfl (sw_true rfl rfl rfl (by decide +kernel)) (pi_list (pe_own G_all_quarters (hr.mono (by decide)) (by rfl) passL (pa_cons (pv 1) (pa_cons (pv 2) pa_nil)))) (blkOk_by (own := [("x", 7), ("y", 8), ("part", 10)]) (N := N_flipped) (sc := defScope s_flipped) (by decide +kernel)) (fun _ _ _ _ _ => (pg_tup rfl (pgs_cons (by exact (pg_name (i := 7) sc_flipped.nd rfl (Or.inl rfl))) (pgs_cons (by exact (pg_name (i := 8) sc_flipped.nd rfl (Or.inl rfl))) (pgs_cons (by exact (pg_name (i := 10) sc_flipped.nd rfl (Or.inl rfl))) pgs_nil))))) (fun _ _ _ _ _ => pts_nil) (fun _ _ _ _ _ => (pe_ix (r := rIxT K) ix_tup (pv 4) (pe_own G_quarter_at (hr.mono (by decide)) (by rfl) passL (pa_cons (pv 0) (pa_cons (pe_op op_sub (pe_op op_sub (pv 1) pe_int) (pv 7)) (pa_cons (pv 8) (pa_cons (pe_op op_mod (pe_op op_sub pe_int (pv 10)) pe_int) pa_nil))))) (fun _ _ => rfl)))) (pss_one (ps_ret (pe_tup (pa_cons (pv 1) (pa_cons (pv 2) (pa_cons (pe_callTy (r := rTupS K) call_tuple_of (by rfl) T.f_tuple (by decide +kernel) (pa_cons (pe_callB (r := rSortedL K) cr_sortedL (by rfl) T.f_sorted (by decide +kernel) (pa_cons (pv 5) pa_nil)) pa_nil)) (pa_cons (pe_callTy (r := rTupS K) call_tuple_of (by rfl) T.f_tuple (by decide +kernel) (pa_cons (pv 6) pa_nil)) pa_nil)))))))))), ?_⟩
    refine sq_unpack (ds := [.int (wn : Int), .int (hn : Int), .tuple (ls.map encT), encT gl]) (ed_var rfl dv) e rfl (fun vs G2 H2 X2 dvs => ?_)
    match vs, dvs with
    | [_, _, a3, a4], .cons h1 (.cons h2 (.cons d3 (.cons d4 .nil))) =>
    obtain rfl := dp_int h1
    obtain rfl := dp_int h2
    refine ⟨_, _, rfl, _, _, rfl, _, _, rfl, _, _, rfl, rfl, ?_⟩
    show tSeq _ _ _ [some v, some (.int (wn : Int)), some (.int (hn : Int)), some a3, some a4, none, none, none, none, none, none] H2
    have tri : ∀ k ∈ ls, ∃ x y z : Int, k = [x, y, z] := fun k hk => by
      obtain ⟨x, y, t, e, _⟩ := m.tri k hk
      exact ⟨x, y, t, e⟩
    have names : ls.filterMap (fun k => some (encT (flipN wn k))) = (ls.map (flipN wn)).map encT := by
      rw [List.map_map]
      exact fm_some _ ls
    refine sq_set (EvF.ed (ed_isF (ef_lc3T (i := 7) (j := 8) (l := 9) (f := fun k => some (encT (flipN wn k))) (ed_var (i := 3) rfl d3) (by have := m.ln; omega) tri (fun x y z G' mk eg cg => eb_yes) (fun x y z o G' mk eg cg eo => ?_) (fun _ _ _ => rfl)) names)) X2.ok (fun v5 G3 H3 X3 d5 => ?_)
    · obtain rfl := Option.some.inj eo
      obtain ⟨_, _, _, e3, z0, z3⟩ := m.tri _ mk
      injection e3 with e4 e5
      injection e5 with e5 e6
      injection e6 with e6 _
      subst e4 e5 e6
      show EvD K B _ _ _ (encT (leadN _ _ _))
      rw [← leadD_enc]
      exact ed_lead (ea_cons (ed_op (ed_var rfl (.int _)) (ed_var rfl (.int _)) rd_I0) (ea_cons (ed_var rfl (.int _)) (ea_cons (ed_op ed_int (ed_var rfl (.int _)) rd_I0) ea_nil))) ⟨by omega, by omega⟩
    have X23 := X2.trans X3
    have d4 := dp_mono X3.gg d4
    have gln := m.gn
    have ql : ∀ k ∈ quB wn hn, ∃ x y z : Int, k = [x, y, z] := quB_tri
    have cols : (quB wn hn).filterMap (fun k => some (PyData.int (flipF wn gl k))) = ((quB wn hn).map (flipF wn gl)).map PyData.int := by
      rw [List.map_map]
      exact fm_some _ _
    refine sq_set (EvF.ed (ed_isF (ef_lc3L (i := 7) (j := 8) (l := 10) (f := fun k => some (PyData.int (flipF wn gl k))) (EvF.ed (ef_all_quarters (wn := wn) (hn := hn) (ea_cons (ed_var (i := 1) rfl (.int _)) (ea_cons (ed_var (i := 2) rfl (.int _)) ea_nil)) m.w9.2 m.h9.2)) (by rw [quB_len]; exact Nat.le_trans (n400 m.w9.2 m.h9.2) (by decide)) ql (fun x y z G' mk eg cg => eb_yes) (fun x y p o G' mk eg cg eo => ?_) (fun _ _ _ => rfl)) cols)) X3.ok (fun v6 G4 H4 X4 d6 => ?_)
    · obtain rfl := Option.some.inj eo
      obtain ⟨X, Y, P, e3, hx, hy, hp⟩ := quB_mem mk
      injection e3 with e4 e5
      injection e5 with e5 e6
      injection e6 with e6 _
      subst e4 e5 e6
      have w1 := m.w9
      have lt := q_lt (w := wn) (h := hn) (x := (wn : Int) - 1 - X) (y := Y) (p := (4 - P) % 4) ⟨by omega, by omega⟩ ⟨by omega, by omega⟩ ⟨by omega, by omega⟩
      have ix : atI (gl.map PyData.int) (qAt (wn : Int) ((wn : Int) - 1 - (X : Int)) (Y : Int) ((4 - (P : Int)) % 4)) = some (.int (flipF wn gl [(X : Int), (Y : Int), (P : Int)])) := at_gl lt.1 (by rw [gln]; exact lt.2)
      exact ed_op (ed_var (i := 4) rfl (dp_mono eg d4)) (ed_qat (wd := (wn : Int)) (ea_cons (ed_var rfl (dp_mono (X23.gg.trans eg) dv)) (ea_cons (ed_op (ed_op (ed_var rfl (.int _)) ed_int rd_I0) (ed_var rfl (.int _)) rd_I0) (ea_cons (ed_var rfl (.int _)) (ea_cons (ed_op (ed_op ed_int (ed_var rfl (.int _)) rd_I0) ed_int (rd_I (by decide))) ea_nil)))) ⟨by omega, by omega⟩) (rd_ixT ix)
    refine st_ret (ed_tup (ea_cons (ed_var (i := 1) rfl (.int _)) (ea_cons (ed_var (i := 2) rfl (.int _)) (ea_cons (ed_tupOf (EvF.ed (ef_sorted (ed_var (i := 5) rfl (dp_mono X4.gg d5)) ?_))) (ea_cons (ed_tupOf (ed_var (i := 6) rfl d6)) ea_nil)))) (Nat.le_of_ble_eq_true rfl)) X4.ok (q.mono (X23.trans X4))
    intro l hl
    obtain ⟨k, hk, rfl⟩ := List.mem_map.mp hl
    obtain ⟨x, y, t, rfl, t0, t3⟩ := m.tri k hk
    exact lead_ne

/-! turned -/
def sp_turned (K : Fg) : Sp := fun vs H Q E => ∃ (B : Bg) (G : Hp) (v : V) (wn hn : Nat) (ls : List (List Int)) (gl : List Int), Ok K B G H ∧ vs = [v] ∧ Dp K G v (movD wn hn ls gl) ∧ MovOk wn hn ls gl ∧ Ret K B G H Q (movD hn wn (turnL hn ls) (turnG wn hn gl))
abbrev N_turned : List Str := ["plan", "width", "height", "within", "glass", "names", "colours", "x", "y", "turn", "part"]
theorem sc_turned : FnScope N_turned ["plan"] (defScope s_turned) := ⟨rfl, rfl, rfl, by decide +kernel, rfl, by decide +kernel, by decide +kernel⟩
theorem ok_turned (T : Txt K mg) (G_lead : Good P w K mg base (L2.CX P w) 3 "lead" ["x", "y", "turn"] [] (sp_lead K)) (G_all_quarters : Good P w K mg base (L2.CX P w) 1 "all_quarters" ["width", "height"] [] (sp_all_quarters K)) (G_quarter_at : Good P w K mg base (L2.CX P w) 1 "quarter_at" ["plan", "x", "y", "part"] [] (sp_quarter_at K)) : Good P w K mg base (L2.CX P w) 4 "turned" ["plan"] [] (sp_turned K) := by
  obtain ⟨fd, F⟩ := T.c.def_ 7 (d := d_turned) rfl
  have b : Binds K fd ["plan"] [] := F.bindsN fun _ _ _ _ _ _ us hl => match us, hl with | [_], _ => rfl
  refine ⟨⟨fd, [], F.ok sc_turned (fun vs H Q E h => ?_) (fun cdv A outer s H vs Q E hr h => ?_), .nil, b⟩, T.g_turned, F.kp⟩
  · obtain ⟨B, G, v, wn, hn, ls, gl, e, rfl, _⟩ := h
    all_goals rfl
  · obtain ⟨B, G, v, wn, hn, ls, gl, e, rfl, dv, m, q⟩ := h
    all_goals refine ⟨_, PSs.nox (pss_cons (ps_asg (pv 0) (pg_tup rfl (pgs_cons (by exact (pg_name (i := 1) sc_turned.nd rfl (Or.inl rfl))) (pgs_cons (by exact (pg_name (i := 2) sc_turned.nd rfl (Or.inr rfl))) (pgs_cons (by exact (pg_name (i := 3) sc_turned.nd rfl (Or.inl rfl))) (pgs_cons (by exact (pg_name (i := 4) sc_turned.nd rfl (Or.inr rfl))) pgs_nil)))))) (pss_cons (ps_setLc (i := 5) (own := [("x", 7), ("y", 8), ("turn", 9)]) (g := gTup K 3 (gCons (gName 7) (gCons (gName 8) (gCons (gName 9) gNil)))) rfl sc_turned.nd rfl rfl (sw_true rfl rfl rfl (by decide +kernel)) (pi_tup (pv 3)) (blkOk_by (own := [("x", 7), ("y", 8), ("turn", 9)]) (N := N_turned) (sc := defScope s_turned) (by decide +kernel)) (fun _ _ _ _ _ => (pg_tup rfl (pgs_cons (by exact (pg_name (i := 7) sc_turned.nd rfl (Or.inl rfl))) (pgs_cons (by exact (pg_name (i := 8) sc_turned.nd rfl (Or.inl rfl))) (pgs_cons (by exact (pg_name (i := 9) sc_turned.nd rfl (Or.inl rfl))) pgs_nil))))) (fun _ _ _ _ _ => pts_nil) (fun _ _ _ _ _ => (pe_own G_lead (hr.mono (by decide)) (by rfl) passL (pa_cons (pe_op op_sub (pv 2) (pv 8)) (pa_cons (pv 7) (pa_cons (pe_op op_add (pv 9) pe_int) pa_nil)))))) (pss_cons (ps_setLc (i := 6) (own := [("x", 7), ("y", 8), ("part", 10)]) (g := gTup K 3 (gCons (gName 7) (gCons (gName 8) (gCons (gName 10) gNil)))) rfl sc_turned.nd rfl rfl (sw_true rfl rfl rfl (by decide +kernel)) (pi_list (pe_own G_all_quarters (hr.mono (by decide)) (by rfl) passL (pa_cons (pv 2) (pa_cons (pv 1) pa_nil)))) (blkOk_by (own := [("x", 7), ("y", 8), ("part", 10)]) (N := N_turned) (sc := defScope s_turned) (by decide +kernel)) (fun _ _ _ _ _ => (pg_tup rfl (pgs_cons (by exact (pg_name (i := 7) sc_turned.nd rfl (Or.inl rfl))) (pgs_cons (by exact (pg_name (i := 8) sc_turned.nd rfl (Or.inl rfl))) (pgs_cons (by exact (pg_name (i := 10) sc_turned.nd rfl (Or.inl rfl))) pgs_nil))))) (fun _ _ _ _ _ => pts_nil) (fun _ _ _ _ _ => (pe_ix (r := rIxT K) ix_tup (pv 4) (pe_own G_quarter_at (hr.mono (by decide)) (by rfl) passL (pa_cons (pv 0) (pa_cons (pv 8) (pa_cons (pe_op op_sub (pe_op op_sub (pv 2) pe_int) (pv 7)) (pa_cons (pe_op op_mod (pe_op op_add (pv 10) pe_int) pe_int) pa_nil))))) (fun _ _ => rfl)))) (pss_one (ps_ret (pe_tup (pa_cons (pv 2) (pa_cons (pv 1) (pa_cons (pe_callTy (r := rTupS K) call_tuple_of (by rfl) T.f_tuple (by decide +kernel) (pa_cons (pe_callB (r := rSortedL K) cr_sortedL (by rfl) T.f_sorted (by decide +kernel) (pa_cons (pv 5) pa_nil)) pa_nil)) (pa_cons (pe_callTy (r := rTupS K) call_tuple_of (by rfl) T.f_tuple (by decide +kernel) (pa_cons (pv 6) pa_nil)) pa_nil)))))))))), ?_⟩
    refine sq_unpack (ds := [.int (wn : Int), .int (hn : Int), .tuple (ls.map encT), encT gl]) (ed_var rfl dv) e rfl (fun vs G2 H2 X2 dvs => ?_)
    match vs, dvs with
    | [_, _, a3, a4], .cons h1 (.cons h2 (.cons d3 (.cons d4 .nil))) =>
    obtain rfl := dp_int h1
    obtain rfl := dp_int h2
    refine ⟨_, _, rfl, _, _, rfl, _, _, rfl, _, _, rfl, rfl, ?_⟩
    show tSeq _ _ _ [some v, some (.int (wn : Int)), some (.int (hn : Int)), some a3, some a4, none, none, none, none, none, none] H2
    have tri : ∀ k ∈ ls, ∃ x y z : Int, k = [x, y, z] := fun k hk => by
      obtain ⟨x, y, t, e, _⟩ := m.tri k hk
      exact ⟨x, y, t, e⟩
    have names : ls.filterMap (fun k => some (encT (turnN hn k))) = (ls.map (turnN hn)).map encT := by
      rw [List.map_map]
      exact fm_some _ ls
    refine sq_set (EvF.ed (ed_isF (ef_lc3T (i := 7) (j := 8) (l := 9) (f := fun k => some (encT (turnN hn k))) (ed_var (i := 3) rfl d3) (by have := m.ln; omega) tri (fun x y z G' mk eg cg => eb_yes) (fun x y z o G' mk eg cg eo => ?_) (fun _ _ _ => rfl)) names)) X2.ok (fun v5 G3 H3 X3 d5 => ?_)
    · obtain rfl := Option.some.inj eo
      obtain ⟨_, _, _, e3, z0, z3⟩ := m.tri _ mk
      injection e3 with e4 e5
      injection e5 with e5 e6
      injection e6 with e6 _
      subst e4 e5 e6
      show EvD K B _ _ _ (encT (leadN _ _ _))
      rw [← leadD_enc]
      exact ed_lead (ea_cons (ed_op (ed_var rfl (.int _)) (ed_var rfl (.int _)) rd_I0) (ea_cons (ed_var rfl (.int _)) (ea_cons (ed_op (ed_var rfl (.int _)) ed_int rd_I0) ea_nil))) ⟨by omega, by omega⟩
    have X23 := X2.trans X3
    have d4 := dp_mono X3.gg d4
    have gln := m.gn
    have ql : ∀ k ∈ quB hn wn, ∃ x y z : Int, k = [x, y, z] := quB_tri
    have cols : (quB hn wn).filterMap (fun k => some (PyData.int (turnF wn hn gl k))) = ((quB hn wn).map (turnF wn hn gl)).map PyData.int := by
      rw [List.map_map]
      exact fm_some _ _
    refine sq_set (EvF.ed (ed_isF (ef_lc3L (i := 7) (j := 8) (l := 10) (f := fun k => some (PyData.int (turnF wn hn gl k))) (EvF.ed (ef_all_quarters (wn := hn) (hn := wn) (ea_cons (ed_var (i := 2) rfl (.int _)) (ea_cons (ed_var (i := 1) rfl (.int _)) ea_nil)) m.h9.2 m.w9.2)) (by rw [quB_len]; exact Nat.le_trans (n400 m.h9.2 m.w9.2) (by decide)) ql (fun x y z G' mk eg cg => eb_yes) (fun x y p o G' mk eg cg eo => ?_) (fun _ _ _ => rfl)) cols)) X3.ok (fun v6 G4 H4 X4 d6 => ?_)
    · obtain rfl := Option.some.inj eo
      obtain ⟨X, Y, P, e3, hx, hy, hp⟩ := quB_mem mk
      injection e3 with e4 e5
      injection e5 with e5 e6
      injection e6 with e6 _
      subst e4 e5 e6
      have w1 := m.w9
      have lt := q_lt (w := wn) (h := hn) (x := Y) (y := (hn : Int) - 1 - X) (p := (P + 3) % 4) ⟨by omega, by omega⟩ ⟨by omega, by omega⟩ ⟨by omega, by omega⟩
      have ix : atI (gl.map PyData.int) (qAt (wn : Int) (Y : Int) ((hn : Int) - 1 - (X : Int)) (((P : Int) + 3) % 4)) = some (.int (turnF wn hn gl [(X : Int), (Y : Int), (P : Int)])) := at_gl lt.1 (by rw [gln]; exact lt.2)
      exact ed_op (ed_var (i := 4) rfl (dp_mono eg d4)) (ed_qat (wd := (wn : Int)) (ea_cons (ed_var rfl (dp_mono (X23.gg.trans eg) dv)) (ea_cons (ed_var rfl (.int _)) (ea_cons (ed_op (ed_op (ed_var rfl (.int _)) ed_int rd_I0) (ed_var rfl (.int _)) rd_I0) (ea_cons (ed_op (ed_op (ed_var rfl (.int _)) ed_int rd_I0) ed_int (rd_I (by decide))) ea_nil)))) ⟨by omega, by omega⟩) (rd_ixT ix)
    refine st_ret (ed_tup (ea_cons (ed_var (i := 2) rfl (.int _)) (ea_cons (ed_var (i := 1) rfl (.int _)) (ea_cons (ed_tupOf (EvF.ed (ef_sorted (ed_var (i := 5) rfl (dp_mono X4.gg d5)) ?_))) (ea_cons (ed_tupOf (ed_var (i := 6) rfl d6)) ea_nil)))) (Nat.le_of_ble_eq_true rfl)) X4.ok (q.mono (X23.trans X4))
    intro l hl
    obtain ⟨k, hk, rfl⟩ := List.mem_map.mp hl
    obtain ⟨x, y, t, rfl, t0, t3⟩ := m.tri k hk
    exact lead_ne

/-! mirrored -/
/-- a plan moved -/
def turnsP : Nat → (Nat × Nat × List (List Int) × List Int) → (Nat × Nat × List (List Int) × List Int)
  | 0, p => p
  | k + 1, (w, h, ls, gl) => turnsP k (h, w, turnL h ls, turnG w h gl)
def movP (w h : Nat) (ls : List (List Int)) (gl : List Int) (t : Nat) : Nat × Nat × List (List Int) × List Int := turnsP (t % 4) (if 4 ≤ t then (w, h, flipL w ls, flipG w h gl) else (w, h, ls, gl))
def movPD (p : Nat × Nat × List (List Int) × List Int) : PyData := movD p.1 p.2.1 p.2.2.1 p.2.2.2
def sp_mirrored (K : Fg) : Sp := fun vs H Q E => ∃ (B : Bg) (G : Hp) (v : V) (t : Int) (wn hn : Nat) (ls : List (List Int)) (gl : List Int), Ok K B G H ∧ vs = [v, .int t] ∧ Dp K G v (movD wn hn ls gl) ∧ MovOk wn hn ls gl ∧ (∀ n : Nat, t = (n : Int) → n < 8 → Ret K B G H Q (movPD (movP wn hn ls gl n))) ∧ (¬ okT t → Rai K B G H E (He.ga K "BadTurn"))
abbrev N_mirrored : List Str := ["plan", "turn", "moved", "quarter_turn"]
theorem sc_mirrored : FnScope N_mirrored ["plan", "turn"] (defScope s_mirrored) := ⟨rfl, rfl, rfl, by decide +kernel, rfl, by decide +kernel, by decide +kernel⟩
theorem ok_mirrored (T : Txt K mg) (G_check_turn : Good P w K mg base (L2.CX P w) 1 "check_turn" ["turn"] [] (sp_check_turn K)) (G_flipped : Good P w K mg base (L2.CX P w) 4 "flipped" ["plan"] [] (sp_flipped K)) (G_turned : Good P w K mg base (L2.CX P w) 4 "turned" ["plan"] [] (sp_turned K)) : Good P w K mg base (L2.CX P w) 5 "mirrored" ["plan", "turn"] [] (sp_mirrored K) := by
  obtain ⟨fd, F⟩ := T.c.def_ 8 (d := d_mirrored) rfl
  have b : Binds K fd ["plan", "turn"] [] := F.bindsN fun _ _ _ _ _ _ us hl => match us, hl with | [_, _], _ => rfl
  refine ⟨⟨fd, [], F.ok sc_mirrored (fun vs H Q E h => ?_) (fun cdv A outer s H vs Q E hr h => ?_), .nil, b⟩, T.g_mirrored, F.kp⟩
  · obtain ⟨B, G, v, t, wn, hn, ls, gl, e, rfl, _⟩ := h
    all_goals rfl
  · obtain ⟨B, G, v, t, wn, hn, ls, gl, e, rfl, dv, m, q, r⟩ := h
    all_goals refine ⟨_, (pss_cons (ps_expr (pe_own G_check_turn (hr.mono (by decide)) (by rfl) (passes_call (takes_of rfl rfl rfl rfl) (fun _ _ _ _ h => h)) (pa_cons (pv 1) pa_nil))) (pss_cons (ps_set (i := 2) sc_mirrored.nd rfl (Or.inl rfl) (pe_ifExp (pt_cmpR op_ge (pv 1) pe_int (nomark _)) (pe_own G_flipped (hr.mono (by decide)) (by rfl) (passes_call (takes_of rfl rfl rfl rfl) (fun _ _ _ _ h => h)) (pa_cons (pv 0) pa_nil)) (pv 0))) (pss_cons (ps_for (passes_of rfl) rfl (pi_range1 (by rfl) T.f_range (pa_cons (pe_op op_mod (pv 1) pe_int) pa_nil)) (pg_name (i := 3) sc_mirrored.nd rfl (Or.inl rfl)) (pss_one (ps_set (i := 2) sc_mirrored.nd rfl (Or.inl rfl) (pe_own G_turned (hr.mono (by decide)) (by rfl) (passes_call (takes_of rfl rfl rfl rfl) (fun _ _ _ _ h => h)) (pa_cons (pv 2) pa_nil))))) (pss_one (ps_ret (pv 2)))))), ?_⟩
    refine sq_chk (i := 1) rfl e (fun z G2 H2 X2 => ?_) (fun n => r n)
    obtain ⟨n, rfl⟩ : ∃ n : Nat, t = (n : Int) := ⟨t.toNat, by have := z.1; omega⟩
    have n8 : n < 8 := by have := z.2; omega
    have q := q n rfl n8
    have go : ∀ {w0 h0 : Nat} {ls0 : List (List Int)} {gl0 : List Int} {v2 : V} {G3 H3 : Hp}, Ext K B G H G3 H3 → Dp K G3 v2 (movD w0 h0 ls0 gl0) → MovOk w0 h0 ls0 gl0 → Ret K B G H Q (movPD (turnsP (n % 4) (w0, h0, ls0, gl0))) → tSeq (tFor (iRng1 (tCons (tOp (rI (fun x j => 0 < j) fun i j => V.int (i % j)) (tVar 1) (tC (V.int 4))) tNil)) (gName 3) (tAsg (tCall (sp_turned K) [] E (tCons (tVar 2) tNil)) (gName 2))) (tRet (tVar 2)) { nx := fun x H' => Q V.non H', rt := Q } [some v, some (.int (n : Int)), some v2, none] H3 := fun {w0 h0 ls0 gl0 v2 G3 H3} X3 d2 m0 q0 => by
      refine sq_forR (n := n % 4) (Pv := fun j σ' G' H' => ∃ (w1 h1 : Nat) (l1 : List (List Int)) (g1 : List Int) (v3 : V) (y : Option V), σ' = [some v, some (.int (n : Int)), some v3, y] ∧ Dp K G' v3 (movD w1 h1 l1 g1) ∧ MovOk w1 h1 l1 g1 ∧ turnsP (n % 4) (w0, h0, ls0, gl0) = turnsP (n % 4 - j) (w1, h1, l1, g1)) (ea_cons (ed_is (ed_op (ed_var (i := 1) rfl (.int (n : Int))) ed_int (rd_I (by decide))) (congrArg PyData.int (by omega))) ea_nil) (by omega) X3.ok (fun G4 H4 X4 => ⟨w0, h0, ls0, gl0, v2, _, rfl, dp_mono X4.gg d2, m0, rfl⟩) (fun G4 H4 X4 j σ' G5 H5 hj X5 pv => ?_) (fun σ' G5 H5 X5 pv => ?_)
      · obtain ⟨w1, h1, l1, g1, v3, y, rfl, d3, m1, et⟩ := pv
        refine st_te (te_call1 (rv_var (i := 2) rfl) ⟨B, G5, v3, w1, h1, l1, g1, X5.ok, rfl, d3, m1, fun v4 G6 H6 X6 d6 => ?_⟩)
        refine ⟨G6, X5.trans X6, h1, w1, _, _, v4, _, rfl, d6, turn_ok m1, ?_⟩
        rw [et, show n % 4 - j = (n % 4 - (j + 1)) + 1 by omega]
        rfl
      · obtain ⟨w1, h1, l1, g1, v3, y, rfl, d3, m1, et⟩ := pv
        rw [Nat.sub_self] at et
        rw [et] at q0
        exact st_ret (ed_var (i := 2) rfl d3) X5.ok (q0.mono (X3.trans X5))
    unfold movP at q
    refine sq_te ?_
    refine (eb_test (ed_op (ed_var (i := 1) rfl (.int (n : Int))) ed_int rd_B0) : EvB K B _ [some v, some (.int (n : Int)), none, none] G2 (decide ((4 : Int) ≤ (n : Int)))) H2 X2.ok _ fun G3 H3 X3 => ?_
    have X23 := X2.trans X3
    by_cases c4 : 4 ≤ n
    · rw [if_pos c4] at q
      show (if (decide _ : Bool) = true then _ else _)
      rw [if_pos (decide_eq_true (by omega))]
      refine te_call1 (rv_var (i := 0) rfl) ⟨B, G3, v, wn, hn, ls, gl, X3.ok, rfl, dp_mono X23.gg dv, m, fun v2 G4 H4 X4 d4 => ?_⟩
      exact go (X23.trans X4) d4 (flip_ok m) q
    · rw [if_neg c4] at q
      show (if (decide _ : Bool) = true then _ else _)
      rw [if_neg (by rw [decide_eq_false (by omega)]; exact Bool.false_ne_true)]
      exact ⟨v, rfl, go X23 (dp_mono X23.gg dv) m q⟩

/-! _law_bag -/
def sp__law_bag (K : Fg) : Sp := fun vs H Q E => ∃ (a : Addr) (ns : List Int), vs = [.ref a] ∧ SqL K H a (ns.map V.int) ∧ ns.length ≤ 63 ∧ ∀ b c G2 H2, Ok K (some (b, c)) G2 H2 → Q (.ref b) H2
theorem ok_none {K : Fg} (H : Hp) : Ok K none H H := ⟨Ex.refl H, fun _ _ z => (by cases z), fun _ _ z => (by cases z)⟩
theorem cut_map (ns : List Int) (lo hi : Option Int) : ∃ ms : List Int, Lw.cutD (ns.map PyData.int) lo hi = ms.map PyData.int ∧ ms.length ≤ ns.length := by
  unfold Lw.cutD
  refine ⟨(ns.drop (HT.sIx (ns.map PyData.int).length 0 lo)).take (HT.sIx (ns.map PyData.int).length (ns.map PyData.int).length hi - HT.sIx (ns.map PyData.int).length 0 lo), ?_, ?_⟩
  · rw [List.map_take, List.map_drop]
  · rw [List.length_take, List.length_drop]
    omega
abbrev N__law_bag : List Str := ["_law_script", "_law_cells", "_law_mark", "_law_cell"]
theorem sc__law_bag : FnScope N__law_bag ["_law_script"] (defScope s__law_bag) := ⟨rfl, rfl, rfl, by decide +kernel, rfl, by decide +kernel, by decide +kernel⟩
theorem ok__law_bag (T : Txt K mg)  : Good P w K mg base (L2.CX P w) 1 "_law_bag" ["_law_script"] [] (sp__law_bag K) := by
  obtain ⟨fd, F⟩ := T.c.def_ 9 (d := d__law_bag) rfl
  have b : Binds K fd ["_law_script"] [] := F.bindsN fun _ _ _ _ _ _ us hl => match us, hl with | [_], _ => rfl
  refine ⟨⟨fd, [], F.ok sc__law_bag (fun vs H Q E h => ?_) (fun cdv A outer s H vs Q E hr h => ?_), .nil, b⟩, T.g__law_bag, F.kp⟩
  · obtain ⟨a, ns, rfl, _⟩ := h
    all_goals rfl
  · obtain ⟨a, ns, rfl, hS, hl, q⟩ := h
    all_goals refine ⟨_, PSs.nox (pss_cons (ps_set (i := 1) sc__law_bag.nd rfl (Or.inl rfl) (pe_callTy (r := rListS K) call_list_of (by rfl) T.f_list (by decide +kernel) (pa_cons (pe_slice (r := rSlL K) sl_list (pv 0) po_none (po_some pe_int)) pa_nil))) (pss_cons (ps_set (i := 2) sc__law_bag.nd rfl (Or.inl rfl) (pe_op op_add pe_int (pe_callB (r := rLenS K) call_len_seq (by rfl) T.f_len (by decide +kernel) (pa_cons (pv 1) pa_nil)))) (pss_cons (ps_for PassesOwn.never rfl (pi_list (pv 1)) (pg_name (i := 3) sc__law_bag.nd rfl (Or.inl rfl)) (pss_one (ps_set (i := 2) sc__law_bag.nd rfl (Or.inl rfl) (pe_op op_mod (pe_op op_add (pe_op op_mul (pv 2) pe_int) (pv 3)) pe_int)))) (pss_one (ps_ret (pe_lst (pa_cons (pv 1) (pa_cons pe_int (pa_cons pe_int (pa_cons (pv 2) pa_nil)))))))))), ?_⟩
    obtain ⟨ms, em, hm⟩ := cut_map ns none (some 63)
    refine ed_isF (ed_listOf (ed_slL (ed_var rfl (.lst hS (dpAll_ints ns))) eo_none (eo_some ed_int))) em H (ok_none H) _ (fun c xs G1 H2 X1 hp hg nb h2 hx => ?_)
    obtain rfl := dpAll_intsV hx
    have X := X1.freeze hp hg nb h2
    have hc : SqL K (upd G1 c (.lst (ms.map V.int))) c (ms.map V.int) := SqL.of upd_same
    have dv : Dp K (upd G1 c (.lst (ms.map V.int))) (.ref c) (.list (ms.map .int)) := .lst hc (dpAll_ints ms)
    have hcH : (upd G1 c (.lst (ms.map V.int))) c = some (.lst (ms.map V.int)) := upd_same
    refine sq_set (ed_op ed_int (ed_len (ed_var rfl dv) rfl) rd_I0) X.ok (fun v3 G3 H3 X3 d3 => ?_)
    obtain rfl := dp_int d3
    refine sq_forL (Pv := fun _ σ' _ _ => ∃ (m : Int) (y : Option V), σ' = [some (.ref a), some (.ref c), some (.int m), y]) (ed_var rfl (dp_mono X3.gg dv)) X3.ok (fun _ _ _ => ⟨_, none, rfl⟩) (fun G4 H4 X4 j d v5 σ5 G5 H5 hj X5 p d5 => ?_) (fun σ5 G5 H5 X5 p => ?_)
    · obtain ⟨m, y, rfl⟩ := p
      obtain ⟨z, rfl⟩ : ∃ z, d = .int z := by
        rw [List.getElem?_map] at hj
        cases q : ms[j]? with
        | none =>
          rw [q] at hj
          cases hj
        | some z =>
          rw [q] at hj
          exact ⟨z, (Option.some.inj hj).symm⟩
      refine st_set (ed_op (ed_op (ed_op (ed_var rfl (.int m)) ed_int (rd_I (.inr (by decide)))) (ed_var rfl d5) rd_I0) ed_int (rd_I (by decide))) X5.ok (fun v6 G6 H6 X6 d6 => ?_)
      obtain rfl := dp_int d6
      exact ⟨G6, X5.trans X6, _, some v5, rfl⟩
    · obtain ⟨m, y, rfl⟩ := p
      have dc := dp_mono (X3.gg.trans X5.gg) dv
      refine ⟨.ref c, rfl, .int m, rfl, (by show 4 ≤ sizeLine; decide), fun p hp => ?_⟩
      refine q p c G5 _ ⟨X5.ok.e.trans (Ex.new hp), fun b' c' z => ?_, fun b' c' z => ?_⟩
      · obtain ⟨rfl, rfl⟩ := Prod.mk.inj (Option.some.inj z)
        exact ⟨ms, ex_l (X3.gg.trans X5.gg) hc⟩
      · obtain ⟨rfl, rfl⟩ := Prod.mk.inj (Option.some.inj z)
        exact ⟨⟨X5.ok.e.off hp, ne_of_none (X5.ok.e _ _ (X5.gg _ _ (X3.gg _ _ hcH))) hp⟩, 0, 0, m, upd_same, by decide⟩
/-! _law_pull -/
def sp__law_pull (K : Fg) : Sp := fun vs H Q E => ∃ (b c : Addr) (G : Hp) (u : Int), vs = [.ref b, .int u] ∧ Ok K (some (b, c)) G H ∧ 0 < u ∧ u.natAbs.log2 < 9000 ∧ ∀ n G2 H2, 0 ≤ n → n < u → Ext K (some (b, c)) G H G2 H2 → Q (.int n) H2
/-- the bag between two steps of a draw: what was read at first stands, but the bag itself -/
structure BagS (K : Fg) (b c : Addr) (ns : List Int) (G H H2 : Hp) (i r m : Int) : Prop where
  k : ∀ a o, a ≠ b → H a = some o → H2 a = some o
  h : H2 b = some (.lst [.ref c, .int i, .int r, .int m])
  s : SqL K H2 c (ns.map V.int)
  p : 0 ≤ i
theorem BagS.d {b c : Addr} {ns : List Int} {G H H2 : Hp} {i r m : Int} (z : BagS K b c ns G H H2 i r m) : Dp K H2 (.ref b) (.list [.list (ns.map .int), .int i, .int r, .int m]) :=
  .lst (SqL.of z.h) (.cons (.lst z.s (dpAll_ints ns)) (.cons (.int i) (.cons (.int r) (.cons (.int m) .nil))))
theorem BagS.x {b c : Addr} {ns : List Int} {G H H2 G3 H3 : Hp} {i r m : Int} (z : BagS K b c ns G H H2 i r m) (X : Ext K none H2 H2 G3 H3) : BagS K b c ns G H H3 i r m := by
  have k : Ex H2 H3 := fun a o h => X.hh a o (fun ⟨_, q⟩ => by cases q) h
  exact ⟨fun a o n h => k a o (z.k a o n h), k _ _ z.h, ex_l k z.s, z.p⟩
theorem BagS.put {b c : Addr} {ns : List Int} {G H H2 : Hp} {i r m i' r' : Int} (z : BagS K b c ns G H H2 i r m) (hc : c ≠ b) (h : 0 ≤ i') : BagS K b c ns G H (upd H2 b (.lst [.ref c, .int i', .int r', .int m])) i' r' m :=
  ⟨fun a o n h => by rw [upd_ne n]; exact z.k a o n h, upd_same, by
    rcases z.s with (s | ⟨o, s⟩) | s
    · exact .inl (.inl (by rw [upd_ne hc]; exact s))
    · exact .inl (.inr ⟨o, by rw [upd_ne hc]; exact s⟩)
    · exact .inr s, h⟩
theorem BagS.ext {b c : Addr} {ns : List Int} {G H H2 : Hp} {i r m : Int} (z : BagS K b c ns G H H2 i r m) (e : Ok K (some (b, c)) G H) : Ext K (some (b, c)) G H G H2 := by
  have gb := (e.b b c rfl).1.1
  refine ⟨Ex.refl G, fun a o n h => z.k a o (fun w => n ⟨c, by rw [w]⟩) h, fun _ _ _ g => g, ⟨fun a o h => z.k a o (fun w => ?_) (e.e a o h), e.c, fun b' c' w => ?_⟩⟩
  · rw [w, gb] at h
    cases h
  · obtain ⟨rfl, rfl⟩ := Prod.mk.inj (Option.some.inj w)
    exact ⟨⟨gb, (e.b _ _ rfl).1.2⟩, i, r, m, z.h, z.p⟩
abbrev N__law_pull : List Str := ["_law_bag_here", "_law_upto", "_law_seed", "_law_fold", "_law_twist", "_law_drawn"]
theorem sc__law_pull : FnScope N__law_pull ["_law_bag_here", "_law_upto"] (defScope s__law_pull) := ⟨rfl, rfl, rfl, by decide +kernel, rfl, by decide +kernel, by decide +kernel⟩
theorem ok__law_pull (T : Txt K mg)  : Good P w K mg base (L2.CX P w) 1 "_law_pull" ["_law_bag_here", "_law_upto"] [] (sp__law_pull K) := by
  obtain ⟨fd, F⟩ := T.c.def_ 10 (d := d__law_pull) rfl
  have b : Binds K fd ["_law_bag_here", "_law_upto"] [] := F.bindsN fun _ _ _ _ _ _ us hl => match us, hl with | [_, _], _ => rfl
  refine ⟨⟨fd, [], F.ok sc__law_pull (fun vs H Q E h => ?_) (fun cdv A outer s H vs Q E hr h => ?_), .nil, b⟩, T.g__law_pull, F.kp⟩
  · obtain ⟨b, c, G, u, rfl, _⟩ := h
    all_goals rfl
  · obtain ⟨b, c, G, u, rfl, e, hu, hw, q⟩ := h
    all_goals refine ⟨_, PSs.nox (pss_cons (ps_if (pt_cmpR op_lt (pe_ix (r := rIxL K) ix_list (pv 0) pe_int (fun _ _ => rfl)) pe_int (nomark _)) (pss_cons (ps_asg (pe_op op_add (pe_ix (r := rIxL K) ix_list (pv 0) pe_int (fun _ _ => rfl)) pe_int) (pg_sub (pv 0) pe_int set_list)) (pss_cons (ps_set (i := 2) sc__law_pull.nd rfl (Or.inl rfl) (pe_op op_add (pe_ix (r := rIxL K) ix_list (pv 0) pe_int (fun _ _ => rfl)) (pe_op op_mul (pe_ix (r := rIxL K) ix_list (pv 0) pe_int (fun _ _ => rfl)) pe_int))) (pss_cons (ps_if (pt_cmpR op_le (pe_ix (r := rIxL K) ix_list (pv 0) pe_int (fun _ _ => rfl)) (pe_callB (r := rLenS K) call_len_seq (by rfl) T.f_len (by decide +kernel) (pa_cons (pe_ix (r := rIxL K) ix_list (pv 0) pe_int (fun _ _ => rfl)) pa_nil)) (nomark _)) (pss_one (ps_set (i := 2) sc__law_pull.nd rfl (Or.inl rfl) (pe_ix (r := rIxL K) ix_list (pe_ix (r := rIxL K) ix_list (pv 0) pe_int (fun _ _ => rfl)) (pe_op op_sub (pe_ix (r := rIxL K) ix_list (pv 0) pe_int (fun _ _ => rfl)) pe_int) (fun _ _ => rfl)))) pss_nil) (pss_cons (ps_if (PW.pt (pw_or (pt_cmpR op_gt (pe_ix (r := rIxL K) ix_list (pv 0) pe_int (fun _ _ => rfl)) (pe_callB (r := rLenS K) call_len_seq (by rfl) T.f_len (by decide +kernel) (pa_cons (pe_ix (r := rIxL K) ix_list (pv 0) pe_int (fun _ _ => rfl)) pa_nil)) (nomark _)) (pw_or1 (pt_cmpR op_lt (pv 2) (pe_op op_pow pe_int pe_int) (nomark _))))) (pss_cons (ps_set (i := 3) sc__law_pull.nd rfl (Or.inl rfl) (pe_op op_mod (pe_op op_add (pe_op op_add (pe_op op_mul (pv 2) pe_int) (pe_op op_mul (pe_ix (r := rIxL K) ix_list (pv 0) pe_int (fun _ _ => rfl)) pe_int)) (pe_ix (r := rIxL K) ix_list (pv 0) pe_int (fun _ _ => rfl))) pe_int)) (pss_cons (ps_set (i := 4) sc__law_pull.nd rfl (Or.inl rfl) (pe_op op_mod (pe_op op_add (pe_op op_mul (pv 3) (pv 3)) (pe_ix (r := rIxL K) ix_list (pv 0) pe_int (fun _ _ => rfl))) pe_int)) (pss_one (ps_ret (pe_op op_mod (pe_op op_fdivW (pe_op op_mod (pe_op op_add (pe_op op_mul (pv 4) pe_int) (pv 3)) pe_int) pe_int) (pv 1)))))) pss_nil) (pss_one (ps_asg (pv 2) (pg_sub (pv 0) pe_int set_list))))))) pss_nil) (pss_cons (ps_set (i := 5) sc__law_pull.nd rfl (Or.inl rfl) (pe_op op_mod (pe_ix (r := rIxL K) ix_list (pv 0) pe_int (fun _ _ => rfl)) (pv 1))) (pss_cons (ps_asg (pe_op op_fdivW (pe_ix (r := rIxL K) ix_list (pv 0) pe_int (fun _ _ => rfl)) (pv 1)) (pg_sub (pv 0) pe_int set_list)) (pss_one (ps_ret (pv 5)))))), ?_⟩
    obtain ⟨⟨gb, ncb⟩, i, r, m, hb, hi⟩ := e.b b c rfl
    obtain ⟨ns, hc⟩ := e.c b c rfl
    have S0 : BagS K b c ns G H H i r m := ⟨fun _ _ _ h => h, hb, ex_l e.e hc, hi⟩
    have c31 : CDivW (0 : Int) u := ⟨hu, hw⟩
    have fin : ∀ {i r : Int} {H2 : Hp}, BagS K b c ns G H H2 i r m → ∀ {y2 y3 y4 y5 : Option V}, (tSeq (tAsg (tOp (rI (fun _ j => 0 < j) fun i j => .int (i % j)) (tOp (rIxL K) (tVar 0) (tC (.int 2))) (tVar 1)) (gName 5)) (tSeq (tAsg (tOp (rI CDivW fun i j => .int (i / j)) (tOp (rIxL K) (tVar 0) (tC (.int 2))) (tVar 1)) (gSub (tVar 0) (tC (.int 2)) rSetL)) (tRet (tVar 5)))) { nx := fun _ H' => Q .non H', rt := Q } [some (.ref b), some (.int u), y2, y3, y4, y5] H2 := fun {i r H2} S {y2 y3 y4 y5} => by
      refine sq_set (ed_op (ed_op (ed_var rfl S.d) ed_int (rd_ixL rfl)) (ed_var rfl (.int u)) (rd_I hu)) (ok_none H2) (fun v G3 H3 X3 d3 => ?_)
      obtain rfl := dp_int d3
      have S3 := S.x X3
      refine ed_op (ed_op (ed_var rfl S3.d) ed_int (rd_ixL rfl)) (ed_var rfl (.int u)) (rd_I (C := CDivW) (i := r) ⟨hu, hw⟩) H3 (ok_none H3) _ (fun v G4 H4 X4 d4 => ?_)
      obtain rfl := dp_int d4
      have S4 := S3.x X4
      refine ⟨.ref b, rfl, b, _, 2, 2, rfl, rfl, S4.h, rfl, ?_⟩
      have S5 := S4.put (i' := i) (r' := r / u) ncb S4.p
      exact ⟨_, rfl, q (r % u) G _ (Int.emod_nonneg _ (by omega)) (Int.emod_lt_of_pos _ hu) (S5.ext e)⟩
    refine sq_if (eb_test (ed_op (ed_op (ed_var rfl S0.d) ed_int (rd_ixL rfl)) ed_int rd_B0)) (ok_none H) (fun _ G1 H1 X1 => ?_) (fun _ G1 H1 X1 => fin (S0.x X1))
    have S1 := S0.x X1
    refine ed_op (ed_op (ed_var rfl S1.d) ed_int (rd_ixL rfl)) ed_int rd_I0 H1 (ok_none H1) _ (fun v G2 H2 X2 d2 => ?_)
    obtain rfl := dp_int d2
    have S2 := S1.x X2
    refine ⟨.ref b, rfl, b, _, 1, 1, rfl, rfl, S2.h, rfl, ?_⟩
    have S3 := S2.put (i' := i + 1) (r' := r) ncb (by omega)
    refine sq_set (ed_op (ed_op (ed_var rfl S3.d) ed_int (rd_ixL rfl)) (ed_op (ed_op (ed_var rfl S3.d) ed_int (rd_ixL rfl)) ed_int (rd_I (.inr (by decide)))) rd_I0) (ok_none _) (fun v G4 H4 X4 d4 => ?_)
    obtain rfl := dp_int d4
    have S4 := S3.x X4
    refine sq_if (eb_test (ed_op (ed_op (ed_var rfl S4.d) ed_int (rd_ixL rfl)) (ed_len (ed_op (ed_var rfl S4.d) ed_int (rd_ixL rfl)) rfl) rd_B0)) (ok_none _) (fun k G5 H5 X5 => ?_) (fun k G5 H5 X5 => ?_)
    focus
      have S5 := S4.x X5
      have hk : i + 1 ≤ ((ns.map PyData.int).length : Int) := of_decide_eq_true k
      rw [List.length_map] at hk
      have hj : i.toNat < (ns.map PyData.int).length := by
        rw [List.length_map]
        omega
      have ej : i + 1 - 1 = ((i.toNat : Nat) : Int) := by omega
      obtain ⟨s, es⟩ : ∃ s : Int, atI (ns.map PyData.int) (i + 1 - 1) = some (.int s) := by
        refine ⟨ns[i.toNat]'(by rw [List.length_map] at hj; exact hj), ?_⟩
        rw [ej]
        refine atI_nat ?_
        rw [List.getElem?_map, List.getElem?_eq_getElem (by rw [List.length_map] at hj; exact hj)]
        rfl
      refine st_set (ed_op (ed_op (ed_var rfl S5.d) ed_int (rd_ixL rfl)) (ed_op (ed_op (ed_var rfl S5.d) ed_int (rd_ixL rfl)) ed_int rd_I0) (rd_ixL es)) (ok_none _) (fun v G6 H6 X6 d6 => ?_)
      obtain rfl := dp_int d6
      have S6 := S5.x X6
      clear es ej hj hk k X6 d6 X5 S5
      revert S6
      generalize H6 = Hs
      intro S6
    rotate_left
    focus
      have S6 := S4.x X5
      clear k X5
      revert S6
      generalize H5 = Hs
      generalize m + (i + 1) * 7919 = s
      intro S6
    all_goals
      refine sq_if (eb_or (eb_test (ed_op (ed_op (ed_var rfl S6.d) ed_int (rd_ixL rfl)) (ed_len (ed_op (ed_var rfl S6.d) ed_int (rd_ixL rfl)) rfl) rd_B0)) (fun _ => eb_test (ed_op (ed_var rfl (.int s)) (ed_op ed_int ed_int (rd_I (C := CPow) ⟨by decide, by decide, by decide⟩)) rd_B0))) (ok_none _) (fun _ G7 H7 X7 => ?_) (fun _ G7 H7 X7 => ?_)
      · have S7 := S6.x X7
        refine sq_set (ed_op (ed_op (ed_op (ed_op (ed_var rfl (.int s)) ed_int (rd_I (.inr (by decide)))) (ed_op (ed_op (ed_var rfl S7.d) ed_int (rd_ixL rfl)) ed_int (rd_I (.inr (by decide)))) rd_I0) (ed_op (ed_var rfl S7.d) ed_int (rd_ixL rfl)) rd_I0) ed_int (rd_I (by decide))) (ok_none _) (fun v G8 H8 X8 d8 => ?_)
        obtain rfl := dp_int d8
        have S8 := S7.x X8
        clear d8 X8
        have f0 := Int.emod_nonneg (s * 48271 + (i + 1) * 40692 + m) (show (2147483647 : Int) ≠ 0 by decide)
        have f1 := Int.emod_lt_of_pos (s * 48271 + (i + 1) * 40692 + m) (show (0 : Int) < 2147483647 by decide)
        revert f0 f1
        generalize (s * 48271 + (i + 1) * 40692 + m) % 2147483647 = f
        intro f0 f1
        refine sq_set (ed_op (ed_op (ed_op (ed_var rfl (.int f)) (ed_var rfl (.int f)) (rd_I (.inl ⟨by omega, by omega⟩))) (ed_op (ed_var rfl S8.d) ed_int (rd_ixL rfl)) rd_I0) ed_int (rd_I (by decide))) (ok_none _) (fun v G9 H9 X9 d9 => ?_)
        obtain rfl := dp_int d9
        have S9 := S8.x X9
        refine st_ret (K := K) (ed_op (ed_op (ed_op (ed_op (ed_op (ed_var rfl (.int _)) ed_int (rd_I (.inr (by decide)))) (ed_var rfl (.int f)) rd_I0) ed_int (rd_I (by decide))) ed_int (rd_I (C := CDivW) ⟨by decide, by decide +kernel⟩)) (ed_var rfl (.int u)) (rd_I hu)) (ok_none _) (fun v G10 H10 X10 d10 => ?_)
        obtain rfl := dp_int d10
        exact q _ G _ (Int.emod_nonneg _ (by omega)) (Int.emod_lt_of_pos _ hu) ((S9.x X10).ext e)
      · have S7 := S6.x X7
        refine ⟨_, rfl, .ref b, rfl, b, _, 2, 2, rfl, rfl, S7.h, rfl, ?_⟩
        exact fin (S7.put (i' := i + 1) (r' := s) ncb S7.p)
def isN (u : Int) (d : PyData) : Prop := ∃ n : Int, d = .int n ∧ 0 ≤ n ∧ n < u
theorem es_pull {b c : Addr} {i : Nat} {tb : TE} {σ : L2.St} {G : Hp} {E : XK} {u : Int} (hσ : σ[i]? = some (some (.ref b))) (hu : EvD K (some (b, c)) tb σ G (.int u)) (h0 : 0 < u) (hw : u < 2 ^ 250) :
    EvS K (some (b, c)) (tCall (sp__law_pull K) [] E (tCons (tVar i) (tCons tb tNil))) σ G (isN u) := fun H e Q q =>
  ⟨.ref b, hσ, hu H e _ fun v G2 H2 X dv => ⟨b, c, G2, u, by rw [dp_int dv]; rfl, X.ok, h0, lg h0 hw, fun n G3 H3 h1 h2 X3 => q (.int n) (.int n) G3 H3 ⟨n, rfl, h1, h2⟩ (X.trans X3) (.int n)⟩⟩
theorem es_pullS {b c : Addr} {i : Nat} {tb : TE} {σ : L2.St} {G : Hp} {E : XK} {S : PyData → Prop} {M : Int} (hσ : σ[i]? = some (some (.ref b))) (hu : EvS K (some (b, c)) tb σ G S) (hS : ∀ d, S d → ∃ u : Int, d = .int u ∧ 0 < u ∧ u ≤ M) (hM : M < 2 ^ 250) :
    EvS K (some (b, c)) (tCall (sp__law_pull K) [] E (tCons (tVar i) (tCons tb tNil))) σ G (isN M) := fun H e Q q =>
  ⟨.ref b, hσ, hu H e _ fun d v G2 H2 s X dv => by
    obtain ⟨u, rfl, h0, hu⟩ := hS d s
    exact ⟨b, c, G2, u, by rw [dp_int dv]; rfl, X.ok, h0, lg h0 (by omega), fun n G3 H3 h1 h2 X3 => q (.int n) (.int n) G3 H3 ⟨n, rfl, h1, by omega⟩ (X.trans X3) (.int n)⟩⟩
/-! _law_whole -/
def wholeD : PyData → Bool
  | .int _ => true
  | _ => false
theorem kb_ii : kitB "int" "int" = some true := by decide +kernel
theorem kb_ib : kitB "int" "bool" = some false := by decide +kernel
theorem kb_bi : kitB "bool" "int" = some true := by decide +kernel
theorem kb_bb : kitB "bool" "bool" = some true := by decide +kernel
theorem kb_ni : kitB "NoneType" "int" = some false := by decide +kernel
theorem kb_si : kitB "str" "int" = some false := by decide +kernel
theorem kb_sb : kitB "str" "bool" = some false := by decide +kernel
theorem kb_ss : kitB "str" "str" = some true := by decide +kernel
theorem kb_li : kitB "list" "int" = some false := by decide +kernel
theorem kb_lb : kitB "list" "bool" = some false := by decide +kernel
theorem kb_ls : kitB "list" "str" = some false := by decide +kernel
theorem kb_ll : kitB "list" "list" = some true := by decide +kernel
theorem kb_lt : kitB "list" "tuple" = some false := by decide +kernel
theorem kb_ti : kitB "tuple" "int" = some false := by decide +kernel
theorem kb_tb : kitB "tuple" "bool" = some false := by decide +kernel
theorem kb_ts : kitB "tuple" "str" = some false := by decide +kernel
theorem kb_tl : kitB "tuple" "list" = some false := by decide +kernel
theorem kb_tt : kitB "tuple" "tuple" = some true := by decide +kernel
def sp__law_whole (K : Fg) : Sp := fun vs H Q E => ∃ (B : Bg) (G : Hp) (v : V) (d : PyData), Ok K B G H ∧ vs = [v] ∧ Dp K G v d ∧ Ret K B G H Q (.bool (wholeD d))
abbrev N__law_whole : List Str := ["_law_found"]
theorem sc__law_whole : FnScope N__law_whole ["_law_found"] (defScope s__law_whole) := ⟨rfl, rfl, rfl, by decide +kernel, rfl, by decide +kernel, by decide +kernel⟩
theorem ok__law_whole (T : Txt K mg)  : Good P w K mg base (L2.CX P w) 1 "_law_whole" ["_law_found"] [] (sp__law_whole K) := by
  obtain ⟨fd, F⟩ := T.c.def_ 11 (d := d__law_whole) rfl
  have b : Binds K fd ["_law_found"] [] := F.bindsN fun _ _ _ _ _ _ us hl => match us, hl with | [_], _ => rfl
  refine ⟨⟨fd, [], F.ok sc__law_whole (fun vs H Q E h => ?_) (fun cdv A outer s H vs Q E hr h => ?_), .nil, b⟩, T.g__law_whole, F.kp⟩
  · obtain ⟨B, G, v, d, e, rfl, _⟩ := h
    all_goals rfl
  · obtain ⟨B, G, v, d, e, rfl, dv, q⟩ := h
    all_goals refine ⟨_, PSs.nox (pss_one (ps_ret (pe_and (pe_callB (r := rIsi K) call_isi (by rfl) T.f_isinstance (by decide +kernel) (pa_cons (pv 0) (pa_cons (pe_bltn (v := .ty "int") (by rfl) T.f_int (by decide +kernel) rfl) pa_nil))) (pe_one (pe_not (pe_callB (r := rIsi K) call_isi (by rfl) T.f_isinstance (by decide +kernel) (pa_cons (pv 0) (pa_cons (pe_bltn (v := .ty "bool") (by rfl) T.f_bool (by decide +kernel) rfl) pa_nil)))))))), ?_⟩
    cases dv with
    | non => exact st_ret (ed_andV (b := false) (c := true) (ed_isi (ed_var rfl .non) kb_ni) (fun z => Bool.noConfusion z)) e q
    | bl x => exact st_ret (ed_andV (b := true) (ed_isi (ed_var rfl (.bl x)) kb_bi) (fun _ => ed_notV (ed_isi (ed_var rfl (.bl x)) kb_bb))) e q
    | int x => exact st_ret (ed_andV (b := true) (ed_isi (ed_var rfl (.int x)) kb_ii) (fun _ => ed_notV (ed_isi (ed_var rfl (.int x)) kb_ib))) e q
    | str x => exact st_ret (ed_andV (b := false) (c := true) (ed_isi (ed_var rfl (.str x)) kb_si) (fun z => Bool.noConfusion z)) e q
    | lst h a => exact st_ret (ed_andV (b := false) (c := true) (ed_isi (ed_var rfl (.lst h a)) kb_li) (fun z => Bool.noConfusion z)) e q
    | tup h a => exact st_ret (ed_andV (b := false) (c := true) (ed_isi (ed_var rfl (.tup h a)) kb_ti) (fun z => Bool.noConfusion z)) e q
theorem ed_whole {B : Bg} {G : Hp} {σ : L2.St} {tr : TA} {E : XK} {d : PyData} (ha : EvA K B tr σ G [d]) : EvD K B (tCall (sp__law_whole K) [] E tr) σ G (.bool (wholeD d)) :=
  ed_call ha fun vs G2 H2 _ e dv Q q => by
    cases dv with
    | cons h a =>
      cases a
      exact ⟨B, G2, _, d, e, rfl, h, q⟩
/-! _law_same -/
/-- data of a depth below n, no list too long -/
def fit : Nat → PyData → Prop
  | 0, _ => False
  | n + 1, .list ds => ds.length ≤ 100000 ∧ ∀ x ∈ ds, fit n x
  | n + 1, .tuple ds => ds.length ≤ 100000 ∧ ∀ x ∈ ds, fit n x
  | _ + 1, .dict _ => False
  | _ + 1, _ => True
theorem fit_int {n : Nat} {i : Int} : fit (n + 1) (.int i) := trivial
theorem fit_tup {n : Nat} {ds : List PyData} (hl : ds.length ≤ 100000) (h : ∀ x ∈ ds, fit n x) : fit (n + 1) (.tuple ds) := ⟨hl, h⟩
theorem fa_nil {n : Nat} : ∀ x ∈ ([] : List PyData), fit n x := fun _ h => by cases h
theorem fa_cons {n : Nat} {d : PyData} {ds : List PyData} (h : fit n d) (h2 : ∀ x ∈ ds, fit n x) : ∀ x ∈ d :: ds, fit n x := fun x hx => by
  cases hx with
  | head => exact h
  | tail _ q => exact h2 x q
def sp_same (n : Nat) (K : Fg) : Sp := fun vs H Q E => ∃ (B : Bg) (G : Hp) (v u : V) (d : PyData), Ok K B G H ∧ vs = [v, u] ∧ Dp K G v d ∧ Dp K G u d ∧ fit n d ∧ Ret K B G H Q (.bool true)
abbrev sp__law_same (K : Fg) : Sp := sp_same 6 K
theorem ed_same {n : Nat} {B : Bg} {G : Hp} {σ : L2.St} {tr : TA} {E : XK} {d : PyData} (ha : EvA K B tr σ G [d, d]) (hf : fit n d) : EvD K B (tCall (sp_same n K) [] E tr) σ G (.bool true) :=
  ed_call ha fun vs G2 H2 _ e dv Q q => by
    cases dv with
    | cons h a =>
      cases a with
      | cons h2 a2 =>
        cases a2
        exact ⟨B, G2, _, _, d, e, rfl, h, h2, hf, q⟩
theorem all_yes (n : Nat) : (List.range n).filterMap (fun j : Nat => (fun _ : Int => some (PyData.bool true)) (j : Int)) = (List.replicate n true).map PyData.bool := by
  induction n with
  | zero => rfl
  | succ n ih =>
    rw [List.range_succ, List.filterMap_append, ih, List.replicate_succ', List.map_append]
    rfl
theorem at_some {ds : List PyData} {j : Nat} (h : j < ds.length) : atI ds (j : Int) = some ds[j] := atI_nat (List.getElem?_eq_getElem h)
abbrev N__law_same : List Str := ["_law_found", "_law_due", "_law_at"]
theorem sc__law_same : FnScope N__law_same ["_law_found", "_law_due"] (defScope s__law_same) := ⟨rfl, rfl, rfl, by decide +kernel, rfl, by decide +kernel, by decide +kernel⟩
theorem same_ok (T : Txt K mg) (G__law_whole : Good P w K mg base (L2.CX P w) 1 "_law_whole" ["_law_found"] [] (sp__law_whole K)) : ∀ n : Nat, Good P w K mg base (L2.CX P w) (n + 2) "_law_same" ["_law_found", "_law_due"] [] (sp_same n K)
  | 0 => by
    obtain ⟨fd, F⟩ := T.c.def_ 12 (d := d__law_same) rfl
    have b : Binds K fd ["_law_found", "_law_due"] [] := F.bindsN fun _ _ _ _ _ _ us hl => match us, hl with | [_, _], _ => rfl
    exact ⟨⟨fd, [], ⟨fun vs H Q E h => (by obtain ⟨_, _, _, _, _, _, _, _, _, z, _⟩ := h; exact z.elim), fun A outer s H args us vs Q E hr e0 hb hv h => (by obtain ⟨_, _, _, _, _, _, _, _, _, z, _⟩ := h; exact z.elim)⟩, .nil, b⟩, T.g__law_same, F.kp⟩
  | n + 1 => by
    have G__law_same := same_ok T G__law_whole n
    obtain ⟨fd, F⟩ := T.c.def_ 12 (d := d__law_same) rfl
    have b : Binds K fd ["_law_found", "_law_due"] [] := F.bindsN fun _ _ _ _ _ _ us hl => match us, hl with | [_, _], _ => rfl
    refine ⟨⟨fd, [], F.ok sc__law_same (fun vs H Q E h => ?_) (fun cdv A outer s H vs Q E hr h => ?_), .nil, b⟩, T.g__law_same, F.kp⟩
    · obtain ⟨B, G, v, u, d, e, rfl, _⟩ := h
      rfl
    · obtain ⟨B, G, v, u, d, e, rfl, dv, du, hf, q⟩ := h
      have hr1 : Room 1 _ := hr.mono (Nat.succ_le_succ (Nat.zero_le (n + 1)))
      refine ⟨_, PSs.nox (pss_cons (ps_if (pt_cmpR op_isN (pv 1) pe_non (nomark _)) (pss_one (ps_ret (pe_cmpR op_isN (pv 0) pe_non (nomark _)))) pss_nil) (pss_cons (ps_if (pt_val (pe_callB (r := rIsi K) call_isi (by rfl) T.f_isinstance (by decide +kernel) (pa_cons (pv 1) (pa_cons (pe_bltn (v := .ty "bool") (by rfl) T.f_bool (by decide +kernel) rfl) pa_nil)))) (pss_one (ps_ret (pe_and (pe_callB (r := rIsi K) call_isi (by rfl) T.f_isinstance (by decide +kernel) (pa_cons (pv 0) (pa_cons (pe_bltn (v := .ty "bool") (by rfl) T.f_bool (by decide +kernel) rfl) pa_nil))) (pe_one (pe_cmpR op_eq (pv 0) (pv 1) (nomark _)))))) pss_nil) (pss_cons (ps_if (pt_val (pe_callB (r := rIsi K) call_isi (by rfl) T.f_isinstance (by decide +kernel) (pa_cons (pv 1) (pa_cons (pe_bltn (v := .ty "int") (by rfl) T.f_int (by decide +kernel) rfl) pa_nil)))) (pss_one (ps_ret (pe_and (pe_own G__law_whole hr1 (by rfl) passL (pa_cons (pv 0) pa_nil)) (pe_one (pe_cmpR op_eq (pv 0) (pv 1) (nomark _)))))) pss_nil) (pss_cons (ps_if (pt_val (pe_callB (r := rIsi K) call_isi (by rfl) T.f_isinstance (by decide +kernel) (pa_cons (pv 1) (pa_cons (pe_bltn (v := .ty "str") (by rfl) T.f_str (by decide +kernel) rfl) pa_nil)))) (pss_one (ps_ret (pe_and (pe_callB (r := rIsi K) call_isi (by rfl) T.f_isinstance (by decide +kernel) (pa_cons (pv 0) (pa_cons (pe_bltn (v := .ty "str") (by rfl) T.f_str (by decide +kernel) rfl) pa_nil))) (pe_one (pe_cmpR op_eq (pv 0) (pv 1) (nomark _)))))) pss_nil) (pss_cons (ps_if (PW.pt (pw_or (pt_cmpR op_ne (pe_callB (r := rIsi K) call_isi (by rfl) T.f_isinstance (by decide +kernel) (pa_cons (pv 1) (pa_cons (pe_bltn (v := .ty "list") (by rfl) T.f_list (by decide +kernel) rfl) pa_nil))) (pe_callB (r := rIsi K) call_isi (by rfl) T.f_isinstance (by decide +kernel) (pa_cons (pv 0) (pa_cons (pe_bltn (v := .ty "list") (by rfl) T.f_list (by decide +kernel) rfl) pa_nil))) (nomark _)) (pw_or1 (pt_cmpR op_ne (pe_callB (r := rIsi K) call_isi (by rfl) T.f_isinstance (by decide +kernel) (pa_cons (pv 1) (pa_cons (pe_bltn (v := .ty "tuple") (by rfl) T.f_tuple (by decide +kernel) rfl) pa_nil))) (pe_callB (r := rIsi K) call_isi (by rfl) T.f_isinstance (by decide +kernel) (pa_cons (pv 0) (pa_cons (pe_bltn (v := .ty "tuple") (by rfl) T.f_tuple (by decide +kernel) rfl) pa_nil))) (nomark _))))) (pss_one (ps_ret pe_bl)) pss_nil) (pss_cons (ps_if (pt_cmpR op_ne (pe_callB (r := rLenS K) call_len_seq (by rfl) T.f_len (by decide +kernel) (pa_cons (pv 0) pa_nil)) (pe_callB (r := rLenS K) call_len_seq (by rfl) T.f_len (by decide +kernel) (pa_cons (pv 1) pa_nil)) (nomark _)) (pss_one (ps_ret pe_bl)) pss_nil) (pss_one (ps_ret (pe_callB (r := rAll K) (cr_all rfl) (by rfl) T.f_all (by decide +kernel) (pa_cons (pe_lc (own := [("_law_at", 2)]) (g := gName 2) rfl sc__law_same.nd (pi_range1 (by rfl) T.f_range (pa_cons (pe_callB (r := rLenS K) call_len_seq (by rfl) T.f_len (by decide +kernel) (pa_cons (pv 1) pa_nil)) pa_nil)) (blkOk_by (own := [("_law_at", 2)]) (N := N__law_same) (sc := defScope s__law_same) (by decide +kernel)) (fun _ _ _ _ _ => (pg_name (i := 2) sc__law_same.nd rfl (Or.inl rfl))) (fun _ _ _ _ _ => pts_nil) (fun _ _ _ _ _ => (pe_own G__law_same hr (by rfl) passL (pa_cons (pe_ix (r := rIx K) ix_seq (pv 0) (pv 2) (fun _ _ => rfl)) (pa_cons (pe_ix (r := rIx K) ix_seq (pv 1) (pv 2) (fun _ _ => rfl)) pa_nil))))) pa_nil)))))))))), ?_⟩
      refine sq_if (eb_test (ed_op (ed_var rfl du) ed_non rd_isN)) e (fun c G2 H2 X => ?_) (fun c G2 H2 X => ?_)
      · cases d with
        | none => exact st_ret (ed_op (ed_var rfl (dp_mono X.gg dv)) ed_non rd_isN) X.ok (q.mono X)
        | _ => exact Bool.noConfusion c
      replace q := q.mono X
      replace dv := dp_mono X.gg dv
      replace du := dp_mono X.gg du
      have e2 := X.ok
      cases d with
      | none => exact Bool.noConfusion c
      | bool x =>
        refine sq_if (b := true) (eb_B (ed_isi (ed_var rfl du) kb_bb)) e2 (fun _ G3 H3 X3 => ?_) (fun c _ _ _ => Bool.noConfusion c)
        refine st_ret (d := .bool true) (ed_is (ed_andV (b := true) (ed_isi (ed_var rfl (dp_mono X3.gg dv)) kb_bb) (fun _ => ed_op (ed_var rfl (dp_mono X3.gg dv)) (ed_var rfl (dp_mono X3.gg du)) (rd_eq rfl))) ?_) X3.ok (q.mono X3)
        rw [decide_eq_true (rfl : vOf (.bool x) = vOf (.bool x))]
        rfl
      | int x =>
        refine sq_if (b := false) (eb_B (ed_isi (ed_var rfl du) kb_ib)) e2 (fun c _ _ _ => Bool.noConfusion c) (fun _ G3 H3 X3 => ?_)
        refine sq_if (b := true) (eb_B (ed_isi (ed_var rfl (dp_mono X3.gg du)) kb_ii)) X3.ok (fun _ G4 H4 X4 => ?_) (fun c _ _ _ => Bool.noConfusion c)
        have g := X3.gg.trans X4.gg
        refine st_ret (d := .bool true) (ed_is (ed_andV (b := true) (ed_whole (ea_cons (ed_var rfl (dp_mono g dv)) ea_nil)) (fun _ => ed_op (ed_var rfl (dp_mono g dv)) (ed_var rfl (dp_mono g du)) (rd_eq rfl))) ?_) X4.ok (q.mono (X3.trans X4))
        rw [decide_eq_true (rfl : vOf (.int x) = vOf (.int x))]
        rfl
      | str x =>
        refine sq_if (b := false) (eb_B (ed_isi (ed_var rfl du) kb_sb)) e2 (fun c _ _ _ => Bool.noConfusion c) (fun _ G3 H3 X3 => ?_)
        refine sq_if (b := false) (eb_B (ed_isi (ed_var rfl (dp_mono X3.gg du)) kb_si)) X3.ok (fun c _ _ _ => Bool.noConfusion c) (fun _ G4 H4 X4 => ?_)
        refine sq_if (b := true) (eb_B (ed_isi (ed_var rfl (dp_mono (X3.gg.trans X4.gg) du)) kb_ss)) X4.ok (fun _ G5 H5 X5 => ?_) (fun c _ _ _ => Bool.noConfusion c)
        have g := (X3.gg.trans X4.gg).trans X5.gg
        refine st_ret (d := .bool true) (ed_is (ed_andV (b := true) (ed_isi (ed_var rfl (dp_mono g dv)) kb_ss) (fun _ => ed_op (ed_var rfl (dp_mono g dv)) (ed_var rfl (dp_mono g du)) (rd_eq rfl))) ?_) X5.ok (q.mono ((X3.trans X4).trans X5))
        rw [decide_eq_true (rfl : vOf (.str x) = vOf (.str x))]
        rfl
      | list ds =>
        refine sq_if (b := false) (eb_B (ed_isi (ed_var rfl du) kb_lb)) e2 (fun c _ _ _ => Bool.noConfusion c) (fun _ G3 H3 X3 => ?_)
        refine sq_if (b := false) (eb_B (ed_isi (ed_var rfl (dp_mono X3.gg du)) kb_li)) X3.ok (fun c _ _ _ => Bool.noConfusion c) (fun _ G4 H4 X4 => ?_)
        refine sq_if (b := false) (eb_B (ed_isi (ed_var rfl (dp_mono (X3.gg.trans X4.gg) du)) kb_ls)) X4.ok (fun c _ _ _ => Bool.noConfusion c) (fun _ G5 H5 X5 => ?_)
        have g := (X3.gg.trans X4.gg).trans X5.gg
        replace q := q.mono ((X3.trans X4).trans X5)
        replace dv := dp_mono g dv
        replace du := dp_mono g du
        refine sq_if (b := false) (eb_or (b := false) (eb_test (ed_op (ed_isi (ed_var rfl du) kb_ll) (ed_isi (ed_var rfl dv) kb_ll) (rd_ne rfl))) (fun _ => eb_test (ed_op (ed_isi (ed_var rfl du) kb_lt) (ed_isi (ed_var rfl dv) kb_lt) (rd_ne rfl)))) X5.ok (fun c _ _ _ => Bool.noConfusion c) (fun _ G6 H6 X6 => ?_)
        refine sq_if (b := false) (eb_is (eb_test (ed_op (ed_len (ed_var rfl (dp_mono X6.gg dv)) rfl) (ed_len (ed_var rfl (dp_mono X6.gg du)) rfl) (rd_ne rfl))) (by rw [decide_eq_true (rfl : vOf (.int (ds.length : Int)) = vOf (.int (ds.length : Int)))]; rfl)) X6.ok (fun c _ _ _ => Bool.noConfusion c) (fun _ G7 H7 X7 => ?_)
        have g7 := X6.gg.trans X7.gg
        refine st_ret (d := .bool true) (ed_is (ed_all (bs := List.replicate ds.length true) (EvF.ed (ed_isF (ef_lcR (n := ds.length) (f := fun _ => some (.bool true)) (ea_cons (ed_len (ed_var rfl (dp_mono g7 du)) rfl) ea_nil) hf.1 (fun j _ => eb_yes) (fun j d hj hd => ?_)) (all_yes _)))) (by simp)) X7.ok (q.mono (X6.trans X7))
        obtain rfl := Option.some.inj hd
        exact ed_same (d := ds[j]) (ea_cons (ed_op (ed_var rfl (dp_mono g7 dv)) (ed_var rfl (.int _)) (rd_ixSL (at_some hj))) (ea_cons (ed_op (ed_var rfl (dp_mono g7 du)) (ed_var rfl (.int _)) (rd_ixSL (at_some hj))) ea_nil)) (hf.2 _ (List.getElem_mem hj))
      | tuple ds =>
        refine sq_if (b := false) (eb_B (ed_isi (ed_var rfl du) kb_tb)) e2 (fun c _ _ _ => Bool.noConfusion c) (fun _ G3 H3 X3 => ?_)
        refine sq_if (b := false) (eb_B (ed_isi (ed_var rfl (dp_mono X3.gg du)) kb_ti)) X3.ok (fun c _ _ _ => Bool.noConfusion c) (fun _ G4 H4 X4 => ?_)
        refine sq_if (b := false) (eb_B (ed_isi (ed_var rfl (dp_mono (X3.gg.trans X4.gg) du)) kb_ts)) X4.ok (fun c _ _ _ => Bool.noConfusion c) (fun _ G5 H5 X5 => ?_)
        have g := (X3.gg.trans X4.gg).trans X5.gg
        replace q := q.mono ((X3.trans X4).trans X5)
        replace dv := dp_mono g dv
        replace du := dp_mono g du
        refine sq_if (b := false) (eb_or (b := false) (eb_test (ed_op (ed_isi (ed_var rfl du) kb_tl) (ed_isi (ed_var rfl dv) kb_tl) (rd_ne rfl))) (fun _ => eb_test (ed_op (ed_isi (ed_var rfl du) kb_tt) (ed_isi (ed_var rfl dv) kb_tt) (rd_ne rfl)))) X5.ok (fun c _ _ _ => Bool.noConfusion c) (fun _ G6 H6 X6 => ?_)
        refine sq_if (b := false) (eb_is (eb_test (ed_op (ed_len (ed_var rfl (dp_mono X6.gg dv)) rfl) (ed_len (ed_var rfl (dp_mono X6.gg du)) rfl) (rd_ne rfl))) (by rw [decide_eq_true (rfl : vOf (.int (ds.length : Int)) = vOf (.int (ds.length : Int)))]; rfl)) X6.ok (fun c _ _ _ => Bool.noConfusion c) (fun _ G7 H7 X7 => ?_)
        have g7 := X6.gg.trans X7.gg
        refine st_ret (d := .bool true) (ed_is (ed_all (bs := List.replicate ds.length true) (EvF.ed (ed_isF (ef_lcR (n := ds.length) (f := fun _ => some (.bool true)) (ea_cons (ed_len (ed_var rfl (dp_mono g7 du)) rfl) ea_nil) hf.1 (fun j _ => eb_yes) (fun j d hj hd => ?_)) (all_yes _)))) (by simp)) X7.ok (q.mono (X6.trans X7))
        obtain rfl := Option.some.inj hd
        exact ed_same (d := ds[j]) (ea_cons (ed_op (ed_var rfl (dp_mono g7 dv)) (ed_var rfl (.int _)) (rd_ixST (at_some hj))) (ea_cons (ed_op (ed_var rfl (dp_mono g7 du)) (ed_var rfl (.int _)) (rd_ixST (at_some hj))) ea_nil)) (hf.2 _ (List.getElem_mem hj))
      | dict kvs => exact hf.elim
theorem ok__law_same (T : Txt K mg) (G__law_whole : Good P w K mg base (L2.CX P w) 1 "_law_whole" ["_law_found"] [] (sp__law_whole K)) : Good P w K mg base (L2.CX P w) 8 "_law_same" ["_law_found", "_law_due"] [] (sp_same 6 K) := same_ok T G__law_whole 6
/-! _law_go -/
def okL (t : Int) : Prop := 0 ≤ t ∧ t ≤ 7
def dxL (t : Int) : Int := [1, 1, 0, -1, -1, -1, 0, 1].getD t.toNat 0
def dyL (t : Int) : Int := [0, 1, 1, 1, 0, -1, -1, -1].getD t.toNat 0
theorem lt8L {t : Int} (h : okL t) : ∃ n : Nat, t = (n : Int) ∧ n < 8 := by
  obtain ⟨h1, h2⟩ := h
  exact ⟨t.toNat, by omega, by omega⟩
theorem at_dxL {t : Int} (h : okL t) : atI ([.int 1, .int 1, .int 0, .int (0 - 1), .int (0 - 1), .int (0 - 1), .int 0, .int 1] : List PyData) t = some (.int (dxL t)) := by
  obtain ⟨n, rfl, hn⟩ := lt8L h
  refine atI_nat ?_
  match n, hn with
  | 0, _ | 1, _ | 2, _ | 3, _ | 4, _ | 5, _ | 6, _ | 7, _ => rfl
theorem at_dyL {t : Int} (h : okL t) : atI ([.int 0, .int 1, .int 1, .int 1, .int 0, .int (0 - 1), .int (0 - 1), .int (0 - 1)] : List PyData) t = some (.int (dyL t)) := by
  obtain ⟨n, rfl, hn⟩ := lt8L h
  refine atI_nat ?_
  match n, hn with
  | 0, _ | 1, _ | 2, _ | 3, _ | 4, _ | 5, _ | 6, _ | 7, _ => rfl
def goL (x y t : Int) : PyData := .tuple [.int (x + dxL t), .int (y + dyL t)]
def sp__law_go (K : Fg) : Sp := fun vs H Q E => ∃ (B : Bg) (G : Hp) (x y t : Int), Ok K B G H ∧ vs = [.int x, .int y, .int t] ∧ okL t ∧ Ret K B G H Q (goL x y t)
abbrev N__law_go : List Str := ["_law_here", "_law_low", "_law_pick", "_law_there"]
theorem sc__law_go : FnScope N__law_go ["_law_here", "_law_low", "_law_pick"] (defScope s__law_go) := ⟨rfl, rfl, rfl, by decide +kernel, rfl, by decide +kernel, by decide +kernel⟩
theorem ok__law_go (T : Txt K mg)  : Good P w K mg base (L2.CX P w) 1 "_law_go" ["_law_here", "_law_low", "_law_pick"] [] (sp__law_go K) := by
  obtain ⟨fd, F⟩ := T.c.def_ 13 (d := d__law_go) rfl
  have b : Binds K fd ["_law_here", "_law_low", "_law_pick"] [] := F.bindsN fun _ _ _ _ _ _ us hl => match us, hl with | [_, _, _], _ => rfl
  refine ⟨⟨fd, [], F.ok sc__law_go (fun vs H Q E h => ?_) (fun cdv A outer s H vs Q E hr h => ?_), .nil, b⟩, T.g__law_go, F.kp⟩
  · obtain ⟨B, G, x, y, t, e, rfl, _⟩ := h
    all_goals rfl
  · obtain ⟨B, G, x, y, t, e, rfl, z, q⟩ := h
    all_goals refine ⟨_, PSs.nox (pss_cons (ps_set (i := 3) sc__law_go.nd rfl (Or.inl rfl) (pe_op op_add (pv 0) (pe_ix (r := rIxL K) ix_list (pe_lst (pa_cons pe_int (pa_cons pe_int (pa_cons pe_int (pa_cons (pe_op op_sub pe_int pe_int) (pa_cons (pe_op op_sub pe_int pe_int) (pa_cons (pe_op op_sub pe_int pe_int) (pa_cons pe_int (pa_cons pe_int pa_nil))))))))) (pv 2) (fun _ _ => rfl)))) (pss_one (ps_ret (pe_tup (pa_cons (pv 3) (pa_cons (pe_op op_add (pv 1) (pe_ix (r := rIxL K) ix_list (pe_lst (pa_cons pe_int (pa_cons pe_int (pa_cons pe_int (pa_cons pe_int (pa_cons pe_int (pa_cons (pe_op op_sub pe_int pe_int) (pa_cons (pe_op op_sub pe_int pe_int) (pa_cons (pe_op op_sub pe_int pe_int) pa_nil))))))))) (pv 2) (fun _ _ => rfl))) pa_nil)))))), ?_⟩
    refine sq_set (ed_op (ed_var rfl (.int x)) (ed_op (ed_lst (ea_cons ed_int (ea_cons ed_int (ea_cons ed_int (ea_cons (ed_op ed_int ed_int rd_I0) (ea_cons (ed_op ed_int ed_int rd_I0) (ea_cons (ed_op ed_int ed_int rd_I0) (ea_cons ed_int (ea_cons ed_int ea_nil)))))))) (Nat.le_of_ble_eq_true rfl)) (ed_var rfl (.int t)) (rd_ixL (at_dxL z))) rd_I0) e (fun v G2 H2 X dv => ?_)
    obtain rfl := dp_int dv
    exact st_ret (ed_tup (ea_cons (ed_var rfl (.int _)) (ea_cons (ed_op (ed_var rfl (.int y)) (ed_op (ed_lst (ea_cons ed_int (ea_cons ed_int (ea_cons ed_int (ea_cons ed_int (ea_cons ed_int (ea_cons (ed_op ed_int ed_int rd_I0) (ea_cons (ed_op ed_int ed_int rd_I0) (ea_cons (ed_op ed_int ed_int rd_I0) ea_nil)))))))) (Nat.le_of_ble_eq_true rfl)) (ed_var rfl (.int t)) (rd_ixL (at_dyL z))) rd_I0) ea_nil)) (Nat.le_of_ble_eq_true rfl)) X.ok (q.mono X)
theorem ed_go {B : Bg} {G : Hp} {σ : L2.St} {tr : TA} {E : XK} {x y t : Int} (ha : EvA K B tr σ G [.int x, .int y, .int t]) (ht : okL t) : EvD K B (tCall (sp__law_go K) [] E tr) σ G (goL x y t) :=
  ed_call ha fun vs G2 H2 _ e dv Q q => ⟨B, G2, x, y, t, e, by rw [List.append_nil]; exact dpAll_intsV (bs := [x, y, t]) dv, ht, q⟩
/-! _law_name -/
/-- the law's own: the name of a lead -/
def nameN (x y t : Int) : List Int := if t < 4 then [x, y, t] else [x + dxL t, y + dyL t, t - 4]
def sp__law_name (K : Fg) : Sp := fun vs H Q E => ∃ (B : Bg) (G : Hp) (x y t : Int), Ok K B G H ∧ vs = [.int x, .int y, .int t] ∧ okL t ∧ Ret K B G H Q (encT (nameN x y t))
abbrev N__law_name : List Str := ["_law_here", "_law_low", "_law_pick"]
theorem sc__law_name : FnScope N__law_name ["_law_here", "_law_low", "_law_pick"] (defScope s__law_name) := ⟨rfl, rfl, rfl, by decide +kernel, rfl, by decide +kernel, by decide +kernel⟩
theorem ok__law_name (T : Txt K mg) (G__law_go : Good P w K mg base (L2.CX P w) 1 "_law_go" ["_law_here", "_law_low", "_law_pick"] [] (sp__law_go K)) : Good P w K mg base (L2.CX P w) 2 "_law_name" ["_law_here", "_law_low", "_law_pick"] [] (sp__law_name K) := by
  obtain ⟨fd, F⟩ := T.c.def_ 14 (d := d__law_name) rfl
  have b : Binds K fd ["_law_here", "_law_low", "_law_pick"] [] := F.bindsN fun _ _ _ _ _ _ us hl => match us, hl with | [_, _, _], _ => rfl
  refine ⟨⟨fd, [], F.ok sc__law_name (fun vs H Q E h => ?_) (fun cdv A outer s H vs Q E hr h => ?_), .nil, b⟩, T.g__law_name, F.kp⟩
  · obtain ⟨B, G, x, y, t, e, rfl, _⟩ := h
    all_goals rfl
  · obtain ⟨B, G, x, y, t, e, rfl, z, q⟩ := h
    all_goals refine ⟨_, PSs.nox (pss_cons (ps_if (pt_cmpR op_lt (pv 2) pe_int (nomark _)) (pss_one (ps_ret (pe_tup (pa_cons (pv 0) (pa_cons (pv 1) (pa_cons (pv 2) pa_nil)))))) pss_nil) (pss_one (ps_ret (pe_op (r := rCatT K) op_catT (pe_own G__law_go (hr.mono (by decide)) (by rfl) passL (pa_cons (pv 0) (pa_cons (pv 1) (pa_cons (pv 2) pa_nil)))) (pe_tup (pa_cons (pe_op op_sub (pv 2) pe_int) pa_nil)))))), ?_⟩
    unfold nameN at q
    refine sq_ifN (b := decide (t < 4)) (eb_test (ed_op (ed_var rfl (.int t)) ed_int rd_B0)) e (fun c G2 H2 X => ?_) (fun c G2 H2 X => ?_)
    · rw [if_pos (of_decide_eq_true c)] at q
      exact st_ret (ed_tup (ea_cons (ed_var rfl (.int x)) (ea_cons (ed_var rfl (.int y)) (ea_cons (ed_var rfl (.int t)) ea_nil))) (Nat.le_of_ble_eq_true rfl)) X.ok (q.mono X)
    · rw [if_neg (of_decide_eq_false c)] at q
      exact st_ret (ed_op (ed_go (ea_cons (ed_var rfl (.int x)) (ea_cons (ed_var rfl (.int y)) (ea_cons (ed_var rfl (.int t)) ea_nil))) z) (ed_tup (ea_cons (ed_op (ed_var rfl (.int t)) ed_int rd_I0) ea_nil) (Nat.le_of_ble_eq_true rfl)) (rd_catT (by intro z; cases z) (by intro z; cases z) (Nat.le_of_ble_eq_true rfl))) X.ok (q.mono X)
theorem ed_lname {B : Bg} {G : Hp} {σ : L2.St} {tr : TA} {E : XK} {x y t : Int} (ha : EvA K B tr σ G [.int x, .int y, .int t]) (z : okL t) : EvD K B (tCall (sp__law_name K) [] E tr) σ G (encT (nameN x y t)) :=
  ed_call ha fun vs G2 H2 _ e dv Q q => ⟨B, G2, x, y, t, e, by rw [List.append_nil]; exact dpAll_intsV (bs := [x, y, t]) dv, z, q⟩
/-! _law_tips -/
def tipsL (x y t : Int) : PyData := .tuple [.tuple [.int x, .int y], goL x y t]
def sp__law_tips (K : Fg) : Sp := fun vs H Q E => ∃ (B : Bg) (G : Hp) (v : V) (x y t : Int), Ok K B G H ∧ vs = [v] ∧ Dp K G v (.tuple [.int x, .int y, .int t]) ∧ okL t ∧ Ret K B G H Q (tipsL x y t)
abbrev N__law_tips : List Str := ["_law_name_here"]
theorem sc__law_tips : FnScope N__law_tips ["_law_name_here"] (defScope s__law_tips) := ⟨rfl, rfl, rfl, by decide +kernel, rfl, by decide +kernel, by decide +kernel⟩
theorem ok__law_tips (T : Txt K mg) (G__law_go : Good P w K mg base (L2.CX P w) 1 "_law_go" ["_law_here", "_law_low", "_law_pick"] [] (sp__law_go K)) : Good P w K mg base (L2.CX P w) 2 "_law_tips" ["_law_name_here"] [] (sp__law_tips K) := by
  obtain ⟨fd, F⟩ := T.c.def_ 15 (d := d__law_tips) rfl
  have b : Binds K fd ["_law_name_here"] [] := F.bindsN fun _ _ _ _ _ _ us hl => match us, hl with | [_], _ => rfl
  refine ⟨⟨fd, [], F.ok sc__law_tips (fun vs H Q E h => ?_) (fun cdv A outer s H vs Q E hr h => ?_), .nil, b⟩, T.g__law_tips, F.kp⟩
  · obtain ⟨B, G, v, x, y, t, e, rfl, _⟩ := h
    all_goals rfl
  · obtain ⟨B, G, v, x, y, t, e, rfl, dv, z, q⟩ := h
    all_goals refine ⟨_, PSs.nox (pss_one (ps_ret (pe_tup (pa_cons (pe_slice (r := rSlT K) sl_tup (pv 0) po_none (po_some pe_int)) (pa_cons (pe_own G__law_go (hr.mono (by decide)) (by rfl) passL (pa_cons (pe_ix (r := rIxT K) ix_tup (pv 0) pe_int (fun _ _ => rfl)) (pa_cons (pe_ix (r := rIxT K) ix_tup (pv 0) pe_int (fun _ _ => rfl)) (pa_cons (pe_ix (r := rIxT K) ix_tup (pv 0) pe_int (fun _ _ => rfl)) pa_nil)))) pa_nil))))), ?_⟩
    exact st_ret (ed_tup (ea_cons (ed_slT (ed_var rfl dv) eo_none (eo_some ed_int) (fun h => absurd h.2 (by show ¬ HT.sIx 3 3 (some 2) = 3; decide))) (ea_cons (ed_go (ea_cons (ed_op (ed_var rfl dv) ed_int (rd_ixT rfl)) (ea_cons (ed_op (ed_var rfl dv) ed_int (rd_ixT rfl)) (ea_cons (ed_op (ed_var rfl dv) ed_int (rd_ixT rfl)) ea_nil))) z) ea_nil)) (Nat.le_of_ble_eq_true rfl)) e q
theorem ed_tips {B : Bg} {G : Hp} {σ : L2.St} {tr : TA} {E : XK} {x y t : Int} (ha : EvA K B tr σ G [.tuple [.int x, .int y, .int t]]) (ht : okL t) : EvD K B (tCall (sp__law_tips K) [] E tr) σ G (tipsL x y t) :=
  ed_call ha fun vs G2 H2 _ e dv Q q => by
    cases dv with
    | cons h a =>
      cases a
      exact ⟨B, G2, _, x, y, t, e, rfl, h, ht, q⟩
/-! _law_on -/
def onL (w h x y : Int) : Bool := (decide (0 ≤ x) && decide (x ≤ w)) && (decide (0 ≤ y) && decide (y ≤ h))
def sp__law_on (K : Fg) : Sp := fun vs H Q E => ∃ (B : Bg) (G : Hp) (v u : V) (w h : Int) (L g : PyData) (x y : Int), Ok K B G H ∧ vs = [v, u] ∧ Dp K G v (.tuple [.int w, .int h, L, g]) ∧ Dp K G u (.tuple [.int x, .int y]) ∧ Ret K B G H Q (.bool (onL w h x y))
abbrev N__law_on : List Str := ["_law_plan_here", "_law_point"]
theorem sc__law_on : FnScope N__law_on ["_law_plan_here", "_law_point"] (defScope s__law_on) := ⟨rfl, rfl, rfl, by decide +kernel, rfl, by decide +kernel, by decide +kernel⟩
theorem ok__law_on (T : Txt K mg)  : Good P w K mg base (L2.CX P w) 1 "_law_on" ["_law_plan_here", "_law_point"] [] (sp__law_on K) := by
  obtain ⟨fd, F⟩ := T.c.def_ 16 (d := d__law_on) rfl
  have b : Binds K fd ["_law_plan_here", "_law_point"] [] := F.bindsN fun _ _ _ _ _ _ us hl => match us, hl with | [_, _], _ => rfl
  refine ⟨⟨fd, [], F.ok sc__law_on (fun vs H Q E h => ?_) (fun cdv A outer s H vs Q E hr h => ?_), .nil, b⟩, T.g__law_on, F.kp⟩
  · obtain ⟨B, G, v, u, w, h, L, g, x, y, e, rfl, _⟩ := h
    all_goals rfl
  · obtain ⟨B, G, v, u, wd, ht, L, g, x, y, e, rfl, dv, du, q⟩ := h
    all_goals refine ⟨_, PSs.nox (pss_one (ps_ret (pe_and (pe_chain op_le op_le pe_int (pe_ix (r := rIxT K) ix_tup (pv 1) pe_int (fun _ _ => rfl)) (pe_ix (r := rIxT K) ix_tup (pv 0) pe_int (fun _ _ => rfl))) (pe_one (pe_chain op_le op_le pe_int (pe_ix (r := rIxT K) ix_tup (pv 1) pe_int (fun _ _ => rfl)) (pe_ix (r := rIxT K) ix_tup (pv 0) pe_int (fun _ _ => rfl))))))), ?_⟩
    exact st_ret (ed_andV (ed_chain ed_int (ed_op (ed_var rfl du) ed_int (rd_ixT rfl)) (fun _ => ed_op (ed_var rfl dv) ed_int (rd_ixT rfl)) rd_B0 (fun _ => rd_B0)) (fun _ => ed_chain ed_int (ed_op (ed_var rfl du) ed_int (rd_ixT rfl)) (fun _ => ed_op (ed_var rfl dv) ed_int (rd_ixT rfl)) rd_B0 (fun _ => rd_B0))) e q
theorem ed_on {B : Bg} {G : Hp} {σ : L2.St} {tr : TA} {E : XK} {wd ht x y : Int} {L g : PyData} (ha : EvA K B tr σ G [.tuple [.int wd, .int ht, L, g], .tuple [.int x, .int y]]) : EvD K B (tCall (sp__law_on K) [] E tr) σ G (.bool (onL wd ht x y)) :=
  ed_call ha fun vs G2 H2 _ e dv Q q => by
    cases dv with
    | cons h a =>
      cases a with
      | cons h2 a2 =>
        cases a2
        exact ⟨B, G2, _, _, wd, ht, L, g, x, y, e, rfl, h, h2, q⟩
/-! _law_rim -/
def rimL (w h x y t : Int) : Bool := if t = 0 then decide (y = 0) || decide (y = h) else decide (t = 2) && (decide (x = 0) || decide (x = w))
theorem di {a b : Int} : decide (vOf (.int a) = vOf (.int b)) = decide (a = b) := decide_eq_decide.mpr ⟨fun h => V.int.inj h, fun h => congrArg V.int h⟩
def sp__law_rim (K : Fg) : Sp := fun vs H Q E => ∃ (B : Bg) (G : Hp) (v u : V) (w h : Int) (L g : PyData) (x y t : Int), Ok K B G H ∧ vs = [v, u] ∧ Dp K G v (.tuple [.int w, .int h, L, g]) ∧ Dp K G u (encT [x, y, t]) ∧ okL t ∧ Ret K B G H Q (.bool (rimL w h x y t))
abbrev N__law_rim : List Str := ["_law_plan_here", "_law_name_here", "_law_one", "_law_other"]
theorem sc__law_rim : FnScope N__law_rim ["_law_plan_here", "_law_name_here"] (defScope s__law_rim) := ⟨rfl, rfl, rfl, by decide +kernel, rfl, by decide +kernel, by decide +kernel⟩
theorem ok__law_rim (T : Txt K mg) (G__law_tips : Good P w K mg base (L2.CX P w) 2 "_law_tips" ["_law_name_here"] [] (sp__law_tips K)) : Good P w K mg base (L2.CX P w) 3 "_law_rim" ["_law_plan_here", "_law_name_here"] [] (sp__law_rim K) := by
  obtain ⟨fd, F⟩ := T.c.def_ 17 (d := d__law_rim) rfl
  have b : Binds K fd ["_law_plan_here", "_law_name_here"] [] := F.bindsN fun _ _ _ _ _ _ us hl => match us, hl with | [_, _], _ => rfl
  refine ⟨⟨fd, [], F.ok sc__law_rim (fun vs H Q E h => ?_) (fun cdv A outer s H vs Q E hr h => ?_), .nil, b⟩, T.g__law_rim, F.kp⟩
  · obtain ⟨B, G, v, u, w, h, L, g, x, y, t, e, rfl, _⟩ := h
    all_goals rfl
  · obtain ⟨B, G, v, u, wd, ht, L, g, x, y, t, e, rfl, dv, du, z, q⟩ := h
    all_goals refine ⟨_, PSs.nox (pss_cons (ps_asg (pe_own G__law_tips (hr.mono (by decide)) (by rfl) passL (pa_cons (pv 1) pa_nil)) (pg_tup rfl (pgs_cons (by exact (pg_name (i := 2) sc__law_rim.nd rfl (Or.inl rfl))) (pgs_cons (by exact (pg_name (i := 3) sc__law_rim.nd rfl (Or.inl rfl))) pgs_nil)))) (pss_cons (ps_if (pt_cmpR op_eq (pe_ix (r := rIxT K) ix_tup (pv 1) pe_int (fun _ _ => rfl)) pe_int (nomark _)) (pss_one (ps_ret (pe_or (pe_cmpR op_eq (pe_ix (r := rIxT K) ix_tup (pv 2) pe_int (fun _ _ => rfl)) pe_int (nomark _)) (pe_one (pe_cmpR op_eq (pe_ix (r := rIxT K) ix_tup (pv 2) pe_int (fun _ _ => rfl)) (pe_ix (r := rIxT K) ix_tup (pv 0) pe_int (fun _ _ => rfl)) (nomark _)))))) pss_nil) (pss_one (ps_ret (pe_and (pe_cmpR op_eq (pe_ix (r := rIxT K) ix_tup (pv 1) pe_int (fun _ _ => rfl)) pe_int (nomark _)) (pe_one (pe_or (pe_cmpR op_eq (pe_ix (r := rIxT K) ix_tup (pv 2) pe_int (fun _ _ => rfl)) pe_int (nomark _)) (pe_one (pe_cmpR op_eq (pe_ix (r := rIxT K) ix_tup (pv 2) pe_int (fun _ _ => rfl)) (pe_ix (r := rIxT K) ix_tup (pv 0) pe_int (fun _ _ => rfl)) (nomark _)))))))))), ?_⟩
    refine sq_unpack (ed_tips (ea_cons (ed_var rfl du) ea_nil) z) e rfl (fun vs G2 H2 X dvs => ?_)
    cases dvs with
    | cons h1 a1 =>
      cases a1 with
      | cons h2 a2 =>
        cases a2
        refine ⟨_, _, rfl, _, _, rfl, rfl, ?_⟩
        replace dv := dp_mono X.gg dv
        replace du := dp_mono X.gg du
        unfold rimL at q
        refine sq_ifN (b := decide (t = 0)) (eb_is (eb_test (ed_op (ed_op (ed_var rfl du) ed_int (rd_ixT rfl)) ed_int (rd_eq rfl))) di) X.ok (fun c G3 H3 X3 => ?_) (fun c G3 H3 X3 => ?_)
        · rw [if_pos (of_decide_eq_true c)] at q
          exact st_ret (ed_is (ed_orV (ed_op (ed_op (ed_var rfl (dp_mono X3.gg h1)) ed_int (rd_ixT rfl)) ed_int (rd_eq rfl)) (fun _ => ed_op (ed_op (ed_var rfl (dp_mono X3.gg h1)) ed_int (rd_ixT rfl)) (ed_op (ed_var rfl (dp_mono X3.gg dv)) ed_int (rd_ixT rfl)) (rd_eq rfl))) (by rw [di, di])) X3.ok ((q.mono X).mono X3)
        · rw [if_neg (of_decide_eq_false c)] at q
          exact st_ret (ed_is (ed_andV (ed_op (ed_op (ed_var rfl (dp_mono X3.gg du)) ed_int (rd_ixT rfl)) ed_int (rd_eq rfl)) (fun _ => ed_orV (ed_op (ed_op (ed_var rfl (dp_mono X3.gg h1)) ed_int (rd_ixT rfl)) ed_int (rd_eq rfl)) (fun _ => ed_op (ed_op (ed_var rfl (dp_mono X3.gg h1)) ed_int (rd_ixT rfl)) (ed_op (ed_var rfl (dp_mono X3.gg dv)) ed_int (rd_ixT rfl)) (rd_eq rfl)))) (by rw [di, di, di])) X3.ok ((q.mono X).mono X3)
theorem ed_rim {B : Bg} {G : Hp} {σ : L2.St} {tr : TA} {E : XK} {wd ht x y t : Int} {L g : PyData} (ha : EvA K B tr σ G [.tuple [.int wd, .int ht, L, g], encT [x, y, t]]) (z : okL t) : EvD K B (tCall (sp__law_rim K) [] E tr) σ G (.bool (rimL wd ht x y t)) :=
  ed_call ha fun vs G2 H2 _ e dv Q q => by
    cases dv with
    | cons h a =>
      cases a with
      | cons h2 a2 =>
        cases a2
        exact ⟨B, G2, _, _, wd, ht, L, g, x, y, t, e, rfl, h, h2, z, q⟩
/-! _law_all -/
def rowL (w h x y : Int) : List (List Int) := (List.range 4).filterMap fun t : Nat => if onL w h (x + dxL t) (y + dyL t) then some [x, y, (t : Int)] else none
def colL (w h x : Int) (n : Nat) : List (List Int) := (List.range n).flatMap fun y : Nat => rowL w h x (y : Int)
def allN (w h : Int) (m : Nat) : List (List Int) := (List.range m).flatMap fun x : Nat => colL w h (x : Int) (h.toNat + 1)
def allL (w h : Int) : List (List Int) := allN w h (w.toNat + 1)
theorem rowL_len (w h x y : Int) : (rowL w h x y).length ≤ 4 := List.length_filterMap_le _ _
theorem colL_succ (w h x : Int) (n : Nat) : colL w h x (n + 1) = colL w h x n ++ rowL w h x n := by
  unfold colL
  rw [List.range_succ, List.flatMap_append]
  simp
theorem allN_succ (w h : Int) (n : Nat) : allN w h (n + 1) = allN w h n ++ colL w h n (h.toNat + 1) := by
  unfold allN
  rw [List.range_succ, List.flatMap_append]
  simp
theorem colL_len (w h x : Int) : ∀ n, (colL w h x n).length ≤ 4 * n
  | 0 => Nat.le_refl _
  | n + 1 => by
    rw [colL_succ, List.length_append]
    have := colL_len w h x n
    have := rowL_len w h x n
    omega
theorem allN_len (w h : Int) (hh : h ≤ 9) : ∀ n, (allN w h n).length ≤ 40 * n
  | 0 => Nat.le_refl _
  | n + 1 => by
    rw [allN_succ, List.length_append]
    have := allN_len w h hh n
    have := colL_len w h n (h.toNat + 1)
    omega
theorem row_enc (w h x y : Int) : (List.range 4).filterMap (fun t : Nat => (fun t : Int => if onL w h (x + dxL t) (y + dyL t) then some (encT [x, y, t]) else none) (t : Int)) = (rowL w h x y).map encT := by
  unfold rowL
  rw [List.map_filterMap]
  congr 1
  funext t
  show (if onL w h (x + dxL t) (y + dyL t) then some (encT [x, y, t]) else none) = Option.map encT (if onL w h (x + dxL t) (y + dyL t) then some [x, y, (t : Int)] else none)
  split <;> rfl
def planD (w h : Int) (L g : PyData) : PyData := .tuple [.int w, .int h, L, g]
def sp__law_all (K : Fg) : Sp := fun vs H Q E => ∃ (B : Bg) (G : Hp) (v : V) (w h : Int) (L g : PyData), Ok K B G H ∧ vs = [v] ∧ Dp K G v (planD w h L g) ∧ (1 ≤ w ∧ w ≤ 9) ∧ (1 ≤ h ∧ h ≤ 9) ∧ Ret K B G H Q (.list ((allL w h).map encT))
abbrev N__law_all : List Str := ["_law_plan_here", "_law_found", "_law_x", "_law_y", "_law_turn"]
theorem sc__law_all : FnScope N__law_all ["_law_plan_here"] (defScope s__law_all) := ⟨rfl, rfl, rfl, by decide +kernel, rfl, by decide +kernel, by decide +kernel⟩
theorem ok__law_all (T : Txt K mg) (G__law_on : Good P w K mg base (L2.CX P w) 1 "_law_on" ["_law_plan_here", "_law_point"] [] (sp__law_on K)) (G__law_go : Good P w K mg base (L2.CX P w) 1 "_law_go" ["_law_here", "_law_low", "_law_pick"] [] (sp__law_go K)) : Good P w K mg base (L2.CX P w) 2 "_law_all" ["_law_plan_here"] [] (sp__law_all K) := by
  obtain ⟨fd, F⟩ := T.c.def_ 18 (d := d__law_all) rfl
  have b : Binds K fd ["_law_plan_here"] [] := F.bindsN fun _ _ _ _ _ _ us hl => match us, hl with | [_], _ => rfl
  refine ⟨⟨fd, [], F.ok sc__law_all (fun vs H Q E h => ?_) (fun cdv A outer s H vs Q E hr h => ?_), .nil, b⟩, T.g__law_all, F.kp⟩
  · obtain ⟨B, G, v, w, h, L, g, e, rfl, _⟩ := h
    all_goals rfl
  · obtain ⟨B, G, v, wd, ht, L, g, e, rfl, dv, hw, hh, q⟩ := h
    all_goals refine ⟨_, PSs.nox (pss_cons (ps_set (i := 1) sc__law_all.nd rfl (Or.inl rfl) (pe_lst pa_nil)) (pss_cons (ps_for PassesOwn.never rfl (pi_range1 (by rfl) T.f_range (pa_cons (pe_op op_add (pe_ix (r := rIxT K) ix_tup (pv 0) pe_int (fun _ _ => rfl)) pe_int) pa_nil)) (pg_name (i := 2) sc__law_all.nd rfl (Or.inr rfl)) (pss_one (ps_for PassesOwn.never rfl (pi_range1 (by rfl) T.f_range (pa_cons (pe_op op_add (pe_ix (r := rIxT K) ix_tup (pv 0) pe_int (fun _ _ => rfl)) pe_int) pa_nil)) (pg_name (i := 3) sc__law_all.nd rfl (Or.inr rfl)) (pss_one (ps_set (i := 1) sc__law_all.nd rfl (Or.inl rfl) (pe_op op_cat (pv 1) (pe_lc (own := [("_law_turn", 4)]) (g := gName 4) rfl sc__law_all.nd (pi_range1 (by rfl) T.f_range (pa_cons pe_int pa_nil)) (blkOk_by (own := [("_law_turn", 4)]) (N := N__law_all) (sc := defScope s__law_all) (by decide +kernel)) (fun _ _ _ _ _ => (pg_name (i := 4) sc__law_all.nd rfl (Or.inl rfl))) (fun _ _ _ _ _ => (pts_one (pt_val (pe_own G__law_on (hr.mono (by decide)) (by rfl) passL (pa_cons (pv 0) (pa_cons (pe_own G__law_go (hr.mono (by decide)) (by rfl) passL (pa_cons (pv 2) (pa_cons (pv 3) (pa_cons (pv 4) pa_nil)))) pa_nil)))))) (fun _ _ _ _ _ => (pe_tup (pa_cons (pv 2) (pa_cons (pv 3) (pa_cons (pv 4) pa_nil)))))))))))) (pss_one (ps_ret (pv 1))))), ?_⟩
    refine sq_setZ (ef_lst ea_nil (Nat.le_of_ble_eq_true rfl)) e (fun p xs G2 H2 X hp hx => ?_)
    have ew : ((wd.toNat + 1 : Nat) : Int) = wd + 1 := by omega
    have eh : ((ht.toNat + 1 : Nat) : Int) = ht + 1 := by omega
    refine sq_forR (n := wd.toNat + 1) (Pv := fun j σ' G' H' => ∃ p xs y2 y3 y4, σ' = [some v, some (.ref p), y2, y3, y4] ∧ G' p = some (.lst xs) ∧ DpAll K G' xs ((allN wd ht j).map encT)) (ea_cons (ed_is (ed_op (ed_op (ed_var rfl (dp_mono X.gg dv)) ed_int (rd_ixT (d := .int wd) rfl)) ed_int rd_I0) (by rw [ew])) ea_nil) (by omega) X.ok (fun G3 H3 X3 => ⟨p, xs, none, none, none, rfl, X3.gg _ _ hp, dpAll_mono X3.gg hx⟩) (fun G3 H3 X3 j σ4 G4 H4 hj X4 P4 => ?_) (fun σ4 G4 H4 X4 P4 => ?_)
    · obtain ⟨p, xs, y2, y3, y4, rfl, hp, hx⟩ := P4
      have dv4 := dp_mono (X.gg.trans (X3.gg.trans X4.gg)) dv
      have al := allN_len wd ht hh.2 j
      refine st_forR (n := ht.toNat + 1) (Pv := fun k σ' G' H' => ∃ p xs y3 y4, σ' = [some v, some (.ref p), some (.int (j : Int)), y3, y4] ∧ G' p = some (.lst xs) ∧ DpAll K G' xs ((allN wd ht j ++ colL wd ht j k).map encT)) (ea_cons (ed_is (ed_op (ed_op (ed_var rfl dv4) ed_int (rd_ixT (d := .int ht) rfl)) ed_int rd_I0) (by rw [eh])) ea_nil) (by omega) X4.ok (fun G5 H5 X5 => ⟨p, xs, y3, y4, rfl, X5.gg _ _ hp, ?_⟩) (fun G5 H5 X5 k σ6 G6 H6 hk X6 P6 => ?_) (fun σ6 G6 H6 X6 P6 => ?_)
      · rw [show colL wd ht j 0 = [] from rfl, List.append_nil]
        exact dpAll_mono X5.gg hx
      · obtain ⟨p, xs, y3, y4, rfl, hp, hx⟩ := P6
        have dv6 := dp_mono (X5.gg.trans X6.gg) dv4
        have cl := colL_len wd ht j k
        have rl := rowL_len wd ht j k
        refine st_setZ (ef_catV rfl hp hx (ed_isF (ef_lcR (n := 4) (f := fun t : Int => if onL wd ht ((j : Int) + dxL t) ((k : Int) + dyL t) then some (encT [(j : Int), (k : Int), t]) else none) (ea_cons ed_int ea_nil) (by decide) (fun t ht' => ?_) (fun t d ht' hd => ?_)) (row_enc wd ht j k)) ?_) X6.ok (fun p2 xs2 G7 H7 X7 hp7 hx7 => ⟨G7, X6.trans X7, p2, xs2, _, _, rfl, hp7, ?_⟩)
        · have zt : okL (t : Int) := ⟨by omega, by omega⟩
          refine eb_is (eb_B (ed_on (L := L) (g := g) (ea_cons (ed_var rfl dv6) (ea_cons (ed_go (ea_cons (ed_var rfl (.int _)) (ea_cons (ed_var rfl (.int _)) (ea_cons (ed_var rfl (.int _)) ea_nil))) zt) ea_nil)))) ?_
          cases onL wd ht ((j : Int) + dxL t) ((k : Int) + dyL t) <;> rfl
        · have e0 : d = encT [(j : Int), (k : Int), (t : Int)] := by
            revert hd
            cases onL wd ht ((j : Int) + dxL t) ((k : Int) + dyL t) with
            | true => exact fun h => (Option.some.inj h).symm
            | false => exact fun h => by cases h
          subst e0
          exact ed_tup (ea_cons (ed_var rfl (.int _)) (ea_cons (ed_var rfl (.int _)) (ea_cons (ed_var rfl (.int _)) ea_nil))) (Nat.le_of_ble_eq_true rfl)
        · rw [List.length_map, List.length_map, List.length_append]
          omega
        · rw [colL_succ, ← List.append_assoc, List.map_append]
          exact hx7
      · obtain ⟨p, xs, y3, y4, rfl, hp, hx⟩ := P6
        refine ⟨G6, X4.trans X6, p, xs, _, _, _, rfl, hp, ?_⟩
        rw [allN_succ]
        exact hx
    · obtain ⟨p, xs, y2, y3, y4, rfl, hp, hx⟩ := P4
      exact ⟨.ref p, rfl, q _ G4 H4 (X.trans X4) (.lst (SqL.of hp) hx)⟩
theorem ed_all_ {B : Bg} {G : Hp} {σ : L2.St} {tr : TA} {E : XK} {wd ht : Int} {L g : PyData} (ha : EvA K B tr σ G [planD wd ht L g]) (hw : 1 ≤ wd ∧ wd ≤ 9) (hh : 1 ≤ ht ∧ ht ≤ 9) : EvD K B (tCall (sp__law_all K) [] E tr) σ G (.list ((allL wd ht).map encT)) :=
  ed_call ha fun vs G2 H2 _ e dv Q q => by
    cases dv with
    | cons h a =>
      cases a
      exact ⟨B, G2, _, wd, ht, L, g, e, rfl, h, hw, hh, q⟩
/-! _law_within -/
/-! leads within, and all of them -/
def rimN (w h : Int) : List Int → Bool
  | [x, y, t] => rimL w h x y t
  | _ => false
def rimD (w h : Int) : PyData → Bool
  | .tuple [.int x, .int y, .int t] => rimL w h x y t
  | _ => false
def withinL (w h : Int) : List (List Int) := (allL w h).filter fun l => !rimN w h l
theorem rowL_mem {w h x y : Int} {l : List Int} (hl : l ∈ rowL w h x y) : ∃ t : Int, l = [x, y, t] ∧ 0 ≤ t ∧ t ≤ 3 ∧ onL w h (x + dxL t) (y + dyL t) = true := by
  unfold rowL at hl
  obtain ⟨t, ht, e⟩ := List.mem_filterMap.mp hl
  have h4 := List.mem_range.mp ht
  by_cases c : onL w h (x + dxL t) (y + dyL t) = true
  · rw [if_pos c] at e
    exact ⟨(t : Int), (Option.some.inj e).symm, by omega, by omega, c⟩
  · rw [if_neg c] at e
    cases e
theorem allL_mem {w h : Int} {l : List Int} (hw : 0 ≤ w) (hh : 0 ≤ h) (hl : l ∈ allL w h) : ∃ x y t : Int, l = [x, y, t] ∧ (0 ≤ x ∧ x ≤ w) ∧ (0 ≤ y ∧ y ≤ h) ∧ (0 ≤ t ∧ t ≤ 3) ∧ onL w h (x + dxL t) (y + dyL t) = true := by
  unfold allL allN colL at hl
  obtain ⟨x, hx, hl⟩ := List.mem_flatMap.mp hl
  obtain ⟨y, hy, hl⟩ := List.mem_flatMap.mp hl
  obtain ⟨t, e, h1, h2, h3⟩ := rowL_mem hl
  have := List.mem_range.mp hx
  have := List.mem_range.mp hy
  exact ⟨x, y, t, e, ⟨by omega, by omega⟩, ⟨by omega, by omega⟩, ⟨h1, h2⟩, h3⟩
theorem filter_enc {p : List Int → Bool} {f : PyData → Option PyData} : ∀ {ls : List (List Int)}, (∀ l ∈ ls, f (encT l) = if p l then some (encT l) else none) → (ls.map encT).filterMap f = (ls.filter p).map encT
  | [], _ => rfl
  | l :: ls, h => by
    have ih := filter_enc (ls := ls) fun k hk => h k (List.mem_cons_of_mem _ hk)
    have h0 := h l List.mem_cons_self
    rw [List.map_cons, List.filterMap_cons, h0, ih, List.filter_cons]
    by_cases c : p l = true
    · simp only [c, if_true, List.map_cons]
    · simp only [c, if_false, Bool.false_eq_true]
theorem allL_len {w h : Int} (hw : 1 ≤ w ∧ w ≤ 9) (hh : 1 ≤ h ∧ h ≤ 9) : (allL w h).length ≤ 400 := by
  have := allN_len w h hh.2 (w.toNat + 1)
  unfold allL
  omega
def sp__law_within (K : Fg) : Sp := fun vs H Q E => ∃ (B : Bg) (G : Hp) (v : V) (w h : Int) (L g : PyData), Ok K B G H ∧ vs = [v] ∧ Dp K G v (planD w h L g) ∧ (1 ≤ w ∧ w ≤ 9) ∧ (1 ≤ h ∧ h ≤ 9) ∧ RetF K B G H Q ((withinL w h).map encT)
abbrev N__law_within : List Str := ["_law_plan_here", "_law_name_here"]
theorem sc__law_within : FnScope N__law_within ["_law_plan_here"] (defScope s__law_within) := ⟨rfl, rfl, rfl, by decide +kernel, rfl, by decide +kernel, by decide +kernel⟩
theorem ok__law_within (T : Txt K mg) (G__law_all : Good P w K mg base (L2.CX P w) 2 "_law_all" ["_law_plan_here"] [] (sp__law_all K)) (G__law_rim : Good P w K mg base (L2.CX P w) 3 "_law_rim" ["_law_plan_here", "_law_name_here"] [] (sp__law_rim K)) : Good P w K mg base (L2.CX P w) 4 "_law_within" ["_law_plan_here"] [] (sp__law_within K) := by
  obtain ⟨fd, F⟩ := T.c.def_ 19 (d := d__law_within) rfl
  have b : Binds K fd ["_law_plan_here"] [] := F.bindsN fun _ _ _ _ _ _ us hl => match us, hl with | [_], _ => rfl
  refine ⟨⟨fd, [], F.ok sc__law_within (fun vs H Q E h => ?_) (fun cdv A outer s H vs Q E hr h => ?_), .nil, b⟩, T.g__law_within, F.kp⟩
  · obtain ⟨B, G, v, w, h, L, g, e, rfl, _⟩ := h
    all_goals rfl
  · obtain ⟨B, G, v, wd, ht, L, g, e, rfl, dv, hw, hh, q⟩ := h
    all_goals refine ⟨_, PSs.nox (pss_one (ps_ret (pe_lc (own := [("_law_name_here", 1)]) (g := gName 1) rfl sc__law_within.nd (pi_list (pe_own G__law_all (hr.mono (by decide)) (by rfl) passL (pa_cons (pv 0) pa_nil))) (blkOk_by (own := [("_law_name_here", 1)]) (N := N__law_within) (sc := defScope s__law_within) (by decide +kernel)) (fun _ _ _ _ _ => (pg_name (i := 1) sc__law_within.nd rfl (Or.inl rfl))) (fun _ _ _ _ _ => (pts_one (pt_not (pt_val (pe_own G__law_rim (hr.mono (by decide)) (by rfl) passL (pa_cons (pv 0) (pa_cons (pv 1) pa_nil))))))) (fun _ _ _ _ _ => (pv 1))))), ?_⟩
    have al := allL_len hw hh
    refine st_retF (ed_isF (ef_lcL (f := fun d => if rimD wd ht d then none else some d) (ed_all_ (ea_cons (ed_var rfl dv) ea_nil) hw hh) (by rw [List.length_map]; omega) (fun d u G' md eg cg du => ?_) (fun d u y G' md eg cg du ey => ?_)) (filter_enc (p := fun l => !rimN wd ht l) fun l hl => ?_)) e q
    · obtain ⟨l, hl, rfl⟩ := List.mem_map.mp md
      obtain ⟨x, y, t, rfl, hx, hy, htt, _⟩ := allL_mem (by omega) (by omega) hl
      refine eb_is (eb_not (eb_B (ed_rim (L := L) (g := g) (ea_cons (ed_var rfl (dp_mono eg dv)) (ea_cons (ed_var rfl du) ea_nil)) ⟨by omega, by omega⟩))) ?_
      show (!rimL wd ht x y t) = (if rimL wd ht x y t then none else some (encT [x, y, t])).isSome
      cases rimL wd ht x y t <;> rfl
    · have e0 : y = d := by
        revert ey
        cases rimD wd ht d with
        | true => exact fun h => by cases h
        | false => exact fun h => (Option.some.inj h).symm
      subst e0
      exact ed_var rfl du
    · obtain ⟨x, y, t, rfl, _⟩ := allL_mem (by omega) (by omega) hl
      show (if rimL wd ht x y t then none else some (encT [x, y, t])) = if (!rimL wd ht x y t) = true then some (encT [x, y, t]) else none
      cases rimL wd ht x y t <;> rfl
theorem ef_within {B : Bg} {G : Hp} {σ : L2.St} {tr : TA} {E : XK} {wd ht : Int} {L g : PyData} (ha : EvA K B tr σ G [planD wd ht L g]) (hw : 1 ≤ wd ∧ wd ≤ 9) (hh : 1 ≤ ht ∧ ht ≤ 9) : EvF K B (tCall (sp__law_within K) [] E tr) σ G ((withinL wd ht).map encT) :=
  ef_call ha fun vs G2 H2 _ e dv Q q => by
    cases dv with
    | cons h a =>
      cases a
      exact ⟨B, G2, _, wd, ht, L, g, e, rfl, h, hw, hh, q⟩
theorem ed_within {B : Bg} {G : Hp} {σ : L2.St} {tr : TA} {E : XK} {wd ht : Int} {L g : PyData} (ha : EvA K B tr σ G [planD wd ht L g]) (hw : 1 ≤ wd ∧ wd ≤ 9) (hh : 1 ≤ ht ∧ ht ≤ 9) : EvD K B (tCall (sp__law_within K) [] E tr) σ G (.list ((withinL wd ht).map encT)) := EvF.ed (ef_within ha hw hh)
/-! _law_over -/
def overL (x y t : Int) : PyData := if t % 2 = 0 then .none else encT [x + 2 - t, y, 4 - t]
def sp__law_over (K : Fg) : Sp := fun vs H Q E => ∃ (B : Bg) (G : Hp) (v : V) (x y t : Int), Ok K B G H ∧ vs = [v] ∧ Dp K G v (encT [x, y, t]) ∧ Ret K B G H Q (overL x y t)
abbrev N__law_over : List Str := ["_law_name_here"]
theorem sc__law_over : FnScope N__law_over ["_law_name_here"] (defScope s__law_over) := ⟨rfl, rfl, rfl, by decide +kernel, rfl, by decide +kernel, by decide +kernel⟩
theorem ok__law_over (T : Txt K mg)  : Good P w K mg base (L2.CX P w) 1 "_law_over" ["_law_name_here"] [] (sp__law_over K) := by
  obtain ⟨fd, F⟩ := T.c.def_ 20 (d := d__law_over) rfl
  have b : Binds K fd ["_law_name_here"] [] := F.bindsN fun _ _ _ _ _ _ us hl => match us, hl with | [_], _ => rfl
  refine ⟨⟨fd, [], F.ok sc__law_over (fun vs H Q E h => ?_) (fun cdv A outer s H vs Q E hr h => ?_), .nil, b⟩, T.g__law_over, F.kp⟩
  · obtain ⟨B, G, v, x, y, t, e, rfl, _⟩ := h
    all_goals rfl
  · obtain ⟨B, G, v, x, y, t, e, rfl, dv, q⟩ := h
    all_goals refine ⟨_, PSs.nox (pss_cons (ps_if (pt_cmpR op_eq (pe_op op_mod (pe_ix (r := rIxT K) ix_tup (pv 0) pe_int (fun _ _ => rfl)) pe_int) pe_int (nomark _)) (pss_one (ps_ret pe_non)) pss_nil) (pss_one (ps_ret (pe_tup (pa_cons (pe_op op_sub (pe_op op_add (pe_ix (r := rIxT K) ix_tup (pv 0) pe_int (fun _ _ => rfl)) pe_int) (pe_ix (r := rIxT K) ix_tup (pv 0) pe_int (fun _ _ => rfl))) (pa_cons (pe_ix (r := rIxT K) ix_tup (pv 0) pe_int (fun _ _ => rfl)) (pa_cons (pe_op op_sub pe_int (pe_ix (r := rIxT K) ix_tup (pv 0) pe_int (fun _ _ => rfl))) pa_nil))))))), ?_⟩
    unfold overL at q
    refine sq_ifN (b := decide (t % 2 = 0)) (eb_is (eb_test (ed_op (ed_op (ed_op (ed_var rfl dv) ed_int (rd_ixT rfl)) ed_int (rd_I (by decide))) ed_int (rd_eq rfl))) di) e (fun c G3 H3 X3 => ?_) (fun c G3 H3 X3 => ?_)
    · rw [if_pos (of_decide_eq_true c)] at q
      exact st_ret ed_non X3.ok (q.mono X3)
    · rw [if_neg (of_decide_eq_false c)] at q
      replace dv := dp_mono X3.gg dv
      exact st_ret (ed_tup (ea_cons (ed_op (ed_op (ed_op (ed_var rfl dv) ed_int (rd_ixT rfl)) ed_int rd_I0) (ed_op (ed_var rfl dv) ed_int (rd_ixT rfl)) rd_I0) (ea_cons (ed_op (ed_var rfl dv) ed_int (rd_ixT rfl)) (ea_cons (ed_op ed_int (ed_op (ed_var rfl dv) ed_int (rd_ixT rfl)) rd_I0) ea_nil))) (Nat.le_of_ble_eq_true rfl)) X3.ok (q.mono X3)
theorem ed_over {B : Bg} {G : Hp} {σ : L2.St} {tr : TA} {E : XK} {x y t : Int} (ha : EvA K B tr σ G [encT [x, y, t]]) : EvD K B (tCall (sp__law_over K) [] E tr) σ G (overL x y t) :=
  ed_call ha fun vs G2 H2 _ e dv Q q => by
    cases dv with
    | cons h a =>
      cases a
      exact ⟨B, G2, _, x, y, t, e, rfl, h, q⟩
/-! _law_joined -/
def encP (p : Nat × Nat) : PyData := encT [(p.1 : Int), (p.2 : Int)]
def joinS (ls : List Int) (p : Nat × Nat) : List Int :=
  if min (ls.getD p.1 0) (ls.getD p.2 0) = max (ls.getD p.1 0) (ls.getD p.2 0) then ls else ls.map fun m => if m = max (ls.getD p.1 0) (ls.getD p.2 0) then min (ls.getD p.1 0) (ls.getD p.2 0) else m
def range0 (n : Nat) : List Int := (List.range n).map fun i : Nat => (i : Int)
def joinedL (n : Nat) (ps : List (Nat × Nat)) : List Int := ps.foldl joinS (range0 n)
theorem joinS_len (ls : List Int) (p : Nat × Nat) : (joinS ls p).length = ls.length := by
  unfold joinS
  split
  · rfl
  · rw [List.length_map]
theorem joined_len (n : Nat) (ps : List (Nat × Nat)) : (joinedL n ps).length = n := by
  unfold joinedL
  have : ∀ (ps : List (Nat × Nat)) (ls : List Int), (ps.foldl joinS ls).length = ls.length := fun ps => by
    induction ps with
    | nil => exact fun _ => rfl
    | cons p ps ih => exact fun ls => by rw [List.foldl_cons, ih, joinS_len]
  rw [this]
  unfold range0
  rw [len_mr]
theorem at_int {ls : List Int} {j : Nat} (h : j < ls.length) : atI (ls.map PyData.int) (j : Int) = some (.int (ls.getD j 0)) := by
  refine atI_nat ?_
  rw [List.getElem?_map, getD_q, List.getElem?_eq_getElem h]
  rfl
theorem relab (ls : List Int) (lo hi : Int) : (ls.map PyData.int).filterMap (fun d => match d with | .int m => some (.int (if m = hi then lo else m)) | _ => none) = (ls.map fun m => if m = hi then lo else m).map PyData.int := by
  induction ls with
  | nil => rfl
  | cons l ls ih => rw [List.map_cons, List.filterMap_cons, ih]; rfl
def sp__law_joined (K : Fg) : Sp := fun vs H Q E => ∃ (B : Bg) (G : Hp) (v : V) (n : Nat) (ps : List (Nat × Nat)), Ok K B G H ∧ vs = [.int (n : Int), v] ∧ Dp K G v (.list (ps.map encP)) ∧ n ≤ 10000 ∧ ps.length ≤ 10000 ∧ (∀ p ∈ ps, p.1 < n ∧ p.2 < n) ∧ Ret K B G H Q (.list ((joinedL n ps).map .int))
abbrev N__law_joined : List Str := ["_law_many", "_law_pairs", "_law_labels", "_law_one", "_law_other", "_law_low", "_law_high", "_law_mark"]
theorem sc__law_joined : FnScope N__law_joined ["_law_many", "_law_pairs"] (defScope s__law_joined) := ⟨rfl, rfl, rfl, by decide +kernel, rfl, by decide +kernel, by decide +kernel⟩
theorem ok__law_joined (T : Txt K mg)  : Good P w K mg base (L2.CX P w) 1 "_law_joined" ["_law_many", "_law_pairs"] [] (sp__law_joined K) := by
  obtain ⟨fd, F⟩ := T.c.def_ 21 (d := d__law_joined) rfl
  have b : Binds K fd ["_law_many", "_law_pairs"] [] := F.bindsN fun _ _ _ _ _ _ us hl => match us, hl with | [_, _], _ => rfl
  refine ⟨⟨fd, [], F.ok sc__law_joined (fun vs H Q E h => ?_) (fun cdv A outer s H vs Q E hr h => ?_), .nil, b⟩, T.g__law_joined, F.kp⟩
  · obtain ⟨B, G, v, n, ps, e, rfl, _⟩ := h
    all_goals rfl
  · obtain ⟨B, G, v, n, ps, e, rfl, dv, hn, hl, hp, q⟩ := h
    all_goals refine ⟨_, PSs.nox (pss_cons (ps_set (i := 2) sc__law_joined.nd rfl (Or.inl rfl) (pe_listRg rfl (by rfl) T.f_list (prg_1 (by rfl) T.f_range (pv 0)))) (pss_cons (ps_for PassesOwn.never rfl (pi_list (pv 1)) (pg_tup rfl (pgs_cons (by exact (pg_name (i := 3) sc__law_joined.nd rfl (Or.inl rfl))) (pgs_cons (by exact (pg_name (i := 4) sc__law_joined.nd rfl (Or.inl rfl))) pgs_nil))) (pss_cons (ps_set (i := 5) sc__law_joined.nd rfl (Or.inr rfl) (pe_callB (call_min2 rfl) (by rfl) T.f_min (by decide +kernel) (pa_cons (pe_ix (r := rIxL K) ix_list (pv 2) (pv 3) (fun _ _ => rfl)) (pa_cons (pe_ix (r := rIxL K) ix_list (pv 2) (pv 4) (fun _ _ => rfl)) pa_nil)))) (pss_cons (ps_set (i := 6) sc__law_joined.nd rfl (Or.inr rfl) (pe_callB (call_max2 rfl) (by rfl) T.f_max (by decide +kernel) (pa_cons (pe_ix (r := rIxL K) ix_list (pv 2) (pv 3) (fun _ _ => rfl)) (pa_cons (pe_ix (r := rIxL K) ix_list (pv 2) (pv 4) (fun _ _ => rfl)) pa_nil)))) (pss_one (ps_if (pt_cmpR op_ne (pv 5) (pv 6) (nomark _)) (pss_one (ps_setLc (i := 2) (own := [("_law_mark", 7)]) (g := gName 7) rfl sc__law_joined.nd rfl rfl (sw_true rfl rfl rfl (by decide +kernel)) (pi_list (pv 2)) (blkOk_by (own := [("_law_mark", 7)]) (N := N__law_joined) (sc := defScope s__law_joined) (by decide +kernel)) (fun _ _ _ _ _ => (pg_name (i := 7) sc__law_joined.nd rfl (Or.inl rfl))) (fun _ _ _ _ _ => pts_nil) (fun _ _ _ _ _ => (pe_ifExp (pt_cmpR op_eq (pv 7) (pv 6) (nomark _)) (pv 5) (pv 7))))) pss_nil))))) (pss_one (ps_ret (pv 2))))), ?_⟩
    have er : (List.range n).map (fun i : Nat => PyData.int (i : Int)) = (range0 n).map .int := by
      unfold range0
      rw [List.map_map]
      rfl
    refine sq_set (EvF.ed (ed_isF (ef_range (ed_var rfl (.int _)) (by omega)) er)) e (fun v2 G2 H2 X d2 => ?_)
    refine sq_forG (Pv := fun j σ' G' H' => ∃ u y3 y4 y5 y6 y7, σ' = [some (.int (n : Int)), some v, some u, y3, y4, y5, y6, y7] ∧ Dp K G' u (.list ((joinedL n (ps.take j)).map .int))) (ed_var rfl (dp_mono X.gg dv)) X.ok (fun G3 H3 X3 => ⟨v2, none, none, none, none, none, rfl, dp_mono X3.gg d2⟩) (fun G3 H3 X3 j d w σ4 G4 H4 hj X4 P4 dw => ?_) (fun σ4 G4 H4 X4 P4 => ?_)
    · obtain ⟨u, y3, y4, y5, y6, y7, rfl, du⟩ := P4
      rw [List.getElem?_map] at hj
      cases ej : ps[j]? with
      | none =>
        rw [ej] at hj
        cases hj
      | some pr =>
        rw [ej] at hj
        obtain rfl := Option.some.inj hj
        have hpp := hp pr (List.mem_of_getElem? ej)
        have es : joinedL n (ps.take (j + 1)) = joinS (joinedL n (ps.take j)) pr := by
          unfold joinedL
          rw [List.take_add_one, ej, List.foldl_append]
          rfl
        have len := joined_len n (ps.take j)
        generalize joinedL n (ps.take j) = ls at es du len
        obtain ⟨a, rfl, ha⟩ := dp_enc dw
        refine ⟨a, _, rfl, ex_t X4.ok.e ha, rfl, _, _, rfl, _, _, rfl, rfl, ?_⟩
        have a1 := at_int (ls := ls) (j := pr.1) (by omega)
        have a2 := at_int (ls := ls) (j := pr.2) (by omega)
        refine sq_set (ed_min (ea_cons (ed_op (ed_var rfl du) (ed_var rfl (.int _)) (rd_ixL a1)) (ea_cons (ed_op (ed_var rfl du) (ed_var rfl (.int _)) (rd_ixL a2)) ea_nil))) X4.ok (fun v5 G5 H5 X5 d5 => ?_)
        obtain rfl := dp_int d5
        replace du := dp_mono X5.gg du
        refine sq_set (ed_max (ea_cons (ed_op (ed_var rfl du) (ed_var rfl (.int _)) (rd_ixL a1)) (ea_cons (ed_op (ed_var rfl du) (ed_var rfl (.int _)) (rd_ixL a2)) ea_nil))) X5.ok (fun v6 G6 H6 X6 d6 => ?_)
        obtain rfl := dp_int d6
        replace du := dp_mono X6.gg du
        unfold joinS at es
        have Y := (X4.trans X5).trans X6
        generalize min (ls.getD pr.1 0) (ls.getD pr.2 0) = lo at es
        generalize max (ls.getD pr.1 0) (ls.getD pr.2 0) = hi at es
        refine st_ifD (b := !decide (lo = hi)) (eb_is (eb_test (ed_op (ed_var rfl (.int lo)) (ed_var rfl (.int hi)) (rd_ne rfl))) (by rw [di])) X6.ok (fun c G7 H7 X7 => ?_) (fun c G7 H7 X7 => ?_)
        · have c' : ¬ lo = hi := by
            rw [Bool.not_eq_true'] at c
            exact of_decide_eq_false c
          rw [if_neg c'] at es
          replace du := dp_mono X7.gg du
          refine st_set (EvF.ed (ed_isF (ef_lcL (f := fun d => match d with | .int m => some (.int (if m = hi then lo else m)) | _ => none) (ed_var rfl du) (by rw [List.length_map]; omega) (fun d u G' md eg cg du => ?_) (fun d u y G' md eg cg du ey => ?_)) (relab ls lo hi))) X7.ok (fun v8 G8 H8 X8 d8 => ⟨G8, Y.trans (X7.trans X8), v8, _, _, _, _, _, rfl, by rw [es]; exact d8⟩)
          · obtain ⟨m, _, rfl⟩ := List.mem_map.mp md
            exact eb_yes
          · obtain ⟨m, _, rfl⟩ := List.mem_map.mp md
            obtain rfl := Option.some.inj ey
            refine ed_if (b := decide (m = hi)) (eb_is (eb_test (ed_op (ed_var rfl du) (ed_var rfl (.int hi)) (rd_eq rfl))) di) (fun c => ?_) (fun c => ?_)
            · rw [if_pos (of_decide_eq_true c)]
              exact ed_var rfl (.int lo)
            · rw [if_neg (of_decide_eq_false c)]
              exact ed_var rfl du
        · have c' : lo = hi := by
            rw [Bool.not_eq_false'] at c
            exact of_decide_eq_true c
          rw [if_pos c'] at es
          exact ⟨G7, Y.trans X7, u, _, _, _, _, _, rfl, by rw [es]; exact dp_mono X7.gg du⟩
    · obtain ⟨u, y3, y4, y5, y6, y7, rfl, du⟩ := P4
      rw [List.length_map, List.take_length] at du
      exact st_ret (ed_var rfl du) X4.ok (q.mono (X.trans X4))
theorem ed_joined {B : Bg} {G : Hp} {σ : L2.St} {tr : TA} {E : XK} {n : Nat} {ps : List (Nat × Nat)} (ha : EvA K B tr σ G [.int (n : Int), .list (ps.map encP)]) (hn : n ≤ 10000) (hl : ps.length ≤ 10000) (hp : ∀ p ∈ ps, p.1 < n ∧ p.2 < n) : EvD K B (tCall (sp__law_joined K) [] E tr) σ G (.list ((joinedL n ps).map .int)) :=
  ed_call ha fun vs G2 H2 _ e dv Q q => by
    cases dv with
    | cons h a =>
      cases a with
      | cons h2 a2 =>
        cases a2
        exact ⟨B, G2, _, n, ps, e, by rw [dp_int h]; rfl, h2, hn, hl, hp, q⟩
/-! _law_slant -/
def slantL (ls : List (List Int)) (x y : Int) : Int := if [x, y, 1] ∈ ls then 1 else 3 * (if [x + 1, y, 3] ∈ ls then 1 else 0)
def sp__law_slant (K : Fg) : Sp := fun vs H Q E => ∃ (B : Bg) (G : Hp) (v : V) (w h : Int) (ls : List (List Int)) (g : PyData) (x y : Int), Ok K B G H ∧ vs = [v, .int x, .int y] ∧ Dp K G v (planD w h (.tuple (ls.map encT)) g) ∧ Ret K B G H Q (.int (slantL ls x y))
abbrev N__law_slant : List Str := ["_law_plan_here", "_law_x", "_law_y"]
theorem sc__law_slant : FnScope N__law_slant ["_law_plan_here", "_law_x", "_law_y"] (defScope s__law_slant) := ⟨rfl, rfl, rfl, by decide +kernel, rfl, by decide +kernel, by decide +kernel⟩
theorem ok__law_slant (T : Txt K mg)  : Good P w K mg base (L2.CX P w) 1 "_law_slant" ["_law_plan_here", "_law_x", "_law_y"] [] (sp__law_slant K) := by
  obtain ⟨fd, F⟩ := T.c.def_ 22 (d := d__law_slant) rfl
  have b : Binds K fd ["_law_plan_here", "_law_x", "_law_y"] [] := F.bindsN fun _ _ _ _ _ _ us hl => match us, hl with | [_, _, _], _ => rfl
  refine ⟨⟨fd, [], F.ok sc__law_slant (fun vs H Q E h => ?_) (fun cdv A outer s H vs Q E hr h => ?_), .nil, b⟩, T.g__law_slant, F.kp⟩
  · obtain ⟨B, G, v, w, h, ls, g, x, y, e, rfl, _⟩ := h
    all_goals rfl
  · obtain ⟨B, G, v, wd, ht, ls, g, x, y, e, rfl, dv, q⟩ := h
    all_goals refine ⟨_, PSs.nox (pss_cons (ps_if (pt_cmpR (r := rInTD K) (op_inTD (hu65 hr)) (pe_tup (pa_cons (pv 1) (pa_cons (pv 2) (pa_cons pe_int pa_nil)))) (pe_ix (r := rIxT K) ix_tup (pv 0) pe_int (fun _ _ => rfl)) (by rfl)) (pss_one (ps_ret pe_int)) pss_nil) (pss_one (ps_ret (pe_op op_mul pe_int (pe_callTy (r := rInt1) call_int1 (by rfl) T.f_int (by decide +kernel) (pa_cons (pe_cmpR (r := rInTD K) (op_inTD (hu65 hr)) (pe_tup (pa_cons (pe_op op_add (pv 1) pe_int) (pa_cons (pv 2) (pa_cons pe_int pa_nil)))) (pe_ix (r := rIxT K) ix_tup (pv 0) pe_int (fun _ _ => rfl)) (by rfl)) pa_nil)))))), ?_⟩
    unfold slantL at q
    refine sq_ifN (b := decide ([x, y, 1] ∈ ls)) (eb_test (ed_op (ed_tup (ea_cons (ed_var rfl (.int x)) (ea_cons (ed_var rfl (.int y)) (ea_cons ed_int ea_nil))) (Nat.le_of_ble_eq_true rfl)) (ed_op (ed_var rfl dv) ed_int (rd_ixT rfl)) (rd_inT (a := [x, y, 1])))) e (fun c G2 H2 X => ?_) (fun c G2 H2 X => ?_)
    · rw [if_pos (of_decide_eq_true c)] at q
      exact st_ret ed_int X.ok (q.mono X)
    · rw [if_neg (of_decide_eq_false c)] at q
      refine st_ret (ed_is (ed_op ed_int (ed_intB (b := decide ([x + 1, y, 3] ∈ ls)) (ed_op (ed_tup (ea_cons (ed_op (ed_var rfl (.int x)) ed_int rd_I0) (ea_cons (ed_var rfl (.int y)) (ea_cons ed_int ea_nil))) (Nat.le_of_ble_eq_true rfl)) (ed_op (ed_var rfl (dp_mono X.gg dv)) ed_int (rd_ixT rfl)) (rd_inT (a := [x + 1, y, 3])))) (rd_I (.inl (by decide)))) ?_) X.ok (q.mono X)
      by_cases c2 : [x + 1, y, 3] ∈ ls
      · rw [if_pos c2, decide_eq_true c2]
        rfl
      · rw [if_neg c2, decide_eq_false c2]
        rfl
theorem ed_slant {B : Bg} {G : Hp} {σ : L2.St} {tr : TA} {E : XK} {wd ht x y : Int} {ls : List (List Int)} {g : PyData} (ha : EvA K B tr σ G [planD wd ht (.tuple (ls.map encT)) g, .int x, .int y]) : EvD K B (tCall (sp__law_slant K) [] E tr) σ G (.int (slantL ls x y)) :=
  ed_call ha fun vs G2 H2 _ e dv Q q => by
    cases dv with
    | cons h a => exact ⟨B, G2, _, wd, ht, ls, g, x, y, e, by rw [dpAll_intsV (bs := [x, y]) a]; rfl, h, q⟩
/-! _law_cell_pairs -/
def hereN (w x y : Nat) : Nat := 4 * (y * w + x)
def partsL (s : Int) : List (Nat × Nat) := if s = 0 then [(0, 1), (1, 2), (2, 3), (0, 3)] else if s = 1 then [(0, 1), (2, 3)] else [(0, 3), (1, 2)]
def shiftP (n : Nat) (p : Nat × Nat) : Nat × Nat := (n + p.1, n + p.2)
def cpL (ls : List (List Int)) (w x y : Nat) : List (Nat × Nat) := (partsL (slantL ls x y)).map (shiftP (hereN w x y))
def shiftD (n : Nat) : PyData → Option PyData
  | .tuple [.int a, .int b] => some (.tuple [.int ((n : Int) + a), .int ((n : Int) + b)])
  | _ => none
theorem shift_enc (n : Nat) (p : Nat × Nat) : shiftD n (encP p) = some (encP (shiftP n p)) := by
  show some (PyData.tuple [.int ((n : Int) + (p.1 : Int)), .int ((n : Int) + (p.2 : Int))]) = some (.tuple [.int ((n + p.1 : Nat) : Int), .int ((n + p.2 : Nat) : Int)])
  rw [Int.natCast_add, Int.natCast_add]
theorem shift_all (n : Nat) : ∀ ps : List (Nat × Nat), (ps.map encP).filterMap (shiftD n) = (ps.map (shiftP n)).map encP
  | [] => rfl
  | p :: ps => by rw [List.map_cons, List.filterMap_cons, shift_enc, shift_all n ps]; rfl
theorem slant_cases (ls : List (List Int)) (x y : Int) : slantL ls x y = 0 ∨ slantL ls x y = 1 ∨ slantL ls x y = 3 := by
  unfold slantL
  split
  · exact .inr (.inl rfl)
  · split
    · exact .inr (.inr rfl)
    · exact .inl rfl
theorem here_eq (w x y : Nat) : (4 : Int) * ((y : Int) * (w : Int) + (x : Int)) = ((hereN w x y : Nat) : Int) := by
  unfold hereN
  rw [Int.natCast_mul, Int.natCast_add, Int.natCast_mul]
  rfl
def sp__law_cell_pairs (K : Fg) : Sp := fun vs H Q E => ∃ (B : Bg) (G : Hp) (v : V) (w h : Nat) (ls : List (List Int)) (g : PyData) (x y : Nat), Ok K B G H ∧ vs = [v, .int (x : Int), .int (y : Int)] ∧ Dp K G v (planD (w : Int) (h : Int) (.tuple (ls.map encT)) g) ∧ w ≤ 9 ∧ RetF K B G H Q ((cpL ls w x y).map encP)
abbrev N__law_cell_pairs : List Str := ["_law_plan_here", "_law_x", "_law_y", "_law_here", "_law_slant_here", "_law_parts", "_law_one", "_law_other"]
theorem sc__law_cell_pairs : FnScope N__law_cell_pairs ["_law_plan_here", "_law_x", "_law_y"] (defScope s__law_cell_pairs) := ⟨rfl, rfl, rfl, by decide +kernel, rfl, by decide +kernel, by decide +kernel⟩
theorem ok__law_cell_pairs (T : Txt K mg) (G__law_slant : Good P w K mg base (L2.CX P w) 1 "_law_slant" ["_law_plan_here", "_law_x", "_law_y"] [] (sp__law_slant K)) : Good P w K mg base (L2.CX P w) 2 "_law_cell_pairs" ["_law_plan_here", "_law_x", "_law_y"] [] (sp__law_cell_pairs K) := by
  obtain ⟨fd, F⟩ := T.c.def_ 23 (d := d__law_cell_pairs) rfl
  have b : Binds K fd ["_law_plan_here", "_law_x", "_law_y"] [] := F.bindsN fun _ _ _ _ _ _ us hl => match us, hl with | [_, _, _], _ => rfl
  refine ⟨⟨fd, [], F.ok sc__law_cell_pairs (fun vs H Q E h => ?_) (fun cdv A outer s H vs Q E hr h => ?_), .nil, b⟩, T.g__law_cell_pairs, F.kp⟩
  · obtain ⟨B, G, v, w, h, ls, g, x, y, e, rfl, _⟩ := h
    all_goals rfl
  · obtain ⟨B, G, v, wn, hn, ls, g, x, y, e, rfl, dv, hw, q⟩ := h
    all_goals refine ⟨_, PSs.nox (pss_cons (ps_set (i := 3) sc__law_cell_pairs.nd rfl (Or.inr rfl) (pe_op op_mul pe_int (pe_op op_add (pe_op op_mul (pv 2) (pe_ix (r := rIxT K) ix_tup (pv 0) pe_int (fun _ _ => rfl))) (pv 1)))) (pss_cons (ps_set (i := 4) sc__law_cell_pairs.nd rfl (Or.inl rfl) (pe_own G__law_slant (hr.mono (by decide)) (by rfl) passL (pa_cons (pv 0) (pa_cons (pv 1) (pa_cons (pv 2) pa_nil))))) (pss_cons (ps_set (i := 5) sc__law_cell_pairs.nd rfl (Or.inl rfl) (pe_dget (hu_of hr) (pe_disp (pps_cons pe_int (pe_lst (pa_cons (pe_tup (pa_cons pe_int (pa_cons pe_int pa_nil))) (pa_cons (pe_tup (pa_cons pe_int (pa_cons pe_int pa_nil))) (pa_cons (pe_tup (pa_cons pe_int (pa_cons pe_int pa_nil))) (pa_cons (pe_tup (pa_cons pe_int (pa_cons pe_int pa_nil))) pa_nil))))) (pps_cons pe_int (pe_lst (pa_cons (pe_tup (pa_cons pe_int (pa_cons pe_int pa_nil))) (pa_cons (pe_tup (pa_cons pe_int (pa_cons pe_int pa_nil))) pa_nil))) (pps_cons pe_int (pe_lst (pa_cons (pe_tup (pa_cons pe_int (pa_cons pe_int pa_nil))) (pa_cons (pe_tup (pa_cons pe_int (pa_cons pe_int pa_nil))) pa_nil))) pps_nil))) (by rfl) (by rfl) (fun z => by cases z) (by decide)) (pv 4) (fun _ _ => rfl))) (pss_one (ps_ret (pe_lc (own := [("_law_one", 6), ("_law_other", 7)]) (g := gTup K 2 (gCons (gName 6) (gCons (gName 7) gNil))) rfl sc__law_cell_pairs.nd (pi_list (pv 5)) (blkOk_by (own := [("_law_one", 6), ("_law_other", 7)]) (N := N__law_cell_pairs) (sc := defScope s__law_cell_pairs) (by decide +kernel)) (fun _ _ _ _ _ => (pg_tup rfl (pgs_cons (by exact (pg_name (i := 6) sc__law_cell_pairs.nd rfl (Or.inl rfl))) (pgs_cons (by exact (pg_name (i := 7) sc__law_cell_pairs.nd rfl (Or.inl rfl))) pgs_nil)))) (fun _ _ _ _ _ => pts_nil) (fun _ _ _ _ _ => (pe_tup (pa_cons (pe_op op_add (pv 3) (pv 6)) (pa_cons (pe_op op_add (pv 3) (pv 7)) pa_nil)))))))))), ?_⟩
    refine sq_set (ed_is (ed_op ed_int (ed_op (ed_op (ed_var rfl (.int (y : Int))) (ed_op (ed_var rfl dv) ed_int (rd_ixT (d := .int (wn : Int)) rfl)) (rd_I (.inr ⟨by omega, by omega⟩))) (ed_var rfl (.int (x : Int))) rd_I0) (rd_I (.inl (by decide)))) (by rw [here_eq])) e (fun v2 G2 H2 X d2 => ?_)
    obtain rfl := dp_int d2
    replace dv := dp_mono X.gg dv
    refine sq_set (ed_slant (ea_cons (ed_var rfl dv) (ea_cons (ed_var rfl (.int (x : Int))) (ea_cons (ed_var rfl (.int (y : Int))) ea_nil)))) X.ok (fun v3 G3 H3 X3 d3 => ?_)
    obtain rfl := dp_int d3
    have sc := slant_cases ls x y
    have qq : RetF K B G H Q ((partsL (slantL ls x y)).map (shiftP (hereN wn x y)) |>.map encP) := q
    generalize slantL ls x y = s at sc qq
    have pr : ∀ {σ : L2.St} {G : Hp} (a b : Int), EvD K B (tTup (tCons (tC (.int a)) (tCons (tC (.int b)) tNil))) σ G (.tuple [.int a, .int b]) := fun a b => ed_tup (ea_cons ed_int (ea_cons ed_int ea_nil)) (Nat.le_of_ble_eq_true rfl)
    refine sq_set (d := .list ((partsL s).map encP)) (ed_dispGet (ks := [0, 1, 3]) (k := s) (ds := [.list [.tuple [.int 0, .int 1], .tuple [.int 1, .int 2], .tuple [.int 2, .int 3], .tuple [.int 0, .int 3]], .list [.tuple [.int 0, .int 1], .tuple [.int 2, .int 3]], .list [.tuple [.int 0, .int 3], .tuple [.int 1, .int 2]]])
      (ek_cons (ed_lst (ea_cons (pr _ _) (ea_cons (pr _ _) (ea_cons (pr _ _) (ea_cons (pr _ _) ea_nil)))) (Nat.le_of_ble_eq_true rfl)) (ek_cons (ed_lst (ea_cons (pr _ _) (ea_cons (pr _ _) ea_nil)) (Nat.le_of_ble_eq_true rfl)) (ek_cons (ed_lst (ea_cons (pr _ _) (ea_cons (pr _ _) ea_nil)) (Nat.le_of_ble_eq_true rfl)) ek_nil))) (ed_var rfl (.int s)) (by decide) (fun Gx vs hvs => ?_)) X3.ok (fun v4 G4 H4 X4 d4 => ?_)
    · cases hvs with
      | cons k0 r0 =>
        cases r0 with
        | cons k1 r1 =>
          cases r1 with
          | cons k2 r2 =>
            cases r2
            rcases sc with rfl | rfl | rfl
            · exact ⟨_, rfl, k0⟩
            · exact ⟨_, rfl, k1⟩
            · exact ⟨_, rfl, k2⟩
    · have Y := (X.trans X3).trans X4
      refine st_retF (ed_isF (ef_lcP (f := shiftD (hereN wn x y)) (ed_var rfl d4) (by rw [List.length_map]; unfold partsL; split; decide; split <;> decide) (fun d md => ?_) (fun a b v w G' md eg cg dv dw => ?_) (fun a b v w y' G' md eg cg dv dw ey => ?_) (fun v w => rfl)) (shift_all _ _)) X4.ok (qq.mono Y)
      · obtain ⟨p, _, rfl⟩ := List.mem_map.mp md
        exact ⟨_, _, rfl⟩
      · obtain ⟨p, _, ep⟩ := List.mem_map.mp md
        rw [← ep, shift_enc]
        exact eb_yes
      · obtain ⟨p, _, ep⟩ := List.mem_map.mp md
        obtain ⟨e1, e2⟩ : PyData.int (p.1 : Int) = a ∧ PyData.int (p.2 : Int) = b := by
          have := PyData.tuple.inj ep
          exact ⟨(List.cons.inj this).1, (List.cons.inj (List.cons.inj this).2).1⟩
        subst e1
        subst e2
        rw [show shiftD (hereN wn x y) (.tuple [.int (p.1 : Int), .int (p.2 : Int)]) = some (.tuple [.int ((hereN wn x y : Int) + (p.1 : Int)), .int ((hereN wn x y : Int) + (p.2 : Int))]) from rfl] at ey
        obtain rfl := Option.some.inj ey
        exact ed_tup (ea_cons (ed_op (ed_var rfl (.int _)) (ed_var rfl dv) rd_I0) (ea_cons (ed_op (ed_var rfl (.int _)) (ed_var rfl dw) rd_I0) ea_nil)) (Nat.le_of_ble_eq_true rfl)
theorem ef_cells {B : Bg} {G : Hp} {σ : L2.St} {tr : TA} {E : XK} {wn hn x y : Nat} {ls : List (List Int)} {g : PyData} (ha : EvA K B tr σ G [planD (wn : Int) (hn : Int) (.tuple (ls.map encT)) g, .int (x : Int), .int (y : Int)]) (hw : wn ≤ 9) : EvF K B (tCall (sp__law_cell_pairs K) [] E tr) σ G ((cpL ls wn x y).map encP) := fun H e Q q =>
  ha H e _ fun vs G2 H2 X dv => by
    cases dv with
    | cons h a => exact ⟨B, G2, _, wn, hn, ls, g, x, y, X.ok, by rw [dpAll_intsV (bs := [(x : Int), (y : Int)]) a]; rfl, h, hw, q.mono X⟩
/-! _law_panes -/
def rgtL (ls : List (List Int)) (w x y : Nat) : List (Nat × Nat) := if x + 1 < w ∧ ¬ [(x : Int) + 1, (y : Int), 2] ∈ ls then [(hereN w x y + 1, hereN w x y + 4 + 3)] else []
def belL (ls : List (List Int)) (w h x y : Nat) : List (Nat × Nat) := if y + 1 < h ∧ ¬ [(x : Int), (y : Int) + 1, 0] ∈ ls then [(hereN w x y + 2, hereN w x y + 4 * w)] else []
def cellN (ls : List (List Int)) (w h x y : Nat) : List (Nat × Nat) := cpL ls w x y ++ rgtL ls w x y ++ belL ls w h x y
def rowP (ls : List (List Int)) (w h y n : Nat) : List (Nat × Nat) := (List.range n).flatMap fun x => cellN ls w h x y
def pairsN (ls : List (List Int)) (w h m : Nat) : List (Nat × Nat) := (List.range m).flatMap fun y => rowP ls w h y w
def panesL (ls : List (List Int)) (w h : Nat) : List Int := joinedL (4 * w * h) (pairsN ls w h h)
theorem rowP_succ (ls : List (List Int)) (w h y n : Nat) : rowP ls w h y (n + 1) = rowP ls w h y n ++ cellN ls w h n y := by
  unfold rowP
  rw [List.range_succ, List.flatMap_append]
  simp
theorem pairsN_succ (ls : List (List Int)) (w h n : Nat) : pairsN ls w h (n + 1) = pairsN ls w h n ++ rowP ls w h n w := by
  unfold pairsN
  rw [List.range_succ, List.flatMap_append]
  simp
theorem parts_len (s : Int) : (partsL s).length ≤ 4 := by
  unfold partsL
  split
  · decide
  · split <;> decide
theorem cellN_len (ls : List (List Int)) (w h x y : Nat) : (cellN ls w h x y).length ≤ 6 := by
  unfold cellN cpL rgtL belL
  rw [List.length_append, List.length_append, List.length_map]
  have := parts_len (slantL ls x y)
  split <;> split <;> simp only [List.length_cons, List.length_nil] <;> omega
theorem rowP_len (ls : List (List Int)) (w h y : Nat) : ∀ n, (rowP ls w h y n).length ≤ 6 * n
  | 0 => Nat.le_refl _
  | n + 1 => by
    rw [rowP_succ, List.length_append]
    have := rowP_len ls w h y n
    have := cellN_len ls w h n y
    omega
theorem pairsN_len (ls : List (List Int)) (w h : Nat) (hw : w ≤ 9) : ∀ n, (pairsN ls w h n).length ≤ 54 * n
  | 0 => Nat.le_refl _
  | n + 1 => by
    rw [pairsN_succ, List.length_append]
    have := pairsN_len ls w h hw n
    have := rowP_len ls w h n w
    omega
theorem parts_lt (s : Int) : ∀ p ∈ partsL s, p.1 < 4 ∧ p.2 < 4 := by
  unfold partsL
  split
  · decide
  · split <;> decide
theorem cell_lt {w h x y : Nat} (hx : x < w) (hy : y < h) : y * w + x + 1 ≤ w * h := by
  have a := Nat.mul_le_mul_right w (show y + 1 ≤ h from hy)
  rw [Nat.add_mul, Nat.one_mul, Nat.mul_comm h w] at a
  omega
theorem cellN_lt {ls : List (List Int)} {w h x y : Nat} (hx : x < w) (hy : y < h) : ∀ p ∈ cellN ls w h x y, p.1 < 4 * w * h ∧ p.2 < 4 * w * h := fun p hp => by
  have c := cell_lt hx hy
  have e4 : 4 * w * h = 4 * (w * h) := Nat.mul_assoc 4 w h
  unfold cellN at hp
  rcases mem_or hp with hp | hp
  · rcases mem_or hp with hp | hp
    · unfold cpL at hp
      obtain ⟨p0, h0, rfl⟩ := List.mem_map.mp hp
      have := parts_lt _ p0 h0
      unfold shiftP hereN
      constructor <;> (dsimp only; omega)
    · unfold rgtL at hp
      split at hp
      · next k =>
        obtain rfl := mem_1 hp
        have c2 := cell_lt (x := x + 1) k.1 hy
        unfold hereN
        constructor <;> (dsimp only; omega)
      · cases hp
  · unfold belL at hp
    split at hp
    · next k =>
      obtain rfl := mem_1 hp
      have c2 := cell_lt (y := y + 1) hx k.1
      rw [Nat.add_mul, Nat.one_mul] at c2
      unfold hereN
      constructor <;> (dsimp only; omega)
    · cases hp
theorem pairsN_lt {ls : List (List Int)} {w h : Nat} : ∀ p ∈ pairsN ls w h h, p.1 < 4 * w * h ∧ p.2 < 4 * w * h := fun p hp => by
  unfold pairsN rowP at hp
  obtain ⟨y, hy, hp⟩ := List.mem_flatMap.mp hp
  obtain ⟨x, hx, hp⟩ := List.mem_flatMap.mp hp
  exact cellN_lt (List.mem_range.mp hx) (List.mem_range.mp hy) p hp
def sp__law_panes (K : Fg) : Sp := fun vs H Q E => ∃ (B : Bg) (G : Hp) (v : V) (w h : Nat) (ls : List (List Int)) (g : PyData), Ok K B G H ∧ vs = [v] ∧ Dp K G v (planD (w : Int) (h : Int) (.tuple (ls.map encT)) g) ∧ w ≤ 9 ∧ h ≤ 9 ∧ Ret K B G H Q (.list ((panesL ls w h).map .int))
abbrev N__law_panes : List Str := ["_law_plan_here", "_law_pairs", "_law_y", "_law_x", "_law_here"]
theorem sc__law_panes : FnScope N__law_panes ["_law_plan_here"] (defScope s__law_panes) := ⟨rfl, rfl, rfl, by decide +kernel, rfl, by decide +kernel, by decide +kernel⟩
theorem ok__law_panes (T : Txt K mg) (G__law_cell_pairs : Good P w K mg base (L2.CX P w) 2 "_law_cell_pairs" ["_law_plan_here", "_law_x", "_law_y"] [] (sp__law_cell_pairs K)) (G__law_joined : Good P w K mg base (L2.CX P w) 1 "_law_joined" ["_law_many", "_law_pairs"] [] (sp__law_joined K)) : Good P w K mg base (L2.CX P w) 3 "_law_panes" ["_law_plan_here"] [] (sp__law_panes K) := by
  obtain ⟨fd, F⟩ := T.c.def_ 24 (d := d__law_panes) rfl
  have b : Binds K fd ["_law_plan_here"] [] := F.bindsN fun _ _ _ _ _ _ us hl => match us, hl with | [_], _ => rfl
  refine ⟨⟨fd, [], F.ok sc__law_panes (fun vs H Q E h => ?_) (fun cdv A outer s H vs Q E hr h => ?_), .nil, b⟩, T.g__law_panes, F.kp⟩
  · obtain ⟨B, G, v, w, h, ls, g, e, rfl, _⟩ := h
    all_goals rfl
  · obtain ⟨B, G, v, wn, hn, ls, g, e, rfl, dv, hw, hh, q⟩ := h
    all_goals refine ⟨_, PSs.nox (pss_cons (ps_set (i := 1) sc__law_panes.nd rfl (Or.inl rfl) (pe_lst pa_nil)) (pss_cons (ps_for PassesOwn.never rfl (pi_range1 (by rfl) T.f_range (pa_cons (pe_ix (r := rIxT K) ix_tup (pv 0) pe_int (fun _ _ => rfl)) pa_nil)) (pg_name (i := 2) sc__law_panes.nd rfl (Or.inl rfl)) (pss_one (ps_for PassesOwn.never rfl (pi_range1 (by rfl) T.f_range (pa_cons (pe_ix (r := rIxT K) ix_tup (pv 0) pe_int (fun _ _ => rfl)) pa_nil)) (pg_name (i := 3) sc__law_panes.nd rfl (Or.inl rfl)) (pss_cons (ps_set (i := 4) sc__law_panes.nd rfl (Or.inl rfl) (pe_op op_mul pe_int (pe_op op_add (pe_op op_mul (pv 2) (pe_ix (r := rIxT K) ix_tup (pv 0) pe_int (fun _ _ => rfl))) (pv 3)))) (pss_cons (ps_set (i := 1) sc__law_panes.nd rfl (Or.inl rfl) (pe_op op_cat (pv 1) (pe_own G__law_cell_pairs (hr.mono (by decide)) (by rfl) passL (pa_cons (pv 0) (pa_cons (pv 3) (pa_cons (pv 2) pa_nil)))))) (pss_cons (ps_if (PW.pt (pw_and (pt_cmpR op_lt (pe_op op_add (pv 3) pe_int) (pe_ix (r := rIxT K) ix_tup (pv 0) pe_int (fun _ _ => rfl)) (nomark _)) (pw_and1 (pt_cmpR (r := rNotInTD K) (op_notInTD (hu65 hr)) (pe_tup (pa_cons (pe_op op_add (pv 3) pe_int) (pa_cons (pv 2) (pa_cons pe_int pa_nil)))) (pe_ix (r := rIxT K) ix_tup (pv 0) pe_int (fun _ _ => rfl)) (by rfl))))) (pss_one (ps_expr (pe_bm PySem.F.plainAttrs_list PySem.F.slot_list_append PySem.F.type_list_append mt_append (pv 1) (pa_cons (pe_tup (pa_cons (pe_op op_add (pv 4) pe_int) (pa_cons (pe_op op_add (pe_op op_add (pv 4) pe_int) pe_int) pa_nil))) pa_nil)))) pss_nil) (pss_one (ps_if (PW.pt (pw_and (pt_cmpR op_lt (pe_op op_add (pv 2) pe_int) (pe_ix (r := rIxT K) ix_tup (pv 0) pe_int (fun _ _ => rfl)) (nomark _)) (pw_and1 (pt_cmpR (r := rNotInTD K) (op_notInTD (hu65 hr)) (pe_tup (pa_cons (pv 3) (pa_cons (pe_op op_add (pv 2) pe_int) (pa_cons pe_int pa_nil)))) (pe_ix (r := rIxT K) ix_tup (pv 0) pe_int (fun _ _ => rfl)) (by rfl))))) (pss_one (ps_expr (pe_bm PySem.F.plainAttrs_list PySem.F.slot_list_append PySem.F.type_list_append mt_append (pv 1) (pa_cons (pe_tup (pa_cons (pe_op op_add (pv 4) pe_int) (pa_cons (pe_op op_add (pv 4) (pe_op op_mul pe_int (pe_ix (r := rIxT K) ix_tup (pv 0) pe_int (fun _ _ => rfl)))) pa_nil))) pa_nil)))) pss_nil)))))))) (pss_one (ps_ret (pe_own G__law_joined (hr.mono (by decide)) (by rfl) passL (pa_cons (pe_op op_mul (pe_op op_mul pe_int (pe_ix (r := rIxT K) ix_tup (pv 0) pe_int (fun _ _ => rfl))) (pe_ix (r := rIxT K) ix_tup (pv 0) pe_int (fun _ _ => rfl))) (pa_cons (pv 1) pa_nil))))))), ?_⟩
    refine sq_setZ (ef_lst ea_nil (Nat.le_of_ble_eq_true rfl)) e (fun p xs G2 H2 X hp hx => ?_)
    refine sq_forR (n := hn) (Pv := fun j σ' G' H' => ∃ p xs y2 y3 y4, σ' = [some v, some (.ref p), y2, y3, y4] ∧ G' p = some (.lst xs) ∧ DpAll K G' xs ((pairsN ls wn hn j).map encP)) (ea_cons (ed_op (ed_var rfl (dp_mono X.gg dv)) ed_int (rd_ixT (d := .int (hn : Int)) rfl)) ea_nil) (by omega) X.ok (fun G3 H3 X3 => ⟨p, xs, none, none, none, rfl, X3.gg _ _ hp, dpAll_mono X3.gg hx⟩) (fun G3 H3 X3 j σ4 G4 H4 hj X4 P4 => ?_) (fun σ4 G4 H4 X4 P4 => ?_)
    · obtain ⟨p, xs, y2, y3, y4, rfl, hp, hx⟩ := P4
      have dv4 := dp_mono (X.gg.trans (X3.gg.trans X4.gg)) dv
      have al := pairsN_len ls wn hn hw j
      refine st_forR (n := wn) (Pv := fun k σ' G' H' => ∃ p xs y3 y4, σ' = [some v, some (.ref p), some (.int (j : Int)), y3, y4] ∧ G' p = some (.lst xs) ∧ DpAll K G' xs ((pairsN ls wn hn j ++ rowP ls wn hn j k).map encP)) (ea_cons (ed_op (ed_var rfl dv4) ed_int (rd_ixT (d := .int (wn : Int)) rfl)) ea_nil) (by omega) X4.ok (fun G5 H5 X5 => ⟨p, xs, y3, y4, rfl, X5.gg _ _ hp, ?_⟩) (fun G5 H5 X5 k σ6 G6 H6 hk X6 P6 => ?_) (fun σ6 G6 H6 X6 P6 => ?_)
      · rw [show rowP ls wn hn j 0 = [] from rfl, List.append_nil]
        exact dpAll_mono X5.gg hx
      · obtain ⟨p, xs, y3, y4, rfl, hp, hx⟩ := P6
        have dv6 := dp_mono (X5.gg.trans X6.gg) dv4
        have rl := rowP_len ls wn hn j k
        have cl : (cpL ls wn k j).length ≤ 4 := by
          unfold cpL
          rw [List.length_map]
          exact parts_len _
        refine sq_set (ed_is (ed_op ed_int (ed_op (ed_op (ed_var rfl (.int (j : Int))) (ed_op (ed_var rfl dv6) ed_int (rd_ixT (d := .int (wn : Int)) rfl)) (rd_I (.inr ⟨by omega, by omega⟩))) (ed_var rfl (.int (k : Int))) rd_I0) (rd_I (.inl (by decide)))) (by rw [here_eq])) X6.ok (fun v7 G7 H7 X7 d7 => ?_)
        obtain rfl := dp_int d7
        replace hp := X7.gg _ _ hp
        replace hx := dpAll_mono X7.gg hx
        replace dv6 := dp_mono X7.gg dv6
        refine sq_setL (ef_catV rfl hp hx (ef_cells (ea_cons (ed_var rfl dv6) (ea_cons (ed_var rfl (.int (k : Int))) (ea_cons (ed_var rfl (.int (j : Int))) ea_nil))) hw) (by rw [List.length_map, List.length_map, List.length_append]; omega)) X7.ok (fun p8 G8 H8 L8 => ?_)
        have dv8 := dp_mono L8.x.gg dv6
        rw [← List.map_append] at L8
        have er : rgtL ls wn k j = if (decide ((k : Int) + 1 < (wn : Int)) && !decide ([(k : Int) + 1, (j : Int), 2] ∈ ls)) = true then [(hereN wn k j + 1, hereN wn k j + 4 + 3)] else [] := by
          unfold rgtL
          by_cases c1 : k + 1 < wn
          · by_cases c2 : [(k : Int) + 1, (j : Int), 2] ∈ ls
            · rw [if_neg (fun z => z.2 c2), decide_eq_true c2, Bool.not_true, Bool.and_false]
              rfl
            · rw [if_pos ⟨c1, c2⟩, decide_eq_false c2, decide_eq_true (show (k : Int) + 1 < (wn : Int) by omega)]
              rfl
          · rw [if_neg (fun z => c1 z.1), decide_eq_false (show ¬ (k : Int) + 1 < (wn : Int) by omega)]
            rfl
        have eb : belL ls wn hn k j = if (decide ((j : Int) + 1 < (hn : Int)) && !decide ([(k : Int), (j : Int) + 1, 0] ∈ ls)) = true then [(hereN wn k j + 2, hereN wn k j + 4 * wn)] else [] := by
          unfold belL
          by_cases c1 : j + 1 < hn
          · by_cases c2 : [(k : Int), (j : Int) + 1, 0] ∈ ls
            · rw [if_neg (fun z => z.2 c2), decide_eq_true c2, Bool.not_true, Bool.and_false]
              rfl
            · rw [if_pos ⟨c1, c2⟩, decide_eq_false c2, decide_eq_true (show (j : Int) + 1 < (hn : Int) by omega)]
              rfl
          · rw [if_neg (fun z => c1 z.1), decide_eq_false (show ¬ (j : Int) + 1 < (hn : Int) by omega)]
            rfl
        have eB : PyData.tuple [.int (((hereN wn k j : Nat) : Int) + 2), .int (((hereN wn k j : Nat) : Int) + 4 * (wn : Int))] = encP (hereN wn k j + 2, hereN wn k j + 4 * wn) := by
          show _ = PyData.tuple [.int ((hereN wn k j + 2 : Nat) : Int), .int ((hereN wn k j + 4 * wn : Nat) : Int)]
          rw [Int.natCast_add, Int.natCast_add, Int.natCast_mul]
          rfl
        have Y7 := X6.trans X7
        -- to the right
        refine sq_ifN (eb_and (eb_test (ed_op (ed_op (ed_var rfl (.int (k : Int))) ed_int rd_I0) (ed_op (ed_var rfl dv8) ed_int (rd_ixT (d := .int (wn : Int)) rfl)) rd_B0)) (fun _ => eb_test (ed_op (ed_tup (ea_cons (ed_op (ed_var rfl (.int (k : Int))) ed_int rd_I0) (ea_cons (ed_var rfl (.int (j : Int))) (ea_cons ed_int ea_nil))) (Nat.le_of_ble_eq_true rfl)) (ed_op (ed_var rfl dv8) ed_int (rd_ixT rfl)) (rd_notInT (a := [(k : Int) + 1, (j : Int), 2]))))) L8.x.ok (fun c9 G9 H9 X9 => ?_) (fun c9 G9 H9 X9 => ?_)
        focus
          rw [if_pos c9] at er
          have L9 := L8.step X9
          refine st_append rfl L9 (ed_is (ed_tup (ea_cons (ed_op (ed_var rfl (.int _)) ed_int rd_I0) (ea_cons (ed_op (ed_op (ed_var rfl (.int _)) ed_int rd_I0) ed_int rd_I0) ea_nil)) (Nat.le_of_ble_eq_true rfl)) (rfl : _ = encP (hereN wn k j + 1, hereN wn k j + 4 + 3))) (by rw [List.length_map, List.length_append, List.length_append]; omega) (fun GA HA LA _ => ?_)
          have dvA := dp_mono (LA.x.gg) dv6
          rw [show [encP (hereN wn k j + 1, hereN wn k j + 4 + 3)] = (rgtL ls wn k j).map encP by rw [er]; rfl, ← List.map_append] at LA
          have rgl : (rgtL ls wn k j).length ≤ 1 := by rw [er]; exact Nat.le_of_ble_eq_true rfl
          clear L9 X9 c9 er L8 dv8
        rotate_left
        focus
          rw [if_neg (by rw [c9]; exact Bool.false_ne_true)] at er
          have LA := L8.step X9
          have dvA := dp_mono (LA.x.gg) dv6
          rw [← List.append_nil (pairsN ls wn hn j ++ rowP ls wn hn j k ++ cpL ls wn k j), ← er] at LA
          have rgl : (rgtL ls wn k j).length ≤ 1 := by rw [er]; exact Nat.le_of_ble_eq_true rfl
          clear X9 c9 er L8 dv8
          revert LA dvA
          generalize G9 = GA
          generalize H9 = HA
          intro LA dvA
        all_goals
          refine st_ifD (eb_and (eb_test (ed_op (ed_op (ed_var rfl (.int (j : Int))) ed_int rd_I0) (ed_op (ed_var rfl dvA) ed_int (rd_ixT (d := .int (hn : Int)) rfl)) rd_B0)) (fun _ => eb_test (ed_op (ed_tup (ea_cons (ed_var rfl (.int (k : Int))) (ea_cons (ed_op (ed_var rfl (.int (j : Int))) ed_int rd_I0) (ea_cons ed_int ea_nil))) (Nat.le_of_ble_eq_true rfl)) (ed_op (ed_var rfl dvA) ed_int (rd_ixT rfl)) (rd_notInT (a := [(k : Int), (j : Int) + 1, 0]))))) LA.x.ok (fun cB GB HB XB => ?_) (fun cB GB HB XB => ?_)
          · rw [if_pos cB] at eb
            have LB := LA.step XB
            refine st_append rfl LB (ed_is (ed_tup (ea_cons (ed_op (ed_var rfl (.int _)) ed_int rd_I0) (ea_cons (ed_op (ed_var rfl (.int _)) (ed_op ed_int (ed_op (ed_var rfl (dp_mono XB.gg dvA)) ed_int (rd_ixT (d := .int (wn : Int)) rfl)) (rd_I (.inl (by decide)))) rd_I0) ea_nil)) (Nat.le_of_ble_eq_true rfl)) eB) (by rw [List.length_map, List.length_append, List.length_append, List.length_append]; omega) (fun GC HC LC _ => ?_)
            rw [show [encP (hereN wn k j + 2, hereN wn k j + 4 * wn)] = (belL ls wn hn k j).map encP by rw [eb]; rfl, ← List.map_append] at LC
            obtain ⟨GD, xs9, XD, _, hD, aD⟩ := LC.frz
            refine ⟨GD, Y7.trans XD, p8, xs9, _, _, rfl, hD, ?_⟩
            rw [rowP_succ]
            unfold cellN
            rw [← List.append_assoc, ← List.append_assoc, ← List.append_assoc]
            exact aD
          · rw [if_neg (by rw [cB]; exact Bool.false_ne_true)] at eb
            have LC := LA.step XB
            rw [← List.append_nil (pairsN ls wn hn j ++ rowP ls wn hn j k ++ cpL ls wn k j ++ rgtL ls wn k j), ← eb] at LC
            obtain ⟨GD, xs9, XD, _, hD, aD⟩ := LC.frz
            refine ⟨GD, Y7.trans XD, p8, xs9, _, _, rfl, hD, ?_⟩
            rw [rowP_succ]
            unfold cellN
            rw [← List.append_assoc, ← List.append_assoc, ← List.append_assoc]
            exact aD
      · obtain ⟨p, xs, y3, y4, rfl, hp, hx⟩ := P6
        refine ⟨G6, X4.trans X6, p, xs, _, _, _, rfl, hp, ?_⟩
        rw [pairsN_succ]
        exact hx
    · obtain ⟨p, xs, y2, y3, y4, rfl, hp, hx⟩ := P4
      have dv4 := dp_mono (X.gg.trans X4.gg) dv
      have em : (4 : Int) * (wn : Int) * (hn : Int) = ((4 * wn * hn : Nat) : Int) := by
        rw [Int.natCast_mul, Int.natCast_mul]
        rfl
      have pl := pairsN_len ls wn hn hw hn
      have m1 := Nat.mul_le_mul (Nat.mul_le_mul_left 4 hw) hh
      refine st_ret (ed_joined (ea_cons (ed_is (ed_op (ed_op ed_int (ed_op (ed_var rfl dv4) ed_int (rd_ixT (d := .int (wn : Int)) rfl)) (rd_I (.inl (by decide)))) (ed_op (ed_var rfl dv4) ed_int (rd_ixT (d := .int (hn : Int)) rfl)) (rd_I (.inr ⟨by omega, by omega⟩))) (by rw [em])) (ea_cons (ed_var rfl (.lst (SqL.of hp) hx)) ea_nil)) (by omega) (by omega) pairsN_lt) X4.ok (q.mono (X.trans X4))
theorem ed_panes {B : Bg} {G : Hp} {σ : L2.St} {tr : TA} {E : XK} {wn hn : Nat} {ls : List (List Int)} {g : PyData} (ha : EvA K B tr σ G [planD (wn : Int) (hn : Int) (.tuple (ls.map encT)) g]) (hw : wn ≤ 9) (hh : hn ≤ 9) : EvD K B (tCall (sp__law_panes K) [] E tr) σ G (.list ((panesL ls wn hn).map .int)) :=
  ed_call ha fun vs G2 H2 _ e dv Q q => by
    cases dv with
    | cons h a =>
      cases a
      exact ⟨B, G2, _, wn, hn, ls, g, e, rfl, h, hw, hh, q⟩
/-! _law_size -/
def is9 (d : PyData) : Prop := ∃ n : Int, d = .int n ∧ 1 ≤ n ∧ n ≤ 9
def sp__law_size (K : Fg) : Sp := fun vs H Q E => ∃ (b c : Addr) (G : Hp), Ok K (some (b, c)) G H ∧ vs = [.ref b] ∧ RetS K (some (b, c)) G H Q is9
abbrev N__law_size : List Str := ["_law_bag_here"]
theorem sc__law_size : FnScope N__law_size ["_law_bag_here"] (defScope s__law_size) := ⟨rfl, rfl, rfl, by decide +kernel, rfl, by decide +kernel, by decide +kernel⟩
theorem ok__law_size (T : Txt K mg) (G__law_pull : Good P w K mg base (L2.CX P w) 1 "_law_pull" ["_law_bag_here", "_law_upto"] [] (sp__law_pull K)) : Good P w K mg base (L2.CX P w) 2 "_law_size" ["_law_bag_here"] [] (sp__law_size K) := by
  obtain ⟨fd, F⟩ := T.c.def_ 25 (d := d__law_size) rfl
  have b : Binds K fd ["_law_bag_here"] [] := F.bindsN fun _ _ _ _ _ _ us hl => match us, hl with | [_], _ => rfl
  refine ⟨⟨fd, [], F.ok sc__law_size (fun vs H Q E h => ?_) (fun cdv A outer s H vs Q E hr h => ?_), .nil, b⟩, T.g__law_size, F.kp⟩
  · obtain ⟨b, c, G, e, rfl, _⟩ := h
    all_goals rfl
  · obtain ⟨b, c, G, e, rfl, q⟩ := h
    all_goals refine ⟨_, PSs.nox (pss_one (ps_ret (pe_op op_add pe_int (pe_own G__law_pull (hr.mono (by decide)) (by rfl) passL (pa_cons (pv 0) (pa_cons (pe_ix (r := rIxL K) ix_list (pe_lst (pa_cons pe_int (pa_cons pe_int (pa_cons pe_int (pa_cons pe_int pa_nil))))) (pe_own G__law_pull (hr.mono (by decide)) (by rfl) passL (pa_cons (pv 0) (pa_cons pe_int pa_nil))) (fun _ _ => rfl)) pa_nil)))))), ?_⟩
    refine es_op (S := is9) (EvD.toS (S := fun d => d = .int 1) ed_int rfl) (es_pullS (M := 9) rfl (es_op (S := fun d => ∃ u : Int, d = .int u ∧ 0 < u ∧ u ≤ 9) (EvD.toS (S := fun d => d = .list [.int 2, .int 4, .int 4, .int 9]) (ed_lst (ea_cons ed_int (ea_cons ed_int (ea_cons ed_int (ea_cons ed_int ea_nil)))) (Nat.le_of_ble_eq_true rfl)) rfl) (es_pull (u := 4) rfl ed_int (by decide) (by decide)) ?_) (fun d h => h) (by decide)) ?_ H e _ q
    · rintro x y rfl ⟨n, rfl, h0, h1⟩
      have : n = 0 ∨ n = 1 ∨ n = 2 ∨ n = 3 := by omega
      rcases this with rfl | rfl | rfl | rfl
      · exact ⟨_, ⟨2, rfl, by decide, by decide⟩, rd_ixL rfl⟩
      · exact ⟨_, ⟨4, rfl, by decide, by decide⟩, rd_ixL rfl⟩
      · exact ⟨_, ⟨4, rfl, by decide, by decide⟩, rd_ixL rfl⟩
      · exact ⟨_, ⟨9, rfl, by decide, by decide⟩, rd_ixL rfl⟩
    · rintro x y rfl ⟨n, rfl, h0, h1⟩
      exact ⟨_, ⟨1 + n, rfl, by omega, by omega⟩, rd_I0⟩
theorem es_size {b c : Addr} {i : Nat} {σ : L2.St} {G : Hp} {E : XK} (hσ : σ[i]? = some (some (.ref b))) : EvS K (some (b, c)) (tCall (sp__law_size K) [] E (tCons (tVar i) tNil)) σ G is9 := fun H e Q q =>
  ⟨.ref b, hσ, b, c, G, e, rfl, q⟩
/-! _law_some -/
def intsT (gl : List Int) : PyData := .tuple (gl.map .int)
def overN : List Int → Option (List Int)
  | [x, y, t] => if t % 2 = 0 then none else some [x + 2 - t, y, 4 - t]
  | _ => none
theorem over_eq (x y t : Int) : overL x y t = match overN [x, y, t] with | none => .none | some l => encT l := by
  by_cases c : t % 2 = 0
  · have e1 : overN [x, y, t] = none := if_pos c
    rw [e1]
    exact if_pos c
  · have e1 : overN [x, y, t] = some [x + 2 - t, y, 4 - t] := if_neg c
    rw [e1]
    exact if_neg c
structure FoundOk (w h : Int) (fs : List (List Int)) : Prop where
  sub : ∀ l ∈ fs, l ∈ withinL w h
  nd : fs.Nodup
  ov : ∀ l ∈ fs, ∀ m, overN l = some m → m ∉ fs
theorem within_mem {w h : Int} {l : List Int} (hw : 0 ≤ w) (hh : 0 ≤ h) (hl : l ∈ withinL w h) : ∃ x y t : Int, l = [x, y, t] ∧ (0 ≤ x ∧ x ≤ w) ∧ (0 ≤ y ∧ y ≤ h) ∧ (0 ≤ t ∧ t ≤ 3) ∧ onL w h (x + dxL t) (y + dyL t) = true := allL_mem hw hh (List.mem_filter.mp hl).1
theorem FoundOk.app {w h : Int} {fs : List (List Int)} {l : List Int} (hw : 0 ≤ w) (hh : 0 ≤ h) (f : FoundOk w h fs) (hl : l ∈ withinL w h) (h3 : ∃ x y t : Int, l = [x, y, t]) (h1 : l ∉ fs) (h2 : ∀ m, overN l = some m → m ∉ fs) : FoundOk w h (fs ++ [l]) := by
  obtain ⟨x, y, t, rfl⟩ := h3
  refine ⟨fun k hk => ?_, ?_, fun k hk m e hm => ?_⟩
  · rcases mem_or hk with hk | hk
    · exact f.sub k hk
    · rw [mem_1 hk]
      exact hl
  · refine List.nodup_append.mpr ⟨f.nd, List.pairwise_singleton _ _, fun a ha b hb c => ?_⟩
    rw [c, List.mem_singleton.mp hb] at ha
    exact h1 ha
  · rcases mem_or hk with hk | hk
    · rcases mem_or hm with hm | hm
      · exact f.ov k hk m e hm
      · obtain rfl := mem_1 hm
        refine h2 k ?_ hk
        obtain ⟨a, b, s, rfl, _⟩ := within_mem hw hh (f.sub k hk)
        have e0 : (if s % 2 = 0 then none else some [a + 2 - s, b, 4 - s]) = some [x, y, t] := e
        by_cases c : s % 2 = 0
        · rw [if_pos c] at e0
          cases e0
        · rw [if_neg c] at e0
          have e' := Option.some.inj e0
          injection e' with e1 e2
          injection e2 with e2 e3
          injection e3 with e3 _
          subst e1 e2 e3
          show (if (4 - s) % 2 = 0 then none else some [a + 2 - s + 2 - (4 - s), b, 4 - (4 - s)]) = some [a, b, s]
          rw [if_neg (by omega)]
          have i1 : a + 2 - s + 2 - (4 - s) = a := by omega
          have i2 : 4 - (4 - s) = s := by omega
          rw [i1, i2]
    · obtain rfl := mem_1 hk
      rcases mem_or hm with hm | hm
      · exact h2 m e hm
      · obtain rfl := mem_1 hm
        have e' : (if t % 2 = 0 then none else some [x + 2 - t, y, 4 - t]) = some [x, y, t] := e
        by_cases c : t % 2 = 0
        · rw [if_pos c] at e'
          cases e'
        · rw [if_neg c] at e'
          have e2 := Option.some.inj e'
          injection e2 with _ e2
          injection e2 with _ e2
          injection e2 with e2 _
          omega
def isPlan (w h : Int) (ls : List (List Int)) (g d : PyData) : Prop := ∃ fs, FoundOk w h fs ∧ (∀ l ∈ ls, l ∈ fs) ∧ d = planD w h (.tuple ((srtL fs).map encT)) g
def sp__law_some (K : Fg) : Sp := fun vs H Q E => ∃ (b c : Addr) (G : Hp) (v : V) (w h : Int) (ls : List (List Int)) (g : PyData) (m : Nat), Ok K (some (b, c)) G H ∧ vs = [.ref b, v, .int (m : Int)] ∧ Dp K G v (planD w h (.tuple (ls.map encT)) g) ∧ (1 ≤ w ∧ w ≤ 9) ∧ (1 ≤ h ∧ h ≤ 9) ∧ m ≤ 1000 ∧ FoundOk w h ls ∧ ls.length ≤ 1000 ∧ RetS K (some (b, c)) G H Q (isPlan w h ls g)
theorem eqv_nil (ls : List (List Int)) : PyData.eqv (.list (ls.map encT)) (.list []) = decide (ls = []) := by
  cases ls with
  | nil => simp [PyData.eqv, PyData.eqvAll]
  | cons l ls => simp [PyData.eqv, PyData.eqvAll]
theorem rd_notInO {B : Bg} {G : Hp} {fs : List (List Int)} {x y t : Int} : RvD K B (rNotInD K) G (overL x y t) (.list (fs.map encT)) (.bool (match overN [x, y, t] with | none => true | some l => !decide (l ∈ fs))) := fun u v G2 H2 _ e du dv Q q => by
  rw [over_eq] at du
  cases ho : overN [x, y, t] with
  | none =>
    rw [ho] at du q
    refine ⟨.none, fs.map encT, dp_mono e.e du, dp_mono e.e dv, shp_none, shp_encsL fs, ?_⟩
    rw [Lw.any_non]
    exact q.here e (.bl _)
  | some l =>
    rw [ho] at du q
    refine ⟨encT l, fs.map encT, dp_mono e.e du, dp_mono e.e dv, shp_enc l, shp_encsL fs, ?_⟩
    rw [any_enc]
    exact q.here e (.bl _)
theorem rd_notInE {B : Bg} {G : Hp} {fs : List (List Int)} {l : List Int} : RvD K B (rNotInD K) G (encT l) (.list (fs.map encT)) (.bool (!decide (l ∈ fs))) := fun u v G2 H2 _ e du dv Q q =>
  ⟨encT l, fs.map encT, dp_mono e.e du, dp_mono e.e dv, shp_enc l, shp_encsL fs, by rw [any_enc]; exact q.here e (.bl _)⟩
abbrev N__law_some : List Str := ["_law_bag_here", "_law_plan_here", "_law_many", "_law_found", "_law_good", "_law_k", "_law_name_here"]
theorem sc__law_some : FnScope N__law_some ["_law_bag_here", "_law_plan_here", "_law_many"] (defScope s__law_some) := ⟨rfl, rfl, rfl, by decide +kernel, rfl, by decide +kernel, by decide +kernel⟩
theorem ok__law_some (T : Txt K mg) (G__law_within : Good P w K mg base (L2.CX P w) 4 "_law_within" ["_law_plan_here"] [] (sp__law_within K)) (G__law_pull : Good P w K mg base (L2.CX P w) 1 "_law_pull" ["_law_bag_here", "_law_upto"] [] (sp__law_pull K)) (G__law_over : Good P w K mg base (L2.CX P w) 1 "_law_over" ["_law_name_here"] [] (sp__law_over K)) : Good P w K mg base (L2.CX P w) 5 "_law_some" ["_law_bag_here", "_law_plan_here", "_law_many"] [] (sp__law_some K) := by
  obtain ⟨fd, F⟩ := T.c.def_ 26 (d := d__law_some) rfl
  have b : Binds K fd ["_law_bag_here", "_law_plan_here", "_law_many"] [] := F.bindsN fun _ _ _ _ _ _ us hl => match us, hl with | [_, _, _], _ => rfl
  refine ⟨⟨fd, [], F.ok sc__law_some (fun vs H Q E h => ?_) (fun cdv A outer s H vs Q E hr h => ?_), .nil, b⟩, T.g__law_some, F.kp⟩
  · obtain ⟨b, c, G, v, w, h, ls, g, m, e, rfl, _⟩ := h
    all_goals rfl
  · obtain ⟨b, c, G, v, wd, ht, ls, g, many, e, rfl, dv, hw, hh, hm, hf, hl, q⟩ := h
    all_goals refine ⟨_, PSs.nox (pss_cons (ps_set (i := 3) sc__law_some.nd rfl (Or.inl rfl) (pe_callTy (r := rListS K) call_list_of (by rfl) T.f_list (by decide +kernel) (pa_cons (pe_ix (r := rIxT K) ix_tup (pv 1) pe_int (fun _ _ => rfl)) pa_nil))) (pss_cons (ps_set (i := 4) sc__law_some.nd rfl (Or.inl rfl) (pe_own G__law_within (hr.mono (by decide)) (by rfl) passL (pa_cons (pv 1) pa_nil))) (pss_cons (ps_for PassesOwn.never rfl (pi_range1 (by rfl) T.f_range (pa_cons (pv 2) pa_nil)) (pg_name (i := 5) sc__law_some.nd rfl (Or.inl rfl)) (pss_one (ps_if (pt_cmpR (r := rNeD K) (op_neD hr.units) (pv 4) (pe_lst pa_nil) (nomark _)) (pss_cons (ps_set (i := 6) sc__law_some.nd rfl (Or.inl rfl) (pe_ix (r := rIxL K) ix_list (pv 4) (pe_own G__law_pull (hr.mono (by decide)) (by rfl) passL (pa_cons (pv 0) (pa_cons (pe_callB (r := rLenS K) call_len_seq (by rfl) T.f_len (by decide +kernel) (pa_cons (pv 4) pa_nil)) pa_nil))) (fun _ _ => rfl))) (pss_one (ps_if (PW.pt (pw_and (pt_cmpR (r := rNotInD K) (op_notInD (hu65 hr)) (pv 6) (pv 3) (by rfl)) (pw_and1 (pt_cmpR (r := rNotInD K) (op_notInD (hu65 hr)) (pe_own G__law_over (hr.mono (by decide)) (by rfl) passL (pa_cons (pv 6) pa_nil)) (pv 3) (by rfl))))) (pss_one (ps_expr (pe_bm PySem.F.plainAttrs_list PySem.F.slot_list_append PySem.F.type_list_append mt_append (pv 3) (pa_cons (pv 6) pa_nil)))) pss_nil))) pss_nil))) (pss_one (ps_ret (pe_op (r := rCatT K) op_catT (pe_op (r := rCatT K) op_catT (pe_slice (r := rSlT K) sl_tup (pv 1) po_none (po_some pe_int)) (pe_tup (pa_cons (pe_callTy (r := rTupS K) call_tuple_of (by rfl) T.f_tuple (by decide +kernel) (pa_cons (pe_callB (r := rSortedL K) cr_sortedL (by rfl) T.f_sorted (by decide +kernel) (pa_cons (pv 3) pa_nil)) pa_nil)) pa_nil))) (pe_slice (r := rSlT K) sl_tup (pv 1) (po_some pe_int) po_none))))))), ?_⟩
    refine sq_setL (ed_listOfT (ed_op (ed_var rfl dv) ed_int (rd_ixT rfl))) e (fun p G2 H2 L2' => ?_)
    refine sq_set (ed_within (ea_cons (ed_var rfl (dp_mono L2'.x.gg dv)) ea_nil) hw hh) L2'.x.ok (fun v4 G4 H4 X4 d4 => ?_)
    have L4 := L2'.step X4
    refine sq_forR0 (n := many) (Pv := fun j σ' H' => ∃ fs G' y5 y6, σ' = [some (.ref b), some v, some (.int (many : Int)), some (.ref p), some v4, y5, y6] ∧ Loo K (some (b, c)) G H G' H' p (fs.map encT) ∧ Ex G4 G' ∧ FoundOk wd ht fs ∧ (∀ l ∈ ls, l ∈ fs) ∧ fs.length ≤ 1000 + j) (ea_cons (ed_var rfl (.int (many : Int))) ea_nil) (by omega) L4.x.ok (fun G5 H5 X5 => ⟨ls, G5, none, none, rfl, L4.step X5, X5.gg, hf, fun _ h => h, hl⟩) (fun j σ6 H6 hj P6 => ?_) (fun σ6 H6 P6 => ?_)
    · obtain ⟨fs, G6, y5, y6, rfl, L6, e6, f6, s6, l6⟩ := P6
      have d6 := dp_mono e6 d4
      refine st_ifD (eb_test (ed_op (ed_var rfl d6) (ed_lst ea_nil (Nat.le_of_ble_eq_true rfl)) (rd_neD (shp_encsL _) rfl))) L6.x.ok (fun k G7 H7 X7 => ?_) (fun k G7 H7 X7 => ⟨fs, G7, _, _, rfl, L6.step X7, e6.trans X7.gg, f6, s6, by omega⟩)
      have ne : withinL wd ht ≠ [] := fun z => by
        rw [eqv_nil, decide_eq_true z] at k
        cases k
      have pos : 0 < (withinL wd ht).length := List.length_pos_iff.mpr ne
      have wl : (withinL wd ht).length ≤ 400 := Nat.le_trans (List.length_filter_le _ _) (allL_len hw hh)
      have d7 := dp_mono X7.gg d6
      refine sq_setS (S := fun d => ∃ l ∈ withinL wd ht, d = encT l) (es_op (EvD.toS (S := fun d => d = .list ((withinL wd ht).map encT)) (ed_var rfl d7) rfl) (es_pull (u := ((withinL wd ht).length : Int)) rfl (ed_is (ed_len (ed_var rfl d7) rfl) (by rw [List.length_map])) (by omega) (by omega)) ?_) X7.ok (fun d8 v8 G8 H8 s8 X8 dv8 => ?_)
      · rintro x y rfl ⟨n, rfl, h0, h1⟩
        obtain ⟨i, rfl⟩ : ∃ i : Nat, n = (i : Int) := ⟨n.toNat, by omega⟩
        have hn : i < (withinL wd ht).length := by omega
        refine ⟨encT (withinL wd ht)[i], ⟨_, List.getElem_mem hn, rfl⟩, rd_ixL (atI_nat ?_)⟩
        rw [List.getElem?_map, List.getElem?_eq_getElem hn]
        rfl
      · obtain ⟨l, ml, rfl⟩ := s8
        have L8 := (L6.step X7).step X8
        obtain ⟨x, y, t, rfl, _⟩ := within_mem (by omega) (by omega) ml
        refine sq_ifL (w := tNext) L8 (b := (!decide ([x, y, t] ∈ fs)) && (match overN [x, y, t] with | none => true | some l => !decide (l ∈ fs))) (fun G9 e9 d9 => eb_and (eb_test (ed_op (ed_var rfl (dp_mono e9 dv8)) (ed_var rfl d9) rd_notInE)) (fun _ => eb_test (ed_op (ed_over (ea_cons (ed_var rfl (dp_mono e9 dv8)) ea_nil)) (ed_var rfl d9) rd_notInO))) (fun k9 G9 H9 L9 e9 => ?_) (fun k9 G9 H9 L9 e9 => ⟨fs, G9, _, _, rfl, L9, (e6.trans (X7.gg.trans X8.gg)).trans e9, f6, s6, by omega⟩)
        obtain ⟨k1, k2⟩ := Bool.and_eq_true_iff.mp k9
        have n1 : [x, y, t] ∉ fs := by
          rw [Bool.not_eq_true'] at k1
          exact of_decide_eq_false k1
        have n2 : ∀ m, overN [x, y, t] = some m → m ∉ fs := fun m em => by
          rw [em] at k2
          have k3 : (!decide (m ∈ fs)) = true := k2
          rw [Bool.not_eq_true'] at k3
          exact of_decide_eq_false k3
        refine st_append rfl L9 (ed_var rfl (dp_mono e9 dv8)) (by rw [List.length_map]; omega) (fun GA HA LA eA => ?_)
        exact ⟨fs ++ [[x, y, t]], GA, _, _, rfl, by rw [List.map_append]; exact LA, ((e6.trans (X7.gg.trans X8.gg)).trans e9).trans eA, f6.app (by omega) (by omega) ml ⟨x, y, t, rfl⟩ n1 n2, fun k hk => List.mem_append_left _ (s6 k hk), by rw [List.length_append, List.length_singleton]; omega⟩
    · obtain ⟨fs, G6, y5, y6, rfl, L6, e6, f6, s6, l6⟩ := P6
      obtain ⟨G7, xs, X7, e7, h7, a7⟩ := L6.frz
      have dv7 := dp_mono ((L2'.x.gg.trans X4.gg).trans (e6.trans e7)) dv
      have ne : ∀ l ∈ fs, l ≠ [] := fun l hl z => by
        obtain ⟨x, y, t, e0, _⟩ := within_mem (w := wd) (h := ht) (by omega) (by omega) (f6.sub l hl)
        rw [z] at e0
        cases e0
      refine st_ret (d := planD wd ht (.tuple ((srtL fs).map encT)) g) (ed_op (ed_op (ed_slT (ed_var rfl dv7) eo_none (eo_some ed_int) (fun h => absurd h.2 (by show ¬ HT.sIx 4 4 (some 2) = 4; decide))) (ed_tup (ea_cons (ed_tupOf (EvF.ed (ef_sorted (ed_var rfl (.lst (SqL.of h7) a7)) ne))) ea_nil) (Nat.le_of_ble_eq_true rfl)) (rd_catT (by intro z; cases z) (by intro z; cases z) (Nat.le_of_ble_eq_true rfl))) (ed_slT (ed_var rfl dv7) (eo_some ed_int) eo_none (fun h => absurd h.1 (by show ¬ HT.sIx 4 0 (some 3) = 0; decide))) (rd_catT (by intro z; cases z) (by intro z; cases z) (Nat.le_of_ble_eq_true rfl))) X7.ok (fun v8 G8 H8 X8 d8 => q _ v8 G8 H8 ⟨fs, f6, s6, rfl⟩ (X7.trans X8) d8)
/-! _law_glass -/
def okGl (ls : List (List Int)) (w h : Nat) (gl gl' : List Int) : Prop := gl' = gl ∨ ∃ col : Int → Int, (∀ m ∈ panesL ls w h, 0 ≤ col m ∧ col m ≤ 9) ∧ gl' = (panesL ls w h).map col
def isGlazed (w h : Nat) (ls : List (List Int)) (gl : List Int) (d : PyData) : Prop := ∃ gl', okGl ls w h gl gl' ∧ d = planD (w : Int) (h : Int) (.tuple (ls.map encT)) (intsT gl')
def sp__law_glass (K : Fg) : Sp := fun vs H Q E => ∃ (b c : Addr) (G : Hp) (v : V) (w h : Nat) (ls : List (List Int)) (gl : List Int), Ok K (some (b, c)) G H ∧ vs = [.ref b, v] ∧ Dp K G v (planD (w : Int) (h : Int) (.tuple (ls.map encT)) (intsT gl)) ∧ w ≤ 9 ∧ h ≤ 9 ∧ RetS K (some (b, c)) G H Q (isGlazed w h ls gl)
theorem st_ifS {B : Bg} {G H : Hp} {σ : L2.St} {te : TE} {t u : TS} {D : Ends} (h : EvS K B te σ G fun d => ∃ k, d = .bool k) (e : Ok K B G H) (k1 : ∀ G2 H2, Ext K B G H G2 H2 → t D σ H2) (k2 : ∀ G2 H2, Ext K B G H G2 H2 → u D σ H2) : tIfS (tTest te) t u D σ H := h H e _ fun d v G2 H2 s X dv => by
  obtain ⟨k, rfl⟩ := s
  refine ⟨k, dp_bl dv, ?_⟩
  cases k with
  | true => exact k1 G2 H2 X
  | false => exact k2 G2 H2 X
theorem putK_len (kvs : List (L2.Key × V)) (k : L2.Key) (v : V) : (putK kvs k v).length ≤ kvs.length + 1 := by
  unfold putK
  split
  · rw [List.length_map]
    exact Nat.le_succ _
  · rw [List.length_append]
    exact Nat.le_refl _
def colOf (kvs : List (L2.Key × V)) (m : Int) : Int := match valV kvs (Sum.inl m) with
  | some (.int c) => c
  | _ => 0
theorem dye_map (kvs : List (L2.Key × V)) (ls : List Int) : (ls.map PyData.int).filterMap (fun d => match d with | .int m => some (.int (colOf kvs m)) | _ => none) = (ls.map (colOf kvs)).map PyData.int := by
  induction ls with
  | nil => rfl
  | cons l ls ih => rw [List.map_cons, List.filterMap_cons, ih]; rfl
abbrev N__law_glass : List Str := ["_law_bag_here", "_law_plan_here", "_law_labels", "_law_dyes", "_law_mark"]
theorem sc__law_glass : FnScope N__law_glass ["_law_bag_here", "_law_plan_here"] (defScope s__law_glass) := ⟨rfl, rfl, rfl, by decide +kernel, rfl, by decide +kernel, by decide +kernel⟩
theorem ok__law_glass (T : Txt K mg) (G__law_pull : Good P w K mg base (L2.CX P w) 1 "_law_pull" ["_law_bag_here", "_law_upto"] [] (sp__law_pull K)) (G__law_panes : Good P w K mg base (L2.CX P w) 3 "_law_panes" ["_law_plan_here"] [] (sp__law_panes K)) : Good P w K mg base (L2.CX P w) 4 "_law_glass" ["_law_bag_here", "_law_plan_here"] [] (sp__law_glass K) := by
  obtain ⟨fd, F⟩ := T.c.def_ 27 (d := d__law_glass) rfl
  have b : Binds K fd ["_law_bag_here", "_law_plan_here"] [] := F.bindsN fun _ _ _ _ _ _ us hl => match us, hl with | [_, _], _ => rfl
  refine ⟨⟨fd, [], F.ok sc__law_glass (fun vs H Q E h => ?_) (fun cdv A outer s H vs Q E hr h => ?_), .nil, b⟩, T.g__law_glass, F.kp⟩
  · obtain ⟨b, c, G, v, w, h, ls, gl, e, rfl, _⟩ := h
    all_goals rfl
  · obtain ⟨b, c, G, v, wn, hn, ls, gl, e, rfl, dv, hw, hh, q⟩ := h
    all_goals refine ⟨_, PSs.nox (pss_cons (ps_if (pt_cmpR op_eq (pe_own G__law_pull (hr.mono (by decide)) (by rfl) passL (pa_cons (pv 0) (pa_cons pe_int pa_nil))) pe_int (nomark _)) (pss_one (ps_ret (pv 1))) pss_nil) (pss_cons (ps_set (i := 2) sc__law_glass.nd rfl (Or.inl rfl) (pe_own G__law_panes (hr.mono (by decide)) (by rfl) passL (pa_cons (pv 1) pa_nil))) (pss_cons (ps_set (i := 3) sc__law_glass.nd rfl (Or.inr rfl) pe_dnewK) (pss_cons (ps_for PassesOwn.never rfl (pi_list (pe_callB (r := rSortI1 w) (cr_sortI1 rfl) (by rfl) T.f_sorted (by decide +kernel) (pa_cons (pe_callTy (r := rSetI K w) (cr_setI rfl) (by rfl) T.f_set (by decide +kernel) (pa_cons (pv 2) pa_nil)) pa_nil))) (pg_name (i := 4) sc__law_glass.nd rfl (Or.inl rfl)) (pss_one (ps_dput (hu_of hr) (pv 3) (pv 4) (pe_ix (r := rIxL K) ix_list (pe_lst (pa_cons pe_int (pa_cons (pe_op op_add pe_int (pe_own G__law_pull (hr.mono (by decide)) (by rfl) passL (pa_cons (pv 0) (pa_cons pe_int pa_nil)))) (pa_cons (pe_op op_add pe_int (pe_own G__law_pull (hr.mono (by decide)) (by rfl) passL (pa_cons (pv 0) (pa_cons pe_int pa_nil)))) pa_nil)))) (pe_own G__law_pull (hr.mono (by decide)) (by rfl) passL (pa_cons (pv 0) (pa_cons pe_int pa_nil))) (fun _ _ => rfl)) rfl))) (pss_one (ps_ret (pe_op (r := rCatT K) op_catT (pe_slice (r := rSlT K) sl_tup (pv 1) po_none (po_some pe_int)) (pe_tup (pa_cons (pe_callTy (r := rTupS K) call_tuple_of (by rfl) T.f_tuple (by decide +kernel) (pa_cons (pe_lc (own := [("_law_mark", 4)]) (g := gName 4) rfl sc__law_glass.nd (pi_list (pv 2)) (blkOk_by (own := [("_law_mark", 4)]) (N := N__law_glass) (sc := defScope s__law_glass) (by decide +kernel)) (fun _ _ _ _ _ => (pg_name (i := 4) sc__law_glass.nd rfl (Or.inl rfl))) (fun _ _ _ _ _ => pts_nil) (fun _ _ _ _ _ => (pe_dget (hu_of hr) (pv 3) (pv 4) (fun _ _ => rfl)))) pa_nil)) pa_nil))))))))), ?_⟩
    refine st_ifS (t := tRet (tVar 1)) (es_op (S := fun d => ∃ k, d = .bool k) (es_pull (u := 3) rfl ed_int (by decide) (by decide)) (EvD.toS (S := fun d => d = .int 0) ed_int rfl) ?_) e (fun G2 H2 X => ?_) (fun G2 H2 X => ?_)
    · rintro x y ⟨n, rfl, _⟩ rfl
      exact ⟨_, ⟨_, rfl⟩, rd_eq rfl⟩
    · exact ⟨v, rfl, q _ v G2 H2 ⟨gl, .inl rfl, rfl⟩ X (dp_mono X.gg dv)⟩
    replace dv := dp_mono X.gg dv
    show tSeq _ _ _ _ _
    refine sq_set (ed_panes (ea_cons (ed_var rfl dv) ea_nil) hw hh) X.ok (fun v2 G3 H3 X3 d3 => ?_)
    obtain ⟨a2, xs2, rfl, hs2, hx2⟩ := dp_lst d3
    obtain rfl := dpAll_intsV hx2
    have plen : (panesL ls wn hn).length = 4 * wn * hn := joined_len _ _
    have m1 := Nat.mul_le_mul (Nat.mul_le_mul_left 4 hw) hh
    generalize hlb : panesL ls wn hn = lb at d3 hs2 hx2 plen
    intro p hp
    have X4 := (X.trans X3)
    have np := X4.ok.b.ne hp
    have D4 : LoD K (some (b, c)) G H G3 (upd H3 p (.dK [])) p [] := ⟨X4.trans (Ext.loose X4.ok hp), X4.old np hp, X4.ok.e.off hp, np, upd_same⟩
    have s2 := ex_l D4.x.ok.e hs2
    refine ⟨.ref a2, rfl, a2, lb, rfl, s2, by omega, fun sa n hsa hn' => ⟨sa, _, n, rfl, upd_same, by omega, fun ns pa srt mem nlen hpa => ?_⟩⟩
    have D5 := D4.step (Ext.loose (o := SetO w sa (fun j => decide (j ∈ lb)) n) D4.x.ok hsa)
    have D6 := D5.step (Ext.new (o := .lst (ns.map V.int)) D5.x.ok hpa)
    have e6 : Ex G3 (upd G3 pa (.lst (ns.map V.int))) := Ex.new (D5.x.ok.e.off hpa)
    have h6 : (upd G3 pa (.lst (ns.map V.int))) pa = some (.lst (ns.map V.int)) := upd_same
    generalize (upd G3 pa (.lst (ns.map V.int))) = G6 at D6 e6 h6
    refine ⟨pa, rfl, ⟨_, SqL.of upd_same⟩, for_list (K := K) (a := pa) (xs := ns.map V.int) (fun j σ' H' => ∃ G' kvs y4, σ' = [some (.ref b), some v, some (.ref a2), some (.ref p), y4] ∧ LoD K (some (b, c)) G H G' H' p kvs ∧ Ex G6 G' ∧ (∀ m ∈ ns.take j, ∃ k, valV kvs (Sum.inl m) = some (.int k) ∧ 0 ≤ k ∧ k ≤ 9) ∧ kvs.length ≤ j) ⟨G6, [], none, rfl, D6, Ex.refl _, (fun m hm => by cases hm), Nat.le_refl _⟩ ?_ ?_ ?_⟩
    · rintro j σ' H' _ ⟨G', kvs, y4, _, D7, e7, _⟩
      exact SqL.of (D7.x.ok.e _ _ (e7 _ _ h6))
    · rintro j y σ' H' hj ⟨G', kvs, y4, rfl, D7, e7, m7, l7⟩
      obtain ⟨mk, hmk, rfl⟩ : ∃ mk, ns[j]? = some mk ∧ y = V.int mk := by
        rw [List.getElem?_map] at hj
        cases ej : ns[j]? with
        | none =>
          rw [ej] at hj
          cases hj
        | some z =>
          rw [ej] at hj
          exact ⟨z, rfl, (Option.some.inj hj).symm⟩
      have one : ∀ {σ : L2.St} {G' : Hp} {u : Int}, σ[0]? = some (some (.ref b)) → 0 < u → u ≤ 9 → EvS K (some (b, c)) (tOp (rI0 fun i j => .int (i + j)) (tC (.int 1)) (tCall (sp__law_pull K) [] E0 (tCons (tVar 0) (tCons (tC (.int u)) tNil)))) σ G' is9 := fun {σ G' u} hσ h0 h9 => es_op (EvD.toS (S := fun d => d = .int 1) ed_int rfl) (es_pull (u := u) hσ ed_int h0 (by omega)) (by
        rintro x y rfl ⟨n, rfl, k0, k1⟩
        exact ⟨_, ⟨1 + n, rfl, by omega, by omega⟩, rd_I0⟩)
      refine es_op (S := fun d => ∃ k : Int, d = .int k ∧ 0 ≤ k ∧ k ≤ 9) (es_lst (S := fun ds => ∃ k1 k2 : Int, ds = [.int 0, .int k1, .int k2] ∧ (1 ≤ k1 ∧ k1 ≤ 9) ∧ (1 ≤ k2 ∧ k2 ≤ 9)) (eas_cons (EvD.toS (S := fun d => d = .int 0) ed_int rfl) (fun d0 hd0 => eas_cons (one rfl (by decide) (by decide)) (fun d1 hd1 => eas_cons (one rfl (by decide) (by decide)) (fun d2 hd2 => eas_nil ?_)))) (fun ds hds => ?_)) (es_pull (u := 3) rfl ed_int (by decide) (by decide)) ?_ H' D7.x.ok _ (fun d v8 G8 H8 s8 X8 dv8 => ?_)
      · subst hd0
        obtain ⟨k1, rfl, i1, i2⟩ := hd1
        obtain ⟨k2, rfl, i3, i4⟩ := hd2
        exact ⟨k1, k2, rfl, ⟨i1, i2⟩, i3, i4⟩
      · obtain ⟨k1, k2, rfl, _⟩ := hds
        exact Nat.le_of_ble_eq_true rfl
      · rintro x y ⟨ds, rfl, k1, k2, rfl, i1, i2⟩ ⟨n, rfl, h0, h1⟩
        have : n = 0 ∨ n = 1 ∨ n = 2 := by omega
        rcases this with rfl | rfl | rfl
        · exact ⟨_, ⟨0, rfl, by omega, by omega⟩, rd_ixL rfl⟩
        · exact ⟨_, ⟨k1, rfl, by omega, by omega⟩, rd_ixL rfl⟩
        · exact ⟨_, ⟨k2, rfl, by omega, by omega⟩, rd_ixL rfl⟩
      · obtain ⟨k, rfl, k0, k9⟩ := s8
        obtain rfl := dp_int dv8
        have D8 := D7.step X8
        have jl : j < ns.length := (List.getElem?_eq_some_iff.mp hmk).1
        refine ⟨.ref p, rfl, .int mk, rfl, p, _, rfl, DPut.k (k := Sum.inl mk) D8.h ?_, ?_⟩
        · exact szl (by omega)
        · refine ⟨G8, _, _, rfl, D8.put _, e7.trans X8.gg, fun m hm => ?_, Nat.le_trans (putK_len _ _ _) (Nat.succ_le_succ l7)⟩
          rw [List.take_add_one, hmk] at hm
          rw [valV_put]
          by_cases em : m = mk
          · rw [if_pos (by rw [em])]
            exact ⟨k, rfl, k0, k9⟩
          · rw [if_neg (fun z => em (Sum.inl.inj z))]
            rcases mem_or hm with hm | hm
            · exact m7 m hm
            · exact absurd (List.mem_singleton.mp hm) em
    · rintro σ' H' ⟨G', kvs, y4, rfl, D7, e7, m7, l7⟩
      rw [List.length_map, List.take_length] at m7
      have X8 := D7.frz
      have g8 : Ex G' (upd G' p (.dK kvs)) := Ex.new D7.g
      have h8 : (upd G' p (.dK kvs)) p = some (.dK kvs) := upd_same
      generalize (upd G' p (.dK kvs)) = G8 at X8 g8 h8
      have eg := ((e6.trans e7).trans g8)
      have dv8 := dp_mono (X3.gg.trans eg) dv
      have d8 := dp_mono eg d3
      have hc : ∀ m ∈ lb, ∃ k, valV kvs (Sum.inl m) = some (.int k) ∧ 0 ≤ k ∧ k ≤ 9 := fun m hm => m7 m ((mem m).mpr (decide_eq_true hm))
      refine st_ret (d := planD (wn : Int) (hn : Int) (.tuple (ls.map encT)) (intsT (lb.map (colOf kvs)))) (ed_op (ed_slT (ed_var rfl dv8) eo_none (eo_some ed_int) (fun h => absurd h.2 (by show ¬ HT.sIx 4 4 (some 3) = 4; decide))) (ed_tup (ea_cons (ed_tupOf (EvF.ed (ed_isF (ef_lcL (f := fun d => match d with | .int m => some (.int (colOf kvs m)) | _ => none) (ed_var rfl d8) (by rw [List.length_map]; omega) (fun d u Gx md eg cg du => ?_) (fun d u y Gx md eg cg du ey => ?_)) (dye_map kvs lb)))) ea_nil) (Nat.le_of_ble_eq_true rfl)) (rd_catT (by intro z; cases z) (by intro z; cases z) (Nat.le_of_ble_eq_true rfl))) X8.ok (fun v9 G9 H9 X9 d9 => q _ v9 G9 H9 ⟨lb.map (colOf kvs), .inr ⟨colOf kvs, fun m hm => ?_, by rw [hlb]⟩, rfl⟩ (X8.trans X9) d9)
      · obtain ⟨m, _, rfl⟩ := List.mem_map.mp md
        exact eb_yes
      · obtain ⟨m, hm, rfl⟩ := List.mem_map.mp md
        obtain rfl := Option.some.inj ey
        obtain ⟨k, hk, _⟩ := hc m hm
        have ek : colOf kvs m = k := by
          unfold colOf
          rw [hk]
        rw [ek]
        exact ed_dget rfl (eg _ _ h8) (ed_var rfl du) hk (.int k)
      · rw [hlb] at hm
        obtain ⟨k, hk, b1, b2⟩ := hc m hm
        have ek : colOf kvs m = k := by
          unfold colOf
          rw [hk]
        rw [ek]
        exact ⟨b1, b2⟩
/-! _law_leaded -/
structure LeadsOk (w h : Int) (ls : List (List Int)) : Prop where
  f : FoundOk w h ls
  s : ls.Pairwise fun x y => HT.lexLt y x = false
theorem FoundOk.perm {w h : Int} {fs gs : List (List Int)} (f : FoundOk w h fs) (p : gs.Perm fs) : FoundOk w h gs :=
  ⟨fun l hl => f.sub l (p.mem_iff.mp hl), p.nodup_iff.mpr f.nd, fun l hl m e hm => f.ov l (p.mem_iff.mp hl) m e (p.mem_iff.mp hm)⟩
theorem FoundOk.nil (w h : Int) : FoundOk w h [] := ⟨(fun _ h => by cases h), List.Pairwise.nil, (fun _ h => by cases h)⟩
def isLeaded (d : PyData) : Prop := ∃ (w h : Nat) (ls : List (List Int)), (1 ≤ w ∧ w ≤ 9) ∧ (1 ≤ h ∧ h ≤ 9) ∧ LeadsOk (w : Int) (h : Int) ls ∧ d = planD (w : Int) (h : Int) (.tuple (ls.map encT)) (intsT (List.replicate (4 * w * h) 0))
theorem nat9 {n : Int} (h1 : 1 ≤ n) (h2 : n ≤ 9) : ∃ k : Nat, n = (k : Int) ∧ 1 ≤ k ∧ k ≤ 9 := ⟨n.toNat, by omega, by omega, by omega⟩
def sp__law_leaded (K : Fg) : Sp := fun vs H Q E => ∃ (b c : Addr) (G : Hp), Ok K (some (b, c)) G H ∧ vs = [.ref b] ∧ RetS K (some (b, c)) G H Q isLeaded
theorem mul9n {w h : Nat} (hw : 1 ≤ w ∧ w ≤ 9) (hh : 1 ≤ h ∧ h ≤ 9) : 4 ≤ 4 * w * h ∧ 4 * w * h ≤ 324 := by
  have a := Nat.mul_le_mul (Nat.mul_le_mul_left 4 hw.1) hh.1
  have b := Nat.mul_le_mul (Nat.mul_le_mul_left 4 hw.2) hh.2
  omega
abbrev N__law_leaded : List Str := ["_law_bag_here", "_law_width", "_law_height", "_law_plan_here", "_law_pick"]
theorem sc__law_leaded : FnScope N__law_leaded ["_law_bag_here"] (defScope s__law_leaded) := ⟨rfl, rfl, rfl, by decide +kernel, rfl, by decide +kernel, by decide +kernel⟩
theorem ok__law_leaded (T : Txt K mg) (G__law_size : Good P w K mg base (L2.CX P w) 2 "_law_size" ["_law_bag_here"] [] (sp__law_size K)) (G__law_pull : Good P w K mg base (L2.CX P w) 1 "_law_pull" ["_law_bag_here", "_law_upto"] [] (sp__law_pull K)) (G__law_some : Good P w K mg base (L2.CX P w) 5 "_law_some" ["_law_bag_here", "_law_plan_here", "_law_many"] [] (sp__law_some K)) : Good P w K mg base (L2.CX P w) 6 "_law_leaded" ["_law_bag_here"] [] (sp__law_leaded K) := by
  obtain ⟨fd, F⟩ := T.c.def_ 28 (d := d__law_leaded) rfl
  have b : Binds K fd ["_law_bag_here"] [] := F.bindsN fun _ _ _ _ _ _ us hl => match us, hl with | [_], _ => rfl
  refine ⟨⟨fd, [], F.ok sc__law_leaded (fun vs H Q E h => ?_) (fun cdv A outer s H vs Q E hr h => ?_), .nil, b⟩, T.g__law_leaded, F.kp⟩
  · obtain ⟨b, c, G, e, rfl, _⟩ := h
    all_goals rfl
  · obtain ⟨b, c, G, e, rfl, q⟩ := h
    all_goals refine ⟨_, PSs.nox (pss_cons (ps_set (i := 1) sc__law_leaded.nd rfl (Or.inl rfl) (pe_own G__law_size (hr.mono (by decide)) (by rfl) passL (pa_cons (pv 0) pa_nil))) (pss_cons (ps_set (i := 2) sc__law_leaded.nd rfl (Or.inl rfl) (pe_own G__law_size (hr.mono (by decide)) (by rfl) passL (pa_cons (pv 0) pa_nil))) (pss_cons (ps_set (i := 3) sc__law_leaded.nd rfl (Or.inl rfl) (pe_tup (pa_cons (pv 1) (pa_cons (pv 2) (pa_cons (pe_tup pa_nil) (pa_cons (pe_op (r := rRepT K) op_repT (pe_tup (pa_cons pe_int pa_nil)) (pe_op op_mul (pe_op op_mul pe_int (pv 1)) (pv 2))) pa_nil)))))) (pss_cons (ps_set (i := 4) sc__law_leaded.nd rfl (Or.inl rfl) (pe_own G__law_pull (hr.mono (by decide)) (by rfl) passL (pa_cons (pv 0) (pa_cons pe_int pa_nil)))) (pss_cons (ps_if (pt_cmpR op_eq (pv 4) pe_int (nomark _)) (pss_one (ps_ret (pv 3))) pss_nil) (pss_cons (ps_if (pt_cmpR op_eq (pv 4) pe_int (nomark _)) (pss_one (ps_ret (pe_own G__law_some (hr.mono (by decide)) (by rfl) passL (pa_cons (pv 0) (pa_cons (pv 3) (pa_cons pe_int pa_nil)))))) pss_nil) (pss_one (ps_ret (pe_own G__law_some (hr.mono (by decide)) (by rfl) passL (pa_cons (pv 0) (pa_cons (pv 3) (pa_cons (pe_op op_add pe_int (pe_own G__law_pull (hr.mono (by decide)) (by rfl) passL (pa_cons (pv 0) (pa_cons (pe_op op_add (pe_op op_mul (pe_op op_mul pe_int (pv 1)) (pv 2)) pe_int) pa_nil)))) pa_nil)))))))))))), ?_⟩
    refine sq_setS (es_size rfl) e (fun d1 v1 G1 H1 s1 X1 dv1 => ?_)
    obtain ⟨n1, rfl, i1, i2⟩ := s1
    obtain rfl := dp_int dv1
    obtain ⟨w', rfl, hw⟩ := nat9 i1 i2
    refine sq_setS (es_size rfl) X1.ok (fun d2 v2 G2 H2 s2 X2 dv2 => ?_)
    obtain ⟨n2, rfl, i3, i4⟩ := s2
    obtain rfl := dp_int dv2
    obtain ⟨h', rfl, hh⟩ := nat9 i3 i4
    have em : (4 : Int) * (w' : Int) * (h' : Int) = ((4 * w' * h' : Nat) : Int) := by
      rw [Int.natCast_mul, Int.natCast_mul]
      rfl
    have bd := mul9n hw hh
    have ez : (PyData.tuple (List.replicate ((4 : Int) * (w' : Int) * (h' : Int)).toNat (.int 0))) = intsT (List.replicate (4 * w' * h') 0) := by
      unfold intsT
      rw [em, Int.toNat_natCast, List.map_replicate]
    refine sq_set (d := planD (w' : Int) (h' : Int) (.tuple []) (intsT (List.replicate (4 * w' * h') 0))) (ed_tup (ea_cons (ed_var rfl (.int _)) (ea_cons (ed_var rfl (.int _)) (ea_cons (ed_tup ea_nil (Nat.le_of_ble_eq_true rfl)) (ea_cons (ed_is (ed_op (ed_tup (ea_cons ed_int ea_nil) (Nat.le_of_ble_eq_true rfl)) (ed_op (ed_op ed_int (ed_var rfl (.int _)) (rd_I (.inl (by decide)))) (ed_var rfl (.int _)) (rd_I (.inr ⟨by omega, by omega⟩))) (rd_repT ⟨by omega, by omega⟩)) ez) ea_nil)))) (Nat.le_of_ble_eq_true rfl)) X2.ok (fun v3 G3 H3 X3 d3 => ?_)
    have Y3 := (X1.trans X2).trans X3
    refine sq_setS (S := isN 5) (es_pull (u := 5) rfl ed_int (by decide) (by decide)) X3.ok (fun d4 v4 G4 H4 s4 X4 dv4 => ?_)
    obtain ⟨n4, rfl, j0, j1⟩ := s4
    obtain rfl := dp_int dv4
    have d4 := dp_mono X4.gg d3
    refine sq_ifN (eb_test (ed_op (ed_var rfl (.int n4)) ed_int (rd_eq rfl))) X4.ok (fun _ G5 H5 X5 => ?_) (fun _ G5 H5 X5 => ?_)
    · exact ⟨v3, rfl, q _ v3 G5 H5 ⟨w', h', [], hw, hh, ⟨FoundOk.nil _ _, List.Pairwise.nil⟩, rfl⟩ (Y3.trans (X4.trans X5)) (dp_mono X5.gg d4)⟩
    have d5 := dp_mono X5.gg d4
    have Y5 := Y3.trans (X4.trans X5)
    have fin : ∀ {G0 H0 : Hp}, Ext K (some (b, c)) G H G0 H0 → RetS K (some (b, c)) G0 H0 Q (isPlan (w' : Int) (h' : Int) [] (intsT (List.replicate (4 * w' * h') 0))) := fun {G0 H0} Y d v Gz Hz s X dv => by
      obtain ⟨fs, ff, _, rfl⟩ := s
      exact q _ v Gz Hz ⟨w', h', srtL fs, hw, hh, ⟨ff.perm (srtL_perm fs), srtL_srt fs⟩, rfl⟩ (Y.trans X) dv
    refine sq_ifN (eb_test (ed_op (ed_var rfl (.int n4)) ed_int (rd_eq rfl))) X5.ok (fun _ G6 H6 X6 => ?_) (fun _ G6 H6 X6 => ?_)
    · exact ⟨.ref b, rfl, v3, rfl, b, c, G6, v3, (w' : Int), (h' : Int), [], _, 400, X6.ok, rfl, dp_mono X6.gg d5, ⟨by omega, by omega⟩, ⟨by omega, by omega⟩, by decide, FoundOk.nil _ _, by decide, fin (Y5.trans X6)⟩
    · have ep : (2 : Int) * (w' : Int) * (h' : Int) + 4 = ((2 * w' * h' + 4 : Nat) : Int) := by
        rw [Int.natCast_add, Int.natCast_mul, Int.natCast_mul]
        rfl
      have b2 := Nat.mul_le_mul (Nat.mul_le_mul_left 2 hw.2) hh.2
      refine ⟨.ref b, rfl, v3, rfl, es_op (S := fun d => ∃ m : Nat, d = .int (m : Int) ∧ m ≤ 1000) (EvD.toS (S := fun d => d = .int 1) ed_int rfl) (es_pull (u := ((2 * w' * h' + 4 : Nat) : Int)) rfl (ed_is (ed_op (ed_op (ed_op ed_int (ed_var rfl (.int _)) (rd_I (.inl (by decide)))) (ed_var rfl (.int _)) (rd_I (.inr ⟨by omega, by omega⟩))) ed_int rd_I0) (by rw [ep])) (by omega) (by omega)) ?_ H6 X6.ok _ (fun d7 v7 G7 H7 s7 X7 dv7 => ?_)⟩
      · rintro x y rfl ⟨n, rfl, k0, k1⟩
        refine ⟨_, ⟨(1 + n).toNat, ?_, by omega⟩, rd_I0⟩
        have : 1 + n = (((1 + n).toNat : Nat) : Int) := by omega
        rw [← this]
      · obtain ⟨m, rfl, hm⟩ := s7
        obtain rfl := dp_int dv7
        exact ⟨b, c, G7, v3, (w' : Int), (h' : Int), [], _, m, X7.ok, rfl, dp_mono (X6.gg.trans X7.gg) d5, ⟨by omega, by omega⟩, ⟨by omega, by omega⟩, hm, FoundOk.nil _ _, by decide, fin ((Y5.trans X6).trans X7)⟩
/-! _law_plan -/
/-- a drawn plan -/
structure PlanOk (w h : Nat) (ls : List (List Int)) (gl : List Int) : Prop where
  w9 : 1 ≤ w ∧ w ≤ 9
  h9 : 1 ≤ h ∧ h ≤ 9
  l : LeadsOk (w : Int) (h : Int) ls
  g : ∃ col : Int → Int, (∀ m ∈ panesL ls w h, 0 ≤ col m ∧ col m ≤ 9) ∧ gl = (panesL ls w h).map col
def planP (w h : Nat) (ls : List (List Int)) (gl : List Int) : PyData := planD (w : Int) (h : Int) (.tuple (ls.map encT)) (intsT gl)
def isDrawn (d : PyData) : Prop := ∃ (w h : Nat) (ls : List (List Int)) (gl : List Int), PlanOk w h ls gl ∧ d = planP w h ls gl
def sp__law_plan (K : Fg) : Sp := fun vs H Q E => ∃ (b c : Addr) (G : Hp), Ok K (some (b, c)) G H ∧ vs = [.ref b] ∧ RetS K (some (b, c)) G H Q isDrawn
abbrev N__law_plan : List Str := ["_law_bag_here"]
theorem sc__law_plan : FnScope N__law_plan ["_law_bag_here"] (defScope s__law_plan) := ⟨rfl, rfl, rfl, by decide +kernel, rfl, by decide +kernel, by decide +kernel⟩
theorem ok__law_plan (T : Txt K mg) (G__law_glass : Good P w K mg base (L2.CX P w) 4 "_law_glass" ["_law_bag_here", "_law_plan_here"] [] (sp__law_glass K)) (G__law_leaded : Good P w K mg base (L2.CX P w) 6 "_law_leaded" ["_law_bag_here"] [] (sp__law_leaded K)) : Good P w K mg base (L2.CX P w) 7 "_law_plan" ["_law_bag_here"] [] (sp__law_plan K) := by
  obtain ⟨fd, F⟩ := T.c.def_ 29 (d := d__law_plan) rfl
  have b : Binds K fd ["_law_bag_here"] [] := F.bindsN fun _ _ _ _ _ _ us hl => match us, hl with | [_], _ => rfl
  refine ⟨⟨fd, [], F.ok sc__law_plan (fun vs H Q E h => ?_) (fun cdv A outer s H vs Q E hr h => ?_), .nil, b⟩, T.g__law_plan, F.kp⟩
  · obtain ⟨b, c, G, e, rfl, _⟩ := h
    all_goals rfl
  · obtain ⟨b, c, G, e, rfl, q⟩ := h
    all_goals refine ⟨_, PSs.nox (pss_one (ps_ret (pe_own G__law_glass (hr.mono (by decide)) (by rfl) passL (pa_cons (pv 0) (pa_cons (pe_own G__law_leaded (hr.mono (by decide)) (by rfl) passL (pa_cons (pv 0) pa_nil)) pa_nil))))), ?_⟩
    refine ⟨.ref b, rfl, .ref b, rfl, b, c, G, e, rfl, fun d1 v1 G1 H1 s1 X1 dv1 => ?_⟩
    obtain ⟨w', h', ls, hw, hh, hl, rfl⟩ := s1
    refine ⟨b, c, G1, v1, w', h', ls, _, X1.ok, rfl, dv1, hw.2, hh.2, fun d2 v2 G2 H2 s2 X2 dv2 => ?_⟩
    obtain ⟨gl, og, rfl⟩ := s2
    refine q _ v2 G2 H2 ⟨w', h', ls, gl, ⟨hw, hh, hl, ?_⟩, rfl⟩ (X1.trans X2) dv2
    rcases og with rfl | h
    · refine ⟨fun _ => 0, fun m _ => ⟨Int.le_refl 0, (by decide : (0 : Int) ≤ 9)⟩, ?_⟩
      have pl : (panesL ls w' h').length = 4 * w' * h' := joined_len _ _
      rw [← pl]
      exact (List.eq_replicate_iff.mpr ⟨List.length_map _, fun x hx => by obtain ⟨_, _, rfl⟩ := List.mem_map.mp hx; rfl⟩).symm
    · exact h
theorem es_plan {b c : Addr} {i : Nat} {σ : L2.St} {G : Hp} {E : XK} (hσ : σ[i]? = some (some (.ref b))) : EvS K (some (b, c)) (tCall (sp__law_plan K) [] E (tCons (tVar i) tNil)) σ G isDrawn := fun H e Q q =>
  ⟨.ref b, hσ, b, c, G, e, rfl, q⟩
/-! _law_spot -/
/-- where a point goes by quarter turns -/
def rotP (w h : Int) : Nat → Int × Int → Int × Int
  | 0, p => p
  | k + 1, (x, y) => rotP h w k (h - y, x)
def spotP (w h : Int) (t : Nat) (p : Int × Int) : Int × Int := rotP w h (t % 4) (if 4 ≤ t then (w - p.1, p.2) else p)
def ptD (p : Int × Int) : PyData := .tuple [.int p.1, .int p.2]
def sp__law_spot (K : Fg) : Sp := fun vs H Q E => ∃ (B : Bg) (G : Hp) (v u : V) (wn hn : Int) (L g : PyData) (x y : Int) (t : Nat), Ok K B G H ∧ vs = [v, u, .int (t : Int)] ∧ Dp K G v (.tuple [.int wn, .int hn, L, g]) ∧ Dp K G u (.tuple [.int x, .int y]) ∧ t < 8 ∧ Ret K B G H Q (ptD (spotP wn hn t (x, y)))
abbrev N__law_spot : List Str := ["_law_plan_here", "_law_point", "_law_pick", "_law_x", "_law_y", "_law_width", "_law_height", "_law_k"]
theorem sc__law_spot : FnScope N__law_spot ["_law_plan_here", "_law_point", "_law_pick"] (defScope s__law_spot) := ⟨rfl, rfl, rfl, by decide +kernel, rfl, by decide +kernel, by decide +kernel⟩
theorem ok__law_spot (T : Txt K mg)  : Good P w K mg base (L2.CX P w) 1 "_law_spot" ["_law_plan_here", "_law_point", "_law_pick"] [] (sp__law_spot K) := by
  obtain ⟨fd, F⟩ := T.c.def_ 30 (d := d__law_spot) rfl
  have b : Binds K fd ["_law_plan_here", "_law_point", "_law_pick"] [] := F.bindsN fun _ _ _ _ _ _ us hl => match us, hl with | [_, _, _], _ => rfl
  refine ⟨⟨fd, [], F.ok sc__law_spot (fun vs H Q E h => ?_) (fun cdv A outer s H vs Q E hr h => ?_), .nil, b⟩, T.g__law_spot, F.kp⟩
  · obtain ⟨B, G, v, u, wn, hn, L, g, x, y, t, e, rfl, _⟩ := h
    all_goals rfl
  · obtain ⟨B, G, v, u, wn, hn, L, g, x, y, t, e, rfl, dv, du, ht, q⟩ := h
    all_goals refine ⟨_, PSs.nox (pss_cons (ps_asg (pv 1) (pg_tup rfl (pgs_cons (by exact (pg_name (i := 3) sc__law_spot.nd rfl (Or.inl rfl))) (pgs_cons (by exact (pg_name (i := 4) sc__law_spot.nd rfl (Or.inl rfl))) pgs_nil)))) (pss_cons (ps_asg (pe_slice (r := rSlT K) sl_tup (pv 0) po_none (po_some pe_int)) (pg_tup rfl (pgs_cons (by exact (pg_name (i := 5) sc__law_spot.nd rfl (Or.inl rfl))) (pgs_cons (by exact (pg_name (i := 6) sc__law_spot.nd rfl (Or.inl rfl))) pgs_nil)))) (pss_cons (ps_if (pt_cmpR op_gt (pv 2) pe_int (nomark _)) (pss_one (ps_set (i := 3) sc__law_spot.nd rfl (Or.inl rfl) (pe_op op_sub (pv 5) (pv 3)))) pss_nil) (pss_cons (ps_for PassesOwn.never rfl (pi_range1 (by rfl) T.f_range (pa_cons (pe_op op_mod (pv 2) pe_int) pa_nil)) (pg_name (i := 7) sc__law_spot.nd rfl (Or.inl rfl)) (pss_one (ps_asg (pe_tup (pa_cons (pe_op op_sub (pv 6) (pv 4)) (pa_cons (pv 3) (pa_cons (pv 6) (pa_cons (pv 5) pa_nil))))) (pg_tup rfl (pgs_cons (by exact (pg_name (i := 3) sc__law_spot.nd rfl (Or.inl rfl))) (pgs_cons (by exact (pg_name (i := 4) sc__law_spot.nd rfl (Or.inl rfl))) (pgs_cons (by exact (pg_name (i := 5) sc__law_spot.nd rfl (Or.inl rfl))) (pgs_cons (by exact (pg_name (i := 6) sc__law_spot.nd rfl (Or.inl rfl))) pgs_nil)))))))) (pss_one (ps_ret (pe_tup (pa_cons (pv 3) (pa_cons (pv 4) pa_nil))))))))), ?_⟩
    refine sq_unpack (ds := [.int x, .int y]) (ed_var (i := 1) rfl du) e rfl (fun vs G2 H2 X2 dvs => ?_)
    obtain rfl := dpAll_intsV (bs := [x, y]) dvs
    refine ⟨_, _, rfl, _, _, rfl, rfl, ?_⟩
    refine sq_unpack (ds := [.int wn, .int hn]) (ed_is (ed_slT (ed_var (i := 0) rfl (dp_mono X2.gg dv)) eo_none (eo_some ed_int) (show ¬ (HT.sIx 4 0 none = 0 ∧ HT.sIx 4 4 (some 2) = 4) by decide)) rfl) X2.ok rfl (fun vs G3 H3 X3 dvs => ?_)
    obtain rfl := dpAll_intsV (bs := [wn, hn]) dvs
    refine ⟨_, _, rfl, _, _, rfl, rfl, ?_⟩
    show tSeq _ _ _ [some v, some u, some (.int (t : Int)), some (.int x), some (.int y), some (.int wn), some (.int hn), none] H3
    have Y3 := X2.trans X3
    refine cut1 (fun σ' H' => ∃ G' x', σ' = [some v, some u, some (.int (t : Int)), some (.int x'), some (.int y), some (.int wn), some (.int hn), none] ∧ Ext K B G H G' H' ∧ (if 4 ≤ t then (wn - x, y) else (x, y)) = (x', y)) (fun σ' H' md => ?_) (fun tail => ?_)
    rotate_left
    · refine sq_ifN (b := decide (3 < (t : Int))) (eb_test (ed_op (ed_var (i := 2) rfl (.int (t : Int))) ed_int rd_B0)) X3.ok (fun c G4 H4 X4 => ?_) (fun c G4 H4 X4 => ?_)
      · have c := of_decide_eq_true c
        refine st_set (ed_op (ed_var (i := 5) rfl (.int _)) (ed_var (i := 3) rfl (.int _)) rd_I0) X4.ok (fun v5 G5 H5 X5 d5 => ?_)
        obtain rfl := dp_int d5
        exact tail _ _ ⟨G5, wn - x, rfl, Y3.trans (X4.trans X5), if_pos (by omega)⟩
      · have c := of_decide_eq_false c
        exact tail _ _ ⟨G4, x, rfl, Y3.trans X4, if_neg (by omega)⟩
    obtain ⟨G4, x', rfl, Y4, ex⟩ := md
    have q : Ret K B G H Q (ptD (rotP wn hn (t % 4) (x', y))) := by
      rw [← ex]
      exact q
    refine sq_forR (n := t % 4) (Pv := fun j σ' _ _ => ∃ x1 y1 w1 h1 y7, σ' = [some v, some u, some (.int (t : Int)), some (.int x1), some (.int y1), some (.int w1), some (.int h1), y7] ∧ rotP wn hn (t % 4) (x', y) = rotP w1 h1 (t % 4 - j) (x1, y1)) (ea_cons (ed_is (ed_op (ed_var (i := 2) rfl (.int (t : Int))) ed_int (rd_I (by decide))) (congrArg PyData.int (by omega))) ea_nil) (by omega) Y4.ok (fun G5 H5 X5 => ⟨x', y, wn, hn, _, rfl, rfl⟩) (fun G5 H5 X5 j σ' G6 H6 hj X6 pv => ?_) (fun σ' G6 H6 X6 pv => ?_)
    · obtain ⟨x1, y1, w1, h1, y7, rfl, er⟩ := pv
      refine st_te ((ed_tup (ds := [.int (h1 - y1), .int x1, .int h1, .int w1]) (ea_cons (ed_op (ed_var (i := 6) rfl (.int _)) (ed_var (i := 4) rfl (.int _)) rd_I0) (ea_cons (ed_var (i := 3) rfl (.int _)) (ea_cons (ed_var (i := 6) rfl (.int _)) (ea_cons (ed_var (i := 5) rfl (.int _)) ea_nil)))) (Nat.le_of_ble_eq_true rfl)) H6 X6.ok _ fun v7 G7 H7 X7 d7 => ?_)
      refine g_unp d7 X7.ok.e rfl (fun vs dvs => ?_)
      obtain rfl := dpAll_intsV (bs := [h1 - y1, x1, h1, w1]) dvs
      refine ⟨_, _, rfl, _, _, rfl, _, _, rfl, _, _, rfl, rfl, ?_⟩
      refine ⟨G7, X6.trans X7, h1 - y1, x1, h1, w1, _, rfl, ?_⟩
      rw [er, show t % 4 - j = (t % 4 - (j + 1)) + 1 by omega]
      rfl
    · obtain ⟨x1, y1, w1, h1, y7, rfl, er⟩ := pv
      rw [Nat.sub_self] at er
      rw [er] at q
      exact st_ret (ed_tup (ea_cons (ed_var (i := 3) rfl (.int x1)) (ea_cons (ed_var (i := 4) rfl (.int y1)) ea_nil)) (Nat.le_of_ble_eq_true rfl)) X6.ok (q.mono (Y4.trans X6))
theorem ed_spot {B : Bg} {G : Hp} {σ : L2.St} {tr : TA} {E : XK} {wn hn : Int} {L g : PyData} {x y : Int} {t : Nat} (ha : EvA K B tr σ G [.tuple [.int wn, .int hn, L, g], .tuple [.int x, .int y], .int (t : Int)]) (ht : t < 8) : EvD K B (tCall (sp__law_spot K) [] E tr) σ G (ptD (spotP wn hn t (x, y))) :=
  ed_call ha fun vs G2 H2 _ e dv Q q => by
    cases dv with
    | cons h0 a =>
      cases a with
      | cons h1 a =>
        obtain rfl := dpAll_intsV (bs := [(t : Int)]) a
        exact ⟨B, G2, _, _, wn, hn, L, g, x, y, t, e, rfl, h0, h1, ht, q⟩
/-! _law_cell_of -/
def spF (w h : Int) (t : Nat) : PyData → Option PyData
  | .tuple [.int a, .int b] => some (ptD (spotP w h t (a, b)))
  | _ => none
theorem ed_min2 {B : Bg} {G : Hp} {σ : L2.St} {ta tb : TE} {a b : Int} (ha : EvD K B ta σ G (.int a)) (hb : EvD K B tb σ G (.int b)) : EvD K B (tCB (fun xs H Q => ∃ i j, xs = [V.int i, V.int j] ∧ Q (V.int (if j < i then j else i)) H) (tCons ta (tCons tb tNil))) σ G (.int (min a b)) := fun H e Q q =>
  ha H e _ fun u G2 H2 X2 du => hb.mono X2.gg e.c H2 X2.ok _ fun v G3 H3 X3 dv => by
    obtain rfl := dp_int du
    obtain rfl := dp_int dv
    refine ⟨a, b, rfl, ?_⟩
    rw [show (if b < a then b else a) = min a b by split <;> omega]
    exact q _ G3 H3 (X2.trans X3) (.int _)
def cellP (w h : Int) (t : Nat) (x y : Int) : Int × Int := (min (spotP w h t (x, y)).1 (spotP w h t (x + 1, y + 1)).1, min (spotP w h t (x, y)).2 (spotP w h t (x + 1, y + 1)).2)
def sp__law_cell_of (K : Fg) : Sp := fun vs H Q E => ∃ (B : Bg) (G : Hp) (v : V) (wn hn : Int) (L g : PyData) (x y : Int) (t : Nat), Ok K B G H ∧ vs = [v, .int x, .int y, .int (t : Int)] ∧ Dp K G v (.tuple [.int wn, .int hn, L, g]) ∧ t < 8 ∧ Ret K B G H Q (ptD (cellP wn hn t x y))
abbrev N__law_cell_of : List Str := ["_law_plan_here", "_law_x", "_law_y", "_law_pick", "_law_spots", "_law_point"]
theorem sc__law_cell_of : FnScope N__law_cell_of ["_law_plan_here", "_law_x", "_law_y", "_law_pick"] (defScope s__law_cell_of) := ⟨rfl, rfl, rfl, by decide +kernel, rfl, by decide +kernel, by decide +kernel⟩
theorem ok__law_cell_of (T : Txt K mg) (G__law_spot : Good P w K mg base (L2.CX P w) 1 "_law_spot" ["_law_plan_here", "_law_point", "_law_pick"] [] (sp__law_spot K)) : Good P w K mg base (L2.CX P w) 2 "_law_cell_of" ["_law_plan_here", "_law_x", "_law_y", "_law_pick"] [] (sp__law_cell_of K) := by
  obtain ⟨fd, F⟩ := T.c.def_ 31 (d := d__law_cell_of) rfl
  have b : Binds K fd ["_law_plan_here", "_law_x", "_law_y", "_law_pick"] [] := F.bindsN fun _ _ _ _ _ _ us hl => match us, hl with | [_, _, _, _], _ => rfl
  refine ⟨⟨fd, [], F.ok sc__law_cell_of (fun vs H Q E h => ?_) (fun cdv A outer s H vs Q E hr h => ?_), .nil, b⟩, T.g__law_cell_of, F.kp⟩
  · obtain ⟨B, G, v, wn, hn, L, g, x, y, t, e, rfl, _⟩ := h
    all_goals rfl
  · obtain ⟨B, G, v, wn, hn, L, g, x, y, t, e, rfl, dv, ht, q⟩ := h
    all_goals refine ⟨_, PSs.nox (pss_cons (ps_setLc (i := 4) (own := [("_law_point", 5)]) (g := gName 5) rfl sc__law_cell_of.nd rfl rfl (sw_true rfl rfl rfl (by decide +kernel)) (pi_tup (pe_tup (pa_cons (pe_tup (pa_cons (pv 1) (pa_cons (pv 2) pa_nil))) (pa_cons (pe_tup (pa_cons (pe_op op_add (pv 1) pe_int) (pa_cons (pe_op op_add (pv 2) pe_int) pa_nil))) pa_nil)))) (blkOk_by (own := [("_law_point", 5)]) (N := N__law_cell_of) (sc := defScope s__law_cell_of) (by decide +kernel)) (fun _ _ _ _ _ => (pg_name (i := 5) sc__law_cell_of.nd rfl (Or.inl rfl))) (fun _ _ _ _ _ => pts_nil) (fun _ _ _ _ _ => (pe_own G__law_spot (hr.mono (by decide)) (by rfl) passL (pa_cons (pv 0) (pa_cons (pv 5) (pa_cons (pv 3) pa_nil)))))) (pss_one (ps_ret (pe_tup (pa_cons (pe_callB (call_min2 rfl) (by rfl) T.f_min (by decide +kernel) (pa_cons (pe_ix (r := rIxT K) ix_tup (pe_ix (r := rIxL K) ix_list (pv 4) pe_int (fun _ _ => rfl)) pe_int (fun _ _ => rfl)) (pa_cons (pe_ix (r := rIxT K) ix_tup (pe_ix (r := rIxL K) ix_list (pv 4) pe_int (fun _ _ => rfl)) pe_int (fun _ _ => rfl)) pa_nil))) (pa_cons (pe_callB (call_min2 rfl) (by rfl) T.f_min (by decide +kernel) (pa_cons (pe_ix (r := rIxT K) ix_tup (pe_ix (r := rIxL K) ix_list (pv 4) pe_int (fun _ _ => rfl)) pe_int (fun _ _ => rfl)) (pa_cons (pe_ix (r := rIxT K) ix_tup (pe_ix (r := rIxL K) ix_list (pv 4) pe_int (fun _ _ => rfl)) pe_int (fun _ _ => rfl)) pa_nil))) pa_nil)))))), ?_⟩
    refine sq_set (EvF.ed (ed_isF (ef_lcT (f := spF wn hn t) (ed_tup (ea_cons (ed_tup (ea_cons (ed_var (i := 1) rfl (.int x)) (ea_cons (ed_var (i := 2) rfl (.int y)) ea_nil)) (Nat.le_of_ble_eq_true rfl)) (ea_cons (ed_tup (ea_cons (ed_op (ed_var (i := 1) rfl (.int x)) ed_int rd_I0) (ea_cons (ed_op (ed_var (i := 2) rfl (.int y)) ed_int rd_I0) ea_nil)) (Nat.le_of_ble_eq_true rfl)) ea_nil)) (Nat.le_of_ble_eq_true rfl)) (Nat.le_of_ble_eq_true rfl) (fun d u G' md eg cg du => ?_) (fun d u o G' md eg cg du eo => ?_)) (es := [ptD (spotP wn hn t (x, y)), ptD (spotP wn hn t (x + 1, y + 1))]) rfl)) e (fun v2 G2 H2 X2 d2 => ?_)
    · rcases mem_c md with rfl | md
      · exact eb_yes
      · rw [mem_1 md]
        exact eb_yes
    · have key : ∀ a b : Int, d = .tuple [.int a, .int b] → EvD K B (tCall (sp__law_spot K) [] E0 (tCons (tVar 0) (tCons (tVar 5) (tCons (tVar 3) tNil)))) [some v, some (.int x), some (.int y), some (.int (t : Int)), none, some u] G' o := fun a b ed => by
        subst ed
        obtain rfl := Option.some.inj eo
        exact ed_spot (ea_cons (ed_var (i := 0) rfl (dp_mono eg dv)) (ea_cons (ed_var (i := 5) rfl du) (ea_cons (ed_var (i := 3) rfl (.int _)) ea_nil))) ht
      rcases mem_c md with rfl | md
      · exact key _ _ rfl
      · exact key _ _ (mem_1 md)
    have at_ : ∀ (i : Nat) (p : Int × Int), ([ptD (spotP wn hn t (x, y)), ptD (spotP wn hn t (x + 1, y + 1))])[i]? = some (ptD p) → EvD K B (tOp (rIxT K) (tOp (rIxL K) (tVar 4) (tC (.int (i : Int)))) (tC (.int 0))) [some v, some (.int x), some (.int y), some (.int (t : Int)), some v2, none] G2 (.int p.1) ∧ EvD K B (tOp (rIxT K) (tOp (rIxL K) (tVar 4) (tC (.int (i : Int)))) (tC (.int 1))) [some v, some (.int x), some (.int y), some (.int (t : Int)), some v2, none] G2 (.int p.2) := fun i p hp =>
      ⟨ed_op (ed_op (ed_var (i := 4) rfl d2) ed_int (rd_ixL (atI_nat hp))) ed_int (rd_ixT (i := 0) rfl), ed_op (ed_op (ed_var (i := 4) rfl d2) ed_int (rd_ixL (atI_nat hp))) ed_int (rd_ixT (i := 1) rfl)⟩
    have a0 := at_ 0 _ rfl
    have a1 := at_ 1 _ rfl
    exact st_ret (ed_tup (ea_cons (ed_min2 a0.1 a1.1) (ea_cons (ed_min2 a0.2 a1.2) ea_nil)) (Nat.le_of_ble_eq_true rfl)) X2.ok (q.mono X2)
theorem ed_cell_of {B : Bg} {G : Hp} {σ : L2.St} {tr : TA} {E : XK} {wn hn : Int} {L g : PyData} {x y : Int} {t : Nat} (ha : EvA K B tr σ G [.tuple [.int wn, .int hn, L, g], .int x, .int y, .int (t : Int)]) (ht : t < 8) : EvD K B (tCall (sp__law_cell_of K) [] E tr) σ G (ptD (cellP wn hn t x y)) :=
  ed_call ha fun vs G2 H2 _ e dv Q q => by
    cases dv with
    | cons h0 a =>
      obtain rfl := dpAll_intsV (bs := [x, y, (t : Int)]) a
      exact ⟨B, G2, _, wn, hn, L, g, x, y, t, e, rfl, h0, ht, q⟩
/-! _law_part_of -/
def ptL (p : Int × Int) : List Int := [p.1, p.2]
def ptF (f : Int → Int → PyData) : PyData → Option PyData
  | .tuple [.int a, .int b] => some (f a b)
  | _ => none
/-- the tips of the four sides, and the same in order -/
def tipsS : List (List (List Int)) := [[[0, 0], [1, 0]], [[1, 0], [1, 1]], [[0, 1], [1, 1]], [[0, 0], [0, 1]]]
def tipsT : List (List (List Int)) := tipsS
def pairD (l : List (List Int)) : PyData := .tuple (l.map encT)
theorem srtL_two (a b : List Int) : srtL [a, b] = if HT.lexLt b a = false then [a, b] else [b, a] := by
  by_cases c : HT.lexLt b a = false
  · rw [if_pos c]
    exact (srtL_uniq (List.Perm.refl _) (List.pairwise_cons.mpr ⟨fun x hx => by rw [mem_1 hx]; exact c, List.pairwise_singleton _ _⟩)).symm
  · rw [if_neg c]
    refine (srtL_uniq (List.Perm.swap a b []) (List.pairwise_cons.mpr ⟨fun x hx => ?_, List.pairwise_singleton _ _⟩)).symm
    rw [mem_1 hx]
    have c2 : HT.lexLt b a = true := by
      cases z : HT.lexLt b a with
      | true => rfl
      | false => exact absurd z c
    exact NtL.lex_asym b a c2
theorem tips_four {l : List (List Int)} (h : l ∈ tipsS) : l = [[0, 0], [1, 0]] ∨ l = [[1, 0], [1, 1]] ∨ l = [[0, 1], [1, 1]] ∨ l = [[0, 0], [0, 1]] := by
  simpa [tipsS] using h
theorem tips_srt : ∀ l ∈ tipsS, srtL l = l := fun l hl => by
  obtain ⟨a, b, rfl, c⟩ : ∃ a b, l = [a, b] ∧ HT.lexLt b a = false := by
    rcases tips_four hl with rfl | rfl | rfl | rfl <;> exact ⟨_, _, rfl, by decide +kernel⟩
  rw [srtL_two, if_pos c]
theorem tips_ne : ∀ l ∈ tipsS, ∀ k ∈ l, k ≠ [] := by decide +kernel
def tipA : Nat → Int × Int
  | 1 => (1, 0)
  | 2 => (0, 1)
  | _ => (0, 0)
def tipB : Nat → Int × Int
  | 0 => (1, 0)
  | 1 => (1, 1)
  | 2 => (1, 1)
  | _ => (0, 1)
theorem tips_at {p : Nat} (hp : p < 4) : tipsS[p]? = some [[(tipA p).1, (tipA p).2], [(tipB p).1, (tipB p).2]] ∧ ((0 ≤ (tipA p).1 ∧ (tipA p).1 ≤ 1) ∧ 0 ≤ (tipA p).2 ∧ (tipA p).2 ≤ 1) ∧ (0 ≤ (tipB p).1 ∧ (tipB p).1 ≤ 1) ∧ 0 ≤ (tipB p).2 ∧ (tipB p).2 ≤ 1 :=
  match p, hp with
  | 0, _ => ⟨rfl, by decide⟩
  | 1, _ => ⟨rfl, by decide⟩
  | 2, _ => ⟨rfl, by decide⟩
  | 3, _ => ⟨rfl, by decide⟩
noncomputable def pairF (d : PyData) : Option PyData := by
  classical
  exact if h : ∃ l, l ∈ tipsS ∧ d = pairD l then some (.list ((srtL h.choose).map encT)) else none
theorem pairD_inj : ∀ a ∈ tipsS, ∀ b ∈ tipsS, pairD a = pairD b → a = b := fun a ha b hb h => by
  rcases tips_four ha with rfl | rfl | rfl | rfl <;> rcases tips_four hb with rfl | rfl | rfl | rfl <;> simp [pairD, encT] at h ⊢
theorem pairF_is {l : List (List Int)} (h : l ∈ tipsS) : pairF (pairD l) = some (.list ((srtL l).map encT)) := by
  have ex : ∃ k, k ∈ tipsS ∧ pairD l = pairD k := ⟨l, h, rfl⟩
  unfold pairF
  rw [dif_pos ex]
  exact congrArg (fun k => some (PyData.list ((srtL k).map encT))) (pairD_inj l h _ ex.choose_spec.1 ex.choose_spec.2).symm
theorem pairs_all : (tipsS.map pairD).filterMap pairF = tipsT.map fun l => PyData.list (l.map encT) := by
  have g : ∀ ls : List (List (List Int)), (∀ l ∈ ls, l ∈ tipsS) → (ls.map pairD).filterMap pairF = ls.map fun l => PyData.list (l.map encT) := fun ls h => by
    induction ls with
    | nil => rfl
    | cons l ls ih =>
      rw [List.map_cons, List.filterMap_cons, pairF_is (h l (.head _)), tips_srt l (h l (.head _)), ih fun x hx => h x (.tail _ hx)]
      rfl
  exact g tipsS fun _ h => h
/-- where a point of a cell goes within its cell -/
theorem spot_rel {w h x y a b : Int} {t : Nat} (ht : t < 8) (bd : (0 ≤ a ∧ a ≤ 1) ∧ 0 ≤ b ∧ b ≤ 1) : (spotP w h t (x + a, y + b)).1 - (cellP w h t x y).1 = (spotP 1 1 t (a, b)).1 ∧ (spotP w h t (x + a, y + b)).2 - (cellP w h t x y).2 = (spotP 1 1 t (a, b)).2 := by
  match t, ht with
  | 0, _ => exact ⟨by simp [cellP, spotP, rotP]; omega, by simp [cellP, spotP, rotP]; omega⟩
  | 1, _ => exact ⟨by simp [cellP, spotP, rotP]; omega, by simp [cellP, spotP, rotP]; omega⟩
  | 2, _ => exact ⟨by simp [cellP, spotP, rotP]; omega, by simp [cellP, spotP, rotP]; omega⟩
  | 3, _ => exact ⟨by simp [cellP, spotP, rotP]; omega, by simp [cellP, spotP, rotP]; omega⟩
  | 4, _ => exact ⟨by simp [cellP, spotP, rotP]; omega, by simp [cellP, spotP, rotP]; omega⟩
  | 5, _ => exact ⟨by simp [cellP, spotP, rotP]; omega, by simp [cellP, spotP, rotP]; omega⟩
  | 6, _ => exact ⟨by simp [cellP, spotP, rotP]; omega, by simp [cellP, spotP, rotP]; omega⟩
  | 7, _ => exact ⟨by simp [cellP, spotP, rotP]; omega, by simp [cellP, spotP, rotP]; omega⟩
/-- where a part goes -/
def partP (t : Nat) (p : Nat) : Nat := ((if 4 ≤ t then (4 - p) % 4 else p) + t % 4) % 4
theorem sort_all : ∀ p : Nat, p < 4 → ∀ t : Nat, t < 8 → (if HT.lexLt (ptL (spotP 1 1 t (tipB p))) (ptL (spotP 1 1 t (tipA p))) = false then [ptL (spotP 1 1 t (tipA p)), ptL (spotP 1 1 t (tipB p))] else [ptL (spotP 1 1 t (tipB p)), ptL (spotP 1 1 t (tipA p))]) = tipsT.getD (partP t p) [] := by decide +kernel
theorem sort_rel {p t : Nat} (hp : p < 4) (ht : t < 8) : srtL [ptL (spotP 1 1 t (tipA p)), ptL (spotP 1 1 t (tipB p))] = tipsT.getD (partP t p) [] := by
  rw [srtL_two]
  exact sort_all p hp t ht
structure IdxOk (ds : List PyData) (d : PyData) (j : Nat) : Prop where
  s1 : SeqAt.shaped (.list ds) = true
  s2 : SeqAt.shaped d = true
  hit : ∃ z, ds[j]? = some z ∧ PyData.eqv z d = true
  no : ∀ (m : Nat) (z : PyData), m < j → ds[m]? = some z → PyData.eqv z d = false
theorem part_all : ∀ j : Nat, j < 4 → SeqAt.shaped (.list ((tipsT.getD j []).map encT)) = true ∧ (∀ m : Nat, m < 4 → PyData.eqv (.list ((tipsT.getD m []).map encT)) (.list ((tipsT.getD j []).map encT)) = decide (m = j)) := by decide +kernel
theorem part_at {p t : Nat} (ht : t < 8) (hp : p < 4) : IdxOk (tipsT.map fun l => .list (l.map encT)) (.list ((tipsT.getD (partP t p) []).map encT)) (partP t p) := by
  have lt : partP t p < 4 := Nat.mod_lt _ (by decide)
  generalize partP t p = j at lt
  obtain ⟨h1, h2⟩ := part_all j lt
  have get : ∀ m : Nat, m < 4 → (tipsT.map fun l : List (List Int) => PyData.list (l.map encT))[m]? = some (.list ((tipsT.getD m []).map encT)) := fun m hm => by
    rw [List.getElem?_map, List.getD_eq_getElem?_getD, List.getElem?_eq_getElem (show m < tipsT.length from hm)]
    rfl
  refine ⟨by decide +kernel, h1, ⟨_, get j lt, by rw [h2 j lt]; exact decide_eq_true rfl⟩, fun m z hm hz => ?_⟩
  rw [get m (by omega)] at hz
  obtain rfl := Option.some.inj hz
  rw [h2 m (by omega)]
  exact (decide_eq_false (by omega))
theorem ed_indexD {B : Bg} {G : Hp} {σ : L2.St} {to te : TE} {ds : List PyData} {d : PyData} {j : Nat} (h : EvD K B to σ G (.list ds)) (hd : EvD K B te σ G d) (ok : IdxOk ds d j) : EvD K B (tBM K "list" (rIndexD K) to (tCons te tNil)) σ G (.int (j : Int)) := fun H e Q q =>
  h H e _ fun v G2 H2 X2 dv => by
    obtain ⟨a, xs, rfl, hs, hx⟩ := dp_lst dv
    refine ⟨.inl ⟨rfl, _, ex_l X2.ok.e hs⟩, hd.mono X2.gg e.c H2 X2.ok _ fun u G3 H3 X3 du => ?_⟩
    obtain ⟨z, hz, ez⟩ := ok.hit
    exact ⟨a, u, d, ds, j, z, rfl, rfl, dp_mono (X3.gg.trans X3.ok.e) (.lst hs hx), dp_mono X3.ok.e du, ok.s1, ok.s2, hz, ez, ok.no, q _ G3 H3 (X2.trans X3) (.int _)⟩
def sp__law_part_of (K : Fg) : Sp := fun vs H Q E => ∃ (B : Bg) (G : Hp) (v : V) (wn hn : Int) (L g : PyData) (x y : Int) (p t : Nat), Ok K B G H ∧ vs = [v, .int x, .int y, .int (p : Int), .int (t : Int)] ∧ Dp K G v (.tuple [.int wn, .int hn, L, g]) ∧ p < 4 ∧ t < 8 ∧ Ret K B G H Q (.int ((partP t p : Nat) : Int))
abbrev N__law_part_of : List Str := ["_law_plan_here", "_law_x", "_law_y", "_law_part", "_law_pick", "_law_tips_here", "_law_cell", "_law_spots", "_law_here", "_law_one", "_law_spot_here", "_law_pair"]
theorem sc__law_part_of : FnScope N__law_part_of ["_law_plan_here", "_law_x", "_law_y", "_law_part", "_law_pick"] (defScope s__law_part_of) := ⟨rfl, rfl, rfl, by decide +kernel, rfl, by decide +kernel, by decide +kernel⟩
theorem ok__law_part_of (T : Txt K mg) (G__law_cell_of : Good P w K mg base (L2.CX P w) 2 "_law_cell_of" ["_law_plan_here", "_law_x", "_law_y", "_law_pick"] [] (sp__law_cell_of K)) (G__law_spot : Good P w K mg base (L2.CX P w) 1 "_law_spot" ["_law_plan_here", "_law_point", "_law_pick"] [] (sp__law_spot K)) : Good P w K mg base (L2.CX P w) 3 "_law_part_of" ["_law_plan_here", "_law_x", "_law_y", "_law_part", "_law_pick"] [] (sp__law_part_of K) := by
  obtain ⟨fd, F⟩ := T.c.def_ 32 (d := d__law_part_of) rfl
  have b : Binds K fd ["_law_plan_here", "_law_x", "_law_y", "_law_part", "_law_pick"] [] := F.bindsN fun _ _ _ _ _ _ us hl => match us, hl with | [_, _, _, _, _], _ => rfl
  refine ⟨⟨fd, [], F.ok sc__law_part_of (fun vs H Q E h => ?_) (fun cdv A outer s H vs Q E hr h => ?_), .nil, b⟩, T.g__law_part_of, F.kp⟩
  · obtain ⟨B, G, v, wn, hn, L, g, x, y, p, t, e, rfl, _⟩ := h
    all_goals rfl
  · obtain ⟨B, G, v, wn, hn, L, g, x, y, p, t, e, rfl, dv, hp, ht, q⟩ := h
    all_goals refine ⟨_, PSs.nox (pss_cons (ps_set (i := 5) sc__law_part_of.nd rfl (Or.inl rfl) (pe_lst (pa_cons (pe_tup (pa_cons (pe_tup (pa_cons pe_int (pa_cons pe_int pa_nil))) (pa_cons (pe_tup (pa_cons pe_int (pa_cons pe_int pa_nil))) pa_nil))) (pa_cons (pe_tup (pa_cons (pe_tup (pa_cons pe_int (pa_cons pe_int pa_nil))) (pa_cons (pe_tup (pa_cons pe_int (pa_cons pe_int pa_nil))) pa_nil))) (pa_cons (pe_tup (pa_cons (pe_tup (pa_cons pe_int (pa_cons pe_int pa_nil))) (pa_cons (pe_tup (pa_cons pe_int (pa_cons pe_int pa_nil))) pa_nil))) (pa_cons (pe_tup (pa_cons (pe_tup (pa_cons pe_int (pa_cons pe_int pa_nil))) (pa_cons (pe_tup (pa_cons pe_int (pa_cons pe_int pa_nil))) pa_nil))) pa_nil)))))) (pss_cons (ps_set (i := 6) sc__law_part_of.nd rfl (Or.inr rfl) (pe_own G__law_cell_of (hr.mono (by decide)) (by rfl) passL (pa_cons (pv 0) (pa_cons (pv 1) (pa_cons (pv 2) (pa_cons (pv 4) pa_nil)))))) (pss_cons (ps_setLc (i := 7) (own := [("_law_one", 9)]) (g := gName 9) rfl sc__law_part_of.nd rfl rfl (sw_true rfl rfl rfl (by decide +kernel)) (pi_tup (pe_ix (r := rIxL K) ix_list (pv 5) (pv 3) (fun _ _ => rfl))) (blkOk_by (own := [("_law_one", 9)]) (N := N__law_part_of) (sc := defScope s__law_part_of) (by decide +kernel)) (fun _ _ _ _ _ => (pg_name (i := 9) sc__law_part_of.nd rfl (Or.inl rfl))) (fun _ _ _ _ _ => pts_nil) (fun _ _ _ _ _ => (pe_own G__law_spot (hr.mono (by decide)) (by rfl) passL (pa_cons (pv 0) (pa_cons (pe_tup (pa_cons (pe_op op_add (pv 1) (pe_ix (r := rIxT K) ix_tup (pv 9) pe_int (fun _ _ => rfl))) (pa_cons (pe_op op_add (pv 2) (pe_ix (r := rIxT K) ix_tup (pv 9) pe_int (fun _ _ => rfl))) pa_nil))) (pa_cons (pv 4) pa_nil)))))) (pss_cons (ps_set (i := 8) sc__law_part_of.nd rfl (Or.inl rfl) (pe_callB (r := rSortedL K) cr_sortedL (by rfl) T.f_sorted (by decide +kernel) (pa_cons (pe_lc (own := [("_law_spot_here", 10)]) (g := gName 10) rfl sc__law_part_of.nd (pi_list (pv 7)) (blkOk_by (own := [("_law_spot_here", 10)]) (N := N__law_part_of) (sc := defScope s__law_part_of) (by decide +kernel)) (fun _ _ _ _ _ => (pg_name (i := 10) sc__law_part_of.nd rfl (Or.inl rfl))) (fun _ _ _ _ _ => pts_nil) (fun _ _ _ _ _ => (pe_tup (pa_cons (pe_op op_sub (pe_ix (r := rIxT K) ix_tup (pv 10) pe_int (fun _ _ => rfl)) (pe_ix (r := rIxT K) ix_tup (pv 6) pe_int (fun _ _ => rfl))) (pa_cons (pe_op op_sub (pe_ix (r := rIxT K) ix_tup (pv 10) pe_int (fun _ _ => rfl)) (pe_ix (r := rIxT K) ix_tup (pv 6) pe_int (fun _ _ => rfl))) pa_nil))))) pa_nil))) (pss_one (ps_ret (pe_bm PySem.F.plainAttrs_list PySem.F.slot_list_index PySem.F.type_list_index (mt_indexD (hu65 hr)) (pe_lc (own := [("_law_pair", 11)]) (g := gName 11) rfl sc__law_part_of.nd (pi_list (pv 5)) (blkOk_by (own := [("_law_pair", 11)]) (N := N__law_part_of) (sc := defScope s__law_part_of) (by decide +kernel)) (fun _ _ _ _ _ => (pg_name (i := 11) sc__law_part_of.nd rfl (Or.inl rfl))) (fun _ _ _ _ _ => pts_nil) (fun _ _ _ _ _ => (pe_callB (r := rSortedTL K) cr_sortedTL (by rfl) T.f_sorted (by decide +kernel) (pa_cons (pv 11) pa_nil)))) (pa_cons (pv 8) pa_nil)))))))), ?_⟩
    refine sq_set (ed_is (x := .list (tipsS.map pairD)) (ed_lst (ea_cons (ed_tup (ea_cons (ed_tup (ea_cons ed_int (ea_cons ed_int ea_nil)) (Nat.le_of_ble_eq_true rfl)) (ea_cons (ed_tup (ea_cons ed_int (ea_cons ed_int ea_nil)) (Nat.le_of_ble_eq_true rfl)) ea_nil)) (Nat.le_of_ble_eq_true rfl)) (ea_cons (ed_tup (ea_cons (ed_tup (ea_cons ed_int (ea_cons ed_int ea_nil)) (Nat.le_of_ble_eq_true rfl)) (ea_cons (ed_tup (ea_cons ed_int (ea_cons ed_int ea_nil)) (Nat.le_of_ble_eq_true rfl)) ea_nil)) (Nat.le_of_ble_eq_true rfl)) (ea_cons (ed_tup (ea_cons (ed_tup (ea_cons ed_int (ea_cons ed_int ea_nil)) (Nat.le_of_ble_eq_true rfl)) (ea_cons (ed_tup (ea_cons ed_int (ea_cons ed_int ea_nil)) (Nat.le_of_ble_eq_true rfl)) ea_nil)) (Nat.le_of_ble_eq_true rfl)) (ea_cons (ed_tup (ea_cons (ed_tup (ea_cons ed_int (ea_cons ed_int ea_nil)) (Nat.le_of_ble_eq_true rfl)) (ea_cons (ed_tup (ea_cons ed_int (ea_cons ed_int ea_nil)) (Nat.le_of_ble_eq_true rfl)) ea_nil)) (Nat.le_of_ble_eq_true rfl)) ea_nil)))) (Nat.le_of_ble_eq_true rfl)) rfl) e (fun v5 G2 H2 X2 d5 => ?_)
    refine sq_set (ed_cell_of (ea_cons (ed_var (i := 0) rfl (dp_mono X2.gg dv)) (ea_cons (ed_var (i := 1) rfl (.int _)) (ea_cons (ed_var (i := 2) rfl (.int _)) (ea_cons (ed_var (i := 4) rfl (.int _)) ea_nil)))) ht) X2.ok (fun v6 G3 H3 X3 d6 => ?_)
    obtain ⟨ep, bd⟩ := tips_at hp
    have sr := sort_rel hp ht
    generalize tipA p = q1 at ep bd sr
    generalize tipB p = q2 at ep bd sr
    obtain ⟨a1, b1⟩ := q1
    obtain ⟨a2, b2⟩ := q2
    have dv3 := dp_mono (X2.trans X3).gg dv
    refine sq_set (EvF.ed (ed_isF (ef_lcT (ds := [encT [a1, b1], encT [a2, b2]]) (f := ptF fun a b => ptD (spotP wn hn t (x + a, y + b))) (ed_op (ed_var (i := 5) rfl (dp_mono X3.gg d5)) (ed_var (i := 3) rfl (.int _)) (rd_ixL (atI_nat (by rw [List.getElem?_map, ep]; rfl)))) (Nat.le_of_ble_eq_true rfl) (fun d u G' md eg cg du => ?_) (fun d u o G' md eg cg du eo => ?_)) (es := [ptD (spotP wn hn t (x + a1, y + b1)), ptD (spotP wn hn t (x + a2, y + b2))]) rfl)) X3.ok (fun v7 G4 H4 X4 d7 => ?_)
    · rcases mem_c md with rfl | md
      · exact eb_yes
      · rw [mem_1 md]
        exact eb_yes
    · obtain ⟨a, b, rfl⟩ : ∃ a b : Int, d = encT [a, b] := by
        rcases mem_c md with rfl | md
        · exact ⟨_, _, rfl⟩
        · exact ⟨_, _, mem_1 md⟩
      obtain rfl := Option.some.inj eo
      exact ed_spot (ea_cons (ed_var (i := 0) rfl (dp_mono eg dv3)) (ea_cons (ed_tup (ea_cons (ed_op (ed_var (i := 1) rfl (.int _)) (ed_op (ed_var (i := 9) rfl du) ed_int (rd_ixT (i := 0) rfl)) rd_I0) (ea_cons (ed_op (ed_var (i := 2) rfl (.int _)) (ed_op (ed_var (i := 9) rfl du) ed_int (rd_ixT (i := 1) rfl)) rd_I0) ea_nil)) (Nat.le_of_ble_eq_true rfl)) (ea_cons (ed_var (i := 4) rfl (.int _)) ea_nil))) ht
    have d6' := dp_mono X4.gg d6
    have r1 := spot_rel (w := wn) (h := hn) (x := x) (y := y) ht bd.1
    have r2 := spot_rel (w := wn) (h := hn) (x := x) (y := y) ht bd.2
    refine sq_set (EvF.ed (ed_isF (ef_sorted (ls := [ptL (spotP 1 1 t (a1, b1)), ptL (spotP 1 1 t (a2, b2))]) (EvF.ed (ed_isF (ef_lcL (ds := [ptD (spotP wn hn t (x + a1, y + b1)), ptD (spotP wn hn t (x + a2, y + b2))]) (f := ptF fun a b => encT [a - (cellP wn hn t x y).1, b - (cellP wn hn t x y).2]) (ed_var (i := 7) rfl d7) (Nat.le_of_ble_eq_true rfl) (fun d u G' md eg cg du => ?_) (fun d u o G' md eg cg du eo => ?_)) ?_)) (fun l hl => ?_)) (es := (srtL [ptL (spotP 1 1 t (a1, b1)), ptL (spotP 1 1 t (a2, b2))]).map encT) rfl)) X4.ok (fun v8 G5 H5 X5 d8 => ?_)
    · rcases mem_c md with rfl | md
      · exact eb_yes
      · rw [mem_1 md]
        exact eb_yes
    · obtain ⟨a, b, rfl⟩ : ∃ a b : Int, d = encT [a, b] := by
        rcases mem_c md with rfl | md
        · exact ⟨_, _, rfl⟩
        · exact ⟨_, _, mem_1 md⟩
      obtain rfl := Option.some.inj eo
      exact ed_tup (ea_cons (ed_op (ed_op (ed_var (i := 10) rfl du) ed_int (rd_ixT (i := 0) rfl)) (ed_op (ed_var (i := 6) rfl (dp_mono eg d6')) ed_int (rd_ixT (i := 0) rfl)) rd_I0) (ea_cons (ed_op (ed_op (ed_var (i := 10) rfl du) ed_int (rd_ixT (i := 1) rfl)) (ed_op (ed_var (i := 6) rfl (dp_mono eg d6')) ed_int (rd_ixT (i := 1) rfl)) rd_I0) ea_nil)) (Nat.le_of_ble_eq_true rfl)
    · show [encT [_, _], encT [_, _]] = [encT (ptL _), encT (ptL _)]
      rw [r1.1, r1.2, r2.1, r2.2]
      rfl
    · rcases mem_c hl with rfl | hl
      · exact List.cons_ne_nil _ _
      · rw [mem_1 hl]
        exact List.cons_ne_nil _ _
    rw [sr] at d8
    refine st_ret (ed_indexD (ds := tipsT.map fun l => .list (l.map encT)) (d := .list ((tipsT.getD (partP t p) []).map encT)) (j := partP t p) (EvF.ed (ed_isF (ef_lcL (ds := tipsS.map pairD) (f := pairF) (ed_var (i := 5) rfl (dp_mono (X3.trans (X4.trans X5)).gg d5)) (Nat.le_of_ble_eq_true rfl) (fun d u G' md eg cg du => ?_) (fun d u o G' md eg cg du eo => ?_)) pairs_all)) (ed_var (i := 8) rfl d8) (part_at ht hp)) X5.ok (q.mono ((X2.trans X3).trans (X4.trans X5)))
    · obtain ⟨l, hl, rfl⟩ := List.mem_map.mp md
      rw [pairF_is hl]
      exact eb_yes
    · obtain ⟨l, hl, rfl⟩ := List.mem_map.mp md
      rw [pairF_is hl] at eo
      obtain rfl := Option.some.inj eo
      exact EvF.ed (ef_sortedTL (ed_var (by rfl) du) (tips_ne l hl))
theorem ed_part_of {B : Bg} {G : Hp} {σ : L2.St} {tr : TA} {E : XK} {wn hn : Int} {L g : PyData} {x y : Int} {p t : Nat} (ha : EvA K B tr σ G [.tuple [.int wn, .int hn, L, g], .int x, .int y, .int (p : Int), .int (t : Int)]) (hp : p < 4) (ht : t < 8) : EvD K B (tCall (sp__law_part_of K) [] E tr) σ G (.int ((partP t p : Nat) : Int)) :=
  ed_call ha fun vs G2 H2 _ e dv Q q => by
    cases dv with
    | cons h0 a =>
      obtain rfl := dpAll_intsV (bs := [x, y, (p : Int), (t : Int)]) a
      exact ⟨B, G2, _, wn, hn, L, g, x, y, p, t, e, rfl, h0, hp, ht, q⟩
/-! _law_moved -/
/-! the law's names of leads are the program's -/
theorem name_lead {x y t : Int} (z : okT t) : nameN x y t = leadN x y t := by
  unfold nameN leadN
  by_cases c : t < 4
  · rw [if_pos c, if_pos c]
  · have e : (t + 4) % 8 = t - 4 := by
      have := z.1
      have := z.2
      omega
    rw [if_neg c, if_neg c, Int.one_mul, Int.one_mul, e]
    rfl
/-! the law's own moving is the program's (wants moves, turnsP, movP, spotP) -/
theorem dx_two : ∀ t : Nat, t < 8 → dx (((t : Int) + 2) % 8) = - dy (t : Int) ∧ dy (((t : Int) + 2) % 8) = dx (t : Int) := by decide +kernel
theorem dx_four : ∀ t : Nat, t < 8 → dx (((t : Int) + 4) % 8) = - dx (t : Int) ∧ dy (((t : Int) + 4) % 8) = - dy (t : Int) := by decide +kernel
theorem dx_flip : ∀ t : Nat, t < 4 → dx (4 - (t : Int)) = - dx (t : Int) ∧ dy (4 - (t : Int)) = dy (t : Int) := by decide +kernel
def drT (k : Nat) (t : Int) : Int := (t + 2 * (k : Int)) % 8
theorem rot_add : ∀ (k : Nat) (w h x y : Int) (t : Int), (0 ≤ t ∧ t < 8) → rotP w h k (x + dx t, y + dy t) = ((rotP w h k (x, y)).1 + dx (drT k t), (rotP w h k (x, y)).2 + dy (drT k t))
  | 0, w, h, x, y, t, ht => by
    have e : drT 0 t = t := by
      unfold drT
      omega
    rw [e]
    rfl
  | k + 1, w, h, x, y, t, ht => by
    obtain ⟨n, rfl⟩ := Int.eq_ofNat_of_zero_le ht.1
    obtain ⟨d1, d2⟩ := dx_two n (by omega)
    show rotP h w k (h - (y + dy (n : Int)), x + dx (n : Int)) = ((rotP h w k (h - y, x)).1 + dx (drT (k + 1) (n : Int)), (rotP h w k (h - y, x)).2 + dy (drT (k + 1) (n : Int)))
    have z := rot_add k h w (h - y) x (((n : Int) + 2) % 8) ⟨by omega, by omega⟩
    rw [d1, d2] at z
    have e1 : drT k (((n : Int) + 2) % 8) = drT (k + 1) (n : Int) := by
      unfold drT
      omega
    rw [e1] at z
    rw [show h - (y + dy (n : Int)) = h - y + -dy (n : Int) by omega]
    exact z
theorem leadN_rev {x y t : Int} (ht : 0 ≤ t ∧ t < 8) : leadN (x + dx t) (y + dy t) ((t + 4) % 8) = leadN x y t := by
  obtain ⟨n, rfl⟩ := Int.eq_ofNat_of_zero_le ht.1
  obtain ⟨d1, d2⟩ := dx_four n (by omega)
  unfold leadN
  by_cases c : (n : Int) < 4
  · rw [if_neg (by omega), if_pos c, d1, d2, show ((n : Int) + 4) % 8 = n + 4 by omega, show ((n : Int) + 4 + 4) % 8 = n by omega, show x + dx (n : Int) + 1 * -dx (n : Int) = x by omega, show y + dy (n : Int) + 1 * -dy (n : Int) = y by omega]
  · rw [if_pos (by omega), if_neg c, Int.one_mul, Int.one_mul]
/-- a lead by quarter turns -/
def LR (w h : Int) (k : Nat) (x y t : Int) : List Int := leadN (rotP w h k (x, y)).1 (rotP w h k (x, y)).2 (drT k t)
theorem LR_rev {w h : Int} {k : Nat} {x y t : Int} (ht : 0 ≤ t ∧ t < 8) : LR w h k (x + dx t) (y + dy t) ((t + 4) % 8) = LR w h k x y t := by
  unfold LR
  rw [rot_add k w h x y t ht]
  have e : drT k ((t + 4) % 8) = (drT k t + 4) % 8 := by
    unfold drT
    omega
  rw [e]
  exact leadN_rev ⟨by unfold drT; omega, by unfold drT; omega⟩
def lawN (w h : Int) (k : Nat) : List Int → List Int
  | [x, y, t] => LR w h k x y t
  | _ => []
theorem lawN_lead {w h : Int} {k : Nat} {x y t : Int} (ht : 0 ≤ t ∧ t < 8) : lawN w h k (leadN x y t) = LR w h k x y t := by
  unfold leadN
  by_cases c : t < 4
  · rw [if_pos c]
    rfl
  · rw [if_neg c, Int.one_mul, Int.one_mul]
    exact LR_rev ht
theorem lawN_turn {w h : Nat} {k : Nat} {x y t : Int} (ht : 0 ≤ t ∧ t ≤ 3) : lawN (h : Int) (w : Int) k (turnN h [x, y, t]) = lawN (w : Int) (h : Int) (k + 1) [x, y, t] := by
  show lawN (h : Int) (w : Int) k (leadN ((h : Int) - y) x (t + 2)) = _
  rw [lawN_lead ⟨by omega, by omega⟩]
  show leadN (rotP (h : Int) (w : Int) k ((h : Int) - y, x)).1 (rotP (h : Int) (w : Int) k ((h : Int) - y, x)).2 (drT k (t + 2)) = leadN (rotP (h : Int) (w : Int) k ((h : Int) - y, x)).1 (rotP (h : Int) (w : Int) k ((h : Int) - y, x)).2 (drT (k + 1) t)
  rw [show drT k (t + 2) = drT (k + 1) t by unfold drT; omega]
def Tri (ls : List (List Int)) : Prop := ∀ l ∈ ls, ∃ x y t : Int, l = [x, y, t] ∧ 0 ≤ t ∧ t ≤ 3
theorem srt_map {f g : List Int → List Int} {ls : List (List Int)} (h : ∀ l ∈ ls, g (f l) = f l → True) : srtL ((srtL (ls.map f)).map g) = srtL ((ls.map f).map g) :=
  srtL_uniq ((srtL_perm _).trans ((srtL_perm (ls.map f)).map g)) (srtL_srt _)
theorem srt_idem (ls : List (List Int)) : srtL (srtL ls) = srtL ls := srtL_uniq ((srtL_perm (srtL ls)).trans (srtL_perm ls)) (srtL_srt _)
theorem tri_map {f : List Int → List Int} {ls : List (List Int)} (h : ∀ l ∈ ls, ∃ x y t : Int, f l = leadN x y t ∧ okT t) : Tri (srtL (ls.map f)) := fun l hl => by
  rw [(srtL_perm _).mem_iff] at hl
  obtain ⟨k, hk, rfl⟩ := List.mem_map.mp hl
  obtain ⟨x, y, t, e, ht⟩ := h k hk
  rw [e]
  exact leadN_tri ht
theorem turns_ls : ∀ (k w h : Nat) (ls : List (List Int)) (gl : List Int), Tri ls → srtL ls = ls → (turnsP k (w, h, ls, gl)).2.2.1 = srtL (ls.map (lawN (w : Int) (h : Int) k))
  | 0, w, h, ls, gl, tr, so => by
    have e : ls.map (lawN (w : Int) (h : Int) 0) = ls := (List.map_congr_left fun l hl => by
      obtain ⟨x, y, t, rfl, t0, t3⟩ := tr l hl
      show leadN x y (drT 0 t) = _
      rw [show drT 0 t = t by unfold drT; omega]
      unfold leadN
      exact if_pos (by omega)).trans (List.map_id _)
    rw [e, so]
    rfl
  | k + 1, w, h, ls, gl, tr, so => by
    have z := turns_ls k h w (turnL h ls) (turnG w h gl) (tri_map fun l hl => by
      obtain ⟨x, y, t, rfl, t0, t3⟩ := tr l hl
      exact ⟨_, _, _, rfl, by omega, by omega⟩) (srt_idem _)
    refine z.trans ?_
    unfold turnL
    rw [srt_map (fun _ _ _ => trivial), List.map_map]
    refine congrArg srtL (List.map_congr_left fun l hl => ?_)
    obtain ⟨x, y, t, rfl, t0, t3⟩ := tr l hl
    exact lawN_turn ⟨t0, t3⟩
/-- the turn of a lead, moved -/
def lawT (t : Nat) (t0 : Int) : Int := if 4 ≤ t then drT (t % 4) (4 - t0) else drT (t % 4) t0
def lawM (w h : Nat) (t : Nat) : List Int → List Int
  | [x, y, t0] => leadN (spotP (w : Int) (h : Int) t (x, y)).1 (spotP (w : Int) (h : Int) t (x, y)).2 (lawT t t0)
  | _ => []
theorem mov_ls {w h t : Nat} {ls : List (List Int)} {gl : List Int} (tr : Tri ls) (so : srtL ls = ls) : (movP w h ls gl t).2.2.1 = srtL (ls.map (lawM w h t)) := by
  unfold movP
  by_cases c : 4 ≤ t
  · rw [if_pos c, turns_ls (t % 4) w h (flipL w ls) (flipG w h gl) (tri_map fun l hl => by
      obtain ⟨x, y, t, rfl, t0, t3⟩ := tr l hl
      exact ⟨_, _, _, rfl, by omega, by omega⟩) (srt_idem _)]
    unfold flipL
    rw [srt_map (fun _ _ _ => trivial), List.map_map]
    refine congrArg srtL (List.map_congr_left fun l hl => ?_)
    obtain ⟨x, y, t0, rfl, h0, h3⟩ := tr l hl
    show lawN (w : Int) (h : Int) (t % 4) (leadN ((w : Int) - x) y (4 - t0)) = leadN (spotP (w : Int) (h : Int) t (x, y)).1 (spotP (w : Int) (h : Int) t (x, y)).2 (lawT t t0)
    rw [lawN_lead ⟨by omega, by omega⟩]
    unfold LR spotP lawT
    rw [if_pos c, if_pos c]
  · rw [if_neg c, turns_ls (t % 4) w h ls gl tr so]
    refine congrArg srtL (List.map_congr_left fun l hl => ?_)
    obtain ⟨x, y, t0, rfl, h0, h3⟩ := tr l hl
    show LR (w : Int) (h : Int) (t % 4) x y t0 = leadN (spotP (w : Int) (h : Int) t (x, y)).1 (spotP (w : Int) (h : Int) t (x, y)).2 (lawT t t0)
    unfold LR spotP lawT
    rw [if_neg c, if_neg c]
theorem lawT_ok {t : Nat} {t0 : Int} : 0 ≤ lawT t t0 ∧ lawT t t0 < 8 := by
  unfold lawT drT
  split <;> omega
theorem spot_dir {w h : Int} {t : Nat} {x y t0 : Int} (h0 : 0 ≤ t0 ∧ t0 ≤ 3) : spotP w h t (x + dx t0, y + dy t0) = ((spotP w h t (x, y)).1 + dx (lawT t t0), (spotP w h t (x, y)).2 + dy (lawT t t0)) := by
  unfold spotP lawT
  by_cases c : 4 ≤ t
  · rw [if_pos c, if_pos c, if_pos c]
    obtain ⟨n, rfl⟩ := Int.eq_ofNat_of_zero_le h0.1
    obtain ⟨d1, d2⟩ := dx_flip n (by omega)
    have z := rot_add (t % 4) w h (w - x) y (4 - (n : Int)) ⟨by omega, by omega⟩
    rw [d1, d2] at z
    show rotP w h (t % 4) (w - (x + dx (n : Int)), y + dy (n : Int)) = _
    rw [show w - (x + dx (n : Int)) = w - x + -dx (n : Int) by omega]
    exact z
  · rw [if_neg c, if_neg c, if_neg c]
    exact rot_add (t % 4) w h x y t0 ⟨by omega, by omega⟩
/-! ### the glass -/
def qn (w x y p : Nat) : Nat := 4 * (y * w + x) + p
theorem qn_lt {w h x y p : Nat} (hx : x < w) (hy : y < h) (hp : p < 4) : qn w x y p < 4 * w * h := by
  unfold qn
  have h1 : (y + 1) * w ≤ h * w := Nat.mul_le_mul_right w (by omega)
  rw [Nat.succ_mul] at h1
  have h2 : 4 * w * h = 4 * (h * w) := by rw [Nat.mul_assoc, Nat.mul_comm w h]
  omega
theorem quB_at {w h x y p : Nat} (hx : x < w) (hy : y < h) (hp : p < 4) : (quB w h)[qn w x y p]? = some [(x : Int), (y : Int), (p : Int)] := by
  rw [quB_range, List.getElem?_map, List.getElem?_range (qn_lt hx hy hp)]
  have e1 : qn w x y p / 4 = y * w + x := by
    unfold qn
    omega
  have e2 : qn w x y p % 4 = p := by
    unfold qn
    omega
  have e3 : (y * w + x) % w = x := by
    rw [Nat.mul_add_mod_self_right]
    exact Nat.mod_eq_of_lt hx
  have e4 : (y * w + x) / w = y := by
    rw [Nat.add_comm, Nat.add_mul_div_right _ _ (by omega), Nat.div_eq_of_lt hx, Nat.zero_add]
  show some (cellQ w (qn w x y p)) = _
  unfold cellQ
  rw [e1, e2, e3, e4]
theorem qAt_n (w x y p : Nat) : (qAt (w : Int) (x : Int) (y : Int) (p : Int)).toNat = qn w x y p := by
  have e : qAt (w : Int) (x : Int) (y : Int) (p : Int) = ((qn w x y p : Nat) : Int) := by
    unfold qAt qn
    push_cast
    rfl
  rw [e, Int.toNat_natCast]
theorem get_map {f : List Int → Int} {ks : List (List Int)} {i : Nat} {k : List Int} (h : ks[i]? = some k) : (ks.map f).getD i 0 = f k := by
  rw [List.getD_eq_getElem?_getD, List.getElem?_map, h]
  rfl
theorem turn_at {w h x y p : Nat} {gl : List Int} (hx : x < w) (hy : y < h) (hp : p < 4) : (turnG w h gl).getD (qn h (h - 1 - y) x ((p + 1) % 4)) 0 = gl.getD (qn w x y p) 0 := by
  unfold turnG
  rw [get_map (quB_at (w := h) (h := w) (x := h - 1 - y) (y := x) (p := (p + 1) % 4) (by omega) hx (by omega))]
  show gl.getD (qAt (w : Int) (x : Int) ((h : Int) - 1 - ((h - 1 - y : Nat) : Int)) (((((p + 1) % 4 : Nat) : Int) + 3) % 4)).toNat 0 = _
  rw [show ((h : Int) - 1 - ((h - 1 - y : Nat) : Int)) = (y : Int) by omega, show (((((p + 1) % 4 : Nat) : Int) + 3) % 4) = (p : Int) by omega, qAt_n]
theorem flip_at {w h x y p : Nat} {gl : List Int} (hx : x < w) (hy : y < h) (hp : p < 4) : (flipG w h gl).getD (qn w (w - 1 - x) y ((4 - p) % 4)) 0 = gl.getD (qn w x y p) 0 := by
  unfold flipG
  rw [get_map (quB_at (w := w) (h := h) (x := w - 1 - x) (y := y) (p := (4 - p) % 4) (by omega) hy (by omega))]
  show gl.getD (qAt (w : Int) ((w : Int) - 1 - ((w - 1 - x : Nat) : Int)) (y : Int) ((4 - (((4 - p) % 4 : Nat) : Int)) % 4)).toNat 0 = _
  rw [show ((w : Int) - 1 - ((w - 1 - x : Nat) : Int)) = (x : Int) by omega, show ((4 - (((4 - p) % 4 : Nat) : Int)) % 4) = (p : Int) by omega, qAt_n]
/-- a quarter by quarter turns -/
def rotC (w h : Nat) : Nat → Nat × Nat × Nat → Nat × Nat × Nat
  | 0, c => c
  | k + 1, (x, y, p) => rotC h w k (h - 1 - y, x, (p + 1) % 4)
def dimW (w h : Nat) : Nat → Nat
  | 0 => w
  | k + 1 => dimW h w k
def InC (w h : Nat) (c : Nat × Nat × Nat) : Prop := c.1 < w ∧ c.2.1 < h ∧ c.2.2 < 4
theorem turns_dim : ∀ (k w h : Nat) (ls : List (List Int)) (gl : List Int), (turnsP k (w, h, ls, gl)).1 = dimW w h k ∧ (turnsP k (w, h, ls, gl)).2.1 = dimW h w k
  | 0, _, _, _, _ => ⟨rfl, rfl⟩
  | k + 1, w, h, ls, gl => turns_dim k h w _ _
theorem rot_in : ∀ (k w h : Nat) (c : Nat × Nat × Nat), InC w h c → InC (dimW w h k) (dimW h w k) (rotC w h k c)
  | 0, _, _, _, i => i
  | k + 1, w, h, (x, y, p), i => rot_in k h w (h - 1 - y, x, (p + 1) % 4) ⟨by have := i.2.1; show h - 1 - y < h; have : y < h := this; omega, i.1, by show (p + 1) % 4 < 4; omega⟩
theorem turns_gl : ∀ (k w h : Nat) (ls : List (List Int)) (gl : List Int) (c : Nat × Nat × Nat), InC w h c → (turnsP k (w, h, ls, gl)).2.2.2.getD (qn (dimW w h k) (rotC w h k c).1 (rotC w h k c).2.1 (rotC w h k c).2.2) 0 = gl.getD (qn w c.1 c.2.1 c.2.2) 0
  | 0, _, _, _, _, _, _ => rfl
  | k + 1, w, h, ls, gl, (x, y, p), i => by
    have hx : x < w := i.1
    have hy : y < h := i.2.1
    have hp : p < 4 := i.2.2
    refine (turns_gl k h w (turnL h ls) (turnG w h gl) (h - 1 - y, x, (p + 1) % 4) ⟨by show h - 1 - y < h; omega, hx, by show (p + 1) % 4 < 4; omega⟩).trans ?_
    exact turn_at hx hy hp
theorem rot_onto : ∀ (k w h : Nat) (c : Nat × Nat × Nat), InC (dimW w h k) (dimW h w k) c → ∃ c0, InC w h c0 ∧ rotC w h k c0 = c
  | 0, _, _, c, i => ⟨c, i, rfl⟩
  | k + 1, w, h, c, i => by
    obtain ⟨⟨x, y, p⟩, j, e⟩ := rot_onto k h w c i
    have hx : x < h := j.1
    have hy : y < w := j.2.1
    have hp : p < 4 := j.2.2
    refine ⟨(y, h - 1 - x, (p + 3) % 4), ⟨hy, by show h - 1 - x < h; omega, by show (p + 3) % 4 < 4; omega⟩, ?_⟩
    show rotC h w k (h - 1 - (h - 1 - x), y, ((p + 3) % 4 + 1) % 4) = c
    rw [show h - 1 - (h - 1 - x) = x by omega, show ((p + 3) % 4 + 1) % 4 = p by omega]
    exact e
def cellC (w h t : Nat) (c : Nat × Nat × Nat) : Nat × Nat × Nat := rotC w h (t % 4) (if 4 ≤ t then (w - 1 - c.1, c.2.1, (4 - c.2.2) % 4) else c)
theorem mov_gl {w h t : Nat} {ls : List (List Int)} {gl : List Int} {c : Nat × Nat × Nat} (i : InC w h c) : (movP w h ls gl t).2.2.2.getD (qn (dimW w h (t % 4)) (cellC w h t c).1 (cellC w h t c).2.1 (cellC w h t c).2.2) 0 = gl.getD (qn w c.1 c.2.1 c.2.2) 0 := by
  obtain ⟨x, y, p⟩ := c
  have hx : x < w := i.1
  have hy : y < h := i.2.1
  have hp : p < 4 := i.2.2
  unfold movP cellC
  by_cases c : 4 ≤ t
  · rw [if_pos c, if_pos c]
    refine (turns_gl (t % 4) w h (flipL w ls) (flipG w h gl) (w - 1 - x, y, (4 - p) % 4) ⟨by show w - 1 - x < w; omega, hy, by show (4 - p) % 4 < 4; omega⟩).trans ?_
    exact flip_at hx hy hp
  · rw [if_neg c, if_neg c]
    exact turns_gl (t % 4) w h ls gl (x, y, p) i
theorem cell_onto {w h t : Nat} {c : Nat × Nat × Nat} (i : InC (dimW w h (t % 4)) (dimW h w (t % 4)) c) : ∃ c0, InC w h c0 ∧ cellC w h t c0 = c := by
  obtain ⟨⟨x, y, p⟩, j, e⟩ := rot_onto (t % 4) w h c i
  unfold cellC
  by_cases c4 : 4 ≤ t
  · have hx : x < w := j.1
    have hp : p < 4 := j.2.2
    refine ⟨(w - 1 - x, y, (4 - p) % 4), ⟨by show w - 1 - x < w; omega, j.2.1, by show (4 - p) % 4 < 4; omega⟩, ?_⟩
    rw [if_pos c4]
    show rotC w h (t % 4) (w - 1 - (w - 1 - x), y, (4 - (4 - p) % 4) % 4) = c
    rw [show w - 1 - (w - 1 - x) = x by omega, show (4 - (4 - p) % 4) % 4 = p by omega]
    exact e
  · exact ⟨(x, y, p), j, by rw [if_neg c4]; exact e⟩
theorem cell_in {w h t : Nat} {c : Nat × Nat × Nat} (i : InC w h c) : InC (dimW w h (t % 4)) (dimW h w (t % 4)) (cellC w h t c) := by
  obtain ⟨x, y, p⟩ := c
  have hx : x < w := i.1
  have hp : p < 4 := i.2.2
  unfold cellC
  by_cases c4 : 4 ≤ t
  · rw [if_pos c4]
    exact rot_in (t % 4) w h _ ⟨by show w - 1 - x < w; omega, i.2.1, by show (4 - p) % 4 < 4; omega⟩
  · rw [if_neg c4]
    exact rot_in (t % 4) w h _ i
/-- the law's cell and part are these -/
theorem cell_is {w h t x y p : Nat} (ht : t < 8) (hx : x < w) (hy : y < h) (hp : p < 4) : cellP (w : Int) (h : Int) t (x : Int) (y : Int) = (((cellC w h t (x, y, p)).1 : Int), ((cellC w h t (x, y, p)).2.1 : Int)) ∧ partP t p = (cellC w h t (x, y, p)).2.2 := by
  match t, ht with
  | 0, _ => exact ⟨Prod.ext (by simp [cellP, spotP, rotP, cellC, rotC] <;> omega) (by simp [cellP, spotP, rotP, cellC, rotC] <;> omega), by simp [partP, cellC, rotC] <;> omega⟩
  | 1, _ => exact ⟨Prod.ext (by simp [cellP, spotP, rotP, cellC, rotC] <;> omega) (by simp [cellP, spotP, rotP, cellC, rotC] <;> omega), by simp [partP, cellC, rotC] <;> omega⟩
  | 2, _ => exact ⟨Prod.ext (by simp [cellP, spotP, rotP, cellC, rotC] <;> omega) (by simp [cellP, spotP, rotP, cellC, rotC] <;> omega), by simp [partP, cellC, rotC] <;> omega⟩
  | 3, _ => exact ⟨Prod.ext (by simp [cellP, spotP, rotP, cellC, rotC] <;> omega) (by simp [cellP, spotP, rotP, cellC, rotC] <;> omega), by simp [partP, cellC, rotC] <;> omega⟩
  | 4, _ => exact ⟨Prod.ext (by simp [cellP, spotP, rotP, cellC, rotC] <;> omega) (by simp [cellP, spotP, rotP, cellC, rotC] <;> omega), by simp [partP, cellC, rotC] <;> omega⟩
  | 5, _ => exact ⟨Prod.ext (by simp [cellP, spotP, rotP, cellC, rotC] <;> omega) (by simp [cellP, spotP, rotP, cellC, rotC] <;> omega), by simp [partP, cellC, rotC] <;> omega⟩
  | 6, _ => exact ⟨Prod.ext (by simp [cellP, spotP, rotP, cellC, rotC] <;> omega) (by simp [cellP, spotP, rotP, cellC, rotC] <;> omega), by simp [partP, cellC, rotC] <;> omega⟩
  | 7, _ => exact ⟨Prod.ext (by simp [cellP, spotP, rotP, cellC, rotC] <;> omega) (by simp [cellP, spotP, rotP, cellC, rotC] <;> omega), by simp [partP, cellC, rotC] <;> omega⟩
theorem dim_par : ∀ t : Nat, t < 8 → ∀ w h : Nat, dimW w h (t % 4) = if t % 2 = 0 then w else h
  | 0, _, _, _ => rfl
  | 1, _, _, _ => rfl
  | 2, _, _, _ => rfl
  | 3, _, _, _ => rfl
  | 4, _, _, _ => rfl
  | 5, _, _, _ => rfl
  | 6, _, _, _ => rfl
  | 7, _, _, _ => rfl
theorem mov_dim {w h t : Nat} {ls : List (List Int)} {gl : List Int} : (movP w h ls gl t).1 = dimW w h (t % 4) ∧ (movP w h ls gl t).2.1 = dimW h w (t % 4) := by
  unfold movP
  split
  · exact turns_dim _ _ _ _ _
  · exact turns_dim _ _ _ _ _
theorem qn_dec {w x y p : Nat} (hx : x < w) (hp : p < 4) : qn w x y p / 4 % w = x ∧ qn w x y p / 4 / w = y ∧ qn w x y p % 4 = p := by
  have e1 : qn w x y p / 4 = y * w + x := by
    unfold qn
    omega
  refine ⟨?_, ?_, ?_⟩
  · rw [e1, Nat.mul_add_mod_self_right]
    exact Nat.mod_eq_of_lt hx
  · rw [e1, Nat.add_comm, Nat.add_mul_div_right _ _ (by omega), Nat.div_eq_of_lt hx, Nat.zero_add]
  · unfold qn
    omega
theorem qn_onto {w h j : Nat} (hj : j < 4 * w * h) : ∃ x y p, InC w h (x, y, p) ∧ qn w x y p = j := by
  have e : 4 * w * h = 4 * (h * w) := by rw [Nat.mul_assoc, Nat.mul_comm w h]
  have w0 : 0 < w := Nat.pos_of_ne_zero fun z => by
    subst z
    rw [Nat.mul_zero, Nat.zero_mul] at hj
    omega
  refine ⟨j / 4 % w, j / 4 / w, j % 4, ⟨Nat.mod_lt _ w0, (Nat.div_lt_iff_lt_mul w0).mpr (by omega), Nat.mod_lt _ (by decide)⟩, ?_⟩
  show 4 * (j / 4 / w * w + j / 4 % w) + j % 4 = j
  have := Nat.div_add_mod (j / 4) w
  rw [Nat.mul_comm w] at this
  omega
theorem rep_zero : ∀ n : Nat, (List.replicate n [PyData.int 0]).flatten = (List.replicate n (0 : Int)).map PyData.int
  | 0 => rfl
  | n + 1 => by
    rw [List.replicate_succ, List.replicate_succ, List.flatten_cons, List.map_cons, rep_zero n]
    rfl
theorem turns_mov : ∀ (k w h : Nat) (ls : List (List Int)) (gl : List Int), MovOk w h ls gl → MovOk (dimW w h k) (dimW h w k) (turnsP k (w, h, ls, gl)).2.2.1 (turnsP k (w, h, ls, gl)).2.2.2
  | 0, _, _, _, _, m => m
  | k + 1, w, h, ls, gl, m => turns_mov k h w _ _ (turn_ok m)
theorem mov_len {w h t : Nat} {ls : List (List Int)} {gl : List Int} (m : MovOk w h ls gl) : (movP w h ls gl t).2.2.2.length = 4 * dimW w h (t % 4) * dimW h w (t % 4) := by
  unfold movP
  split
  · exact (turns_mov _ _ _ _ _ (flip_ok m)).gn
  · exact (turns_mov _ _ _ _ _ m).gn
theorem one_turn : ∀ n : Nat, n < 8 → (List.range 8).filterMap (fun j : Nat => (fun i : Int => if i = (n : Int) then some (PyData.int i) else none) (j : Int)) = [PyData.int (n : Int)]
  | 0, _ => rfl
  | 1, _ => rfl
  | 2, _ => rfl
  | 3, _ => rfl
  | 4, _ => rfl
  | 5, _ => rfl
  | 6, _ => rfl
  | 7, _ => rfl
theorem dir_inj : ∀ a : Nat, a < 8 → ∀ b : Nat, b < 8 → (dx (a : Int) = dx (b : Int) ∧ dy (a : Int) = dy (b : Int)) = (a = b) := by
  have : ∀ a : Nat, a < 8 → ∀ b : Nat, b < 8 → ((dx (a : Int) = dx (b : Int) ∧ dy (a : Int) = dy (b : Int)) ↔ a = b) := by decide +kernel
  exact fun a ha b hb => propext (this a ha b hb)
theorem eqv_lint2 (a b c d : Int) : PyData.eqv (.tuple [.int a, .int b]) (.tuple [.int c, .int d]) = decide ([a, b] = [c, d]) := by
  have z := eqv_ints [a, b] [c, d]
  simp only [PyData.eqv]
  exact z
theorem eqv_pt {a b c d : Int} : PyData.eqv (.tuple [.int a, .int b]) (.tuple [.int c, .int d]) = decide (a = c ∧ b = d) := by
  rw [show (PyData.eqv (.tuple [.int a, .int b]) (.tuple [.int c, .int d])) = decide ([a, b] = [c, d]) from eqv_lint2 a b c d]
  exact decide_eq_decide.mpr (by simp)
theorem shp_pt {a b : Int} : SeqAt.shaped (.tuple [.int a, .int b]) = true := shp (by simp [PyData.canLay0, PyData.canLayAll0]) (by simp [PyData.depth, PyData.depthAll])
def sp__law_moved (K : Fg) : Sp := fun vs H Q E => ∃ (B : Bg) (G : Hp) (v : V) (wn hn : Nat) (ls : List (List Int)) (gl : List Int) (t : Nat), Ok K B G H ∧ vs = [v, .int (t : Int)] ∧ Dp K G v (movD wn hn ls gl) ∧ MovOk wn hn ls gl ∧ srtL ls = ls ∧ t < 8 ∧ Ret K B G H Q (movPD (movP wn hn ls gl t))
abbrev N__law_moved : List Str := ["_law_plan_here", "_law_pick", "_law_made", "_law_some_here", "_law_name_here", "_law_one", "_law_other", "_law_turns", "_law_glass_here", "_law_quarter", "_law_colour", "_law_x", "_law_y", "_law_part", "_law_cell", "_law_tip", "_law_turn"]
theorem sc__law_moved : FnScope N__law_moved ["_law_plan_here", "_law_pick"] (defScope s__law_moved) := ⟨rfl, rfl, rfl, by decide +kernel, rfl, by decide +kernel, by decide +kernel⟩
theorem ok__law_moved (T : Txt K mg) (G__law_tips : Good P w K mg base (L2.CX P w) 2 "_law_tips" ["_law_name_here"] [] (sp__law_tips K)) (G__law_spot : Good P w K mg base (L2.CX P w) 1 "_law_spot" ["_law_plan_here", "_law_point", "_law_pick"] [] (sp__law_spot K)) (G__law_go : Good P w K mg base (L2.CX P w) 1 "_law_go" ["_law_here", "_law_low", "_law_pick"] [] (sp__law_go K)) (G__law_name : Good P w K mg base (L2.CX P w) 2 "_law_name" ["_law_here", "_law_low", "_law_pick"] [] (sp__law_name K)) (G__law_cell_of : Good P w K mg base (L2.CX P w) 2 "_law_cell_of" ["_law_plan_here", "_law_x", "_law_y", "_law_pick"] [] (sp__law_cell_of K)) (G__law_part_of : Good P w K mg base (L2.CX P w) 3 "_law_part_of" ["_law_plan_here", "_law_x", "_law_y", "_law_part", "_law_pick"] [] (sp__law_part_of K)) : Good P w K mg base (L2.CX P w) 4 "_law_moved" ["_law_plan_here", "_law_pick"] [] (sp__law_moved K) := by
  obtain ⟨fd, F⟩ := T.c.def_ 33 (d := d__law_moved) rfl
  have b : Binds K fd ["_law_plan_here", "_law_pick"] [] := F.bindsN fun _ _ _ _ _ _ us hl => match us, hl with | [_, _], _ => rfl
  refine ⟨⟨fd, [], F.ok sc__law_moved (fun vs H Q E h => ?_) (fun cdv A outer s H vs Q E hr h => ?_), .nil, b⟩, T.g__law_moved, F.kp⟩
  · obtain ⟨B, G, v, wn, hn, ls, gl, t, e, rfl, _⟩ := h
    all_goals rfl
  · obtain ⟨B, G, v, wn, hn, ls, gl, t, e, rfl, dv, m, so, ht, q⟩ := h
    all_goals refine ⟨_, PSs.nox (pss_cons (ps_set (i := 2) sc__law_moved.nd rfl (Or.inl rfl) (pe_ifExp (pt_cmpR op_eq (pe_op op_mod (pv 1) pe_int) pe_int (nomark _)) (pe_slice (r := rSlT K) sl_tup (pv 0) po_none (po_some pe_int)) (pe_tup (pa_cons (pe_ix (r := rIxT K) ix_tup (pv 0) pe_int (fun _ _ => rfl)) (pa_cons (pe_ix (r := rIxT K) ix_tup (pv 0) pe_int (fun _ _ => rfl)) pa_nil))))) (pss_cons (ps_set (i := 3) sc__law_moved.nd rfl (Or.inl rfl) (pe_lst pa_nil)) (pss_cons (ps_for PassesOwn.never rfl (pi_tup (pe_ix (r := rIxT K) ix_tup (pv 0) pe_int (fun _ _ => rfl))) (pg_name (i := 4) sc__law_moved.nd rfl (Or.inl rfl)) (pss_cons (ps_asg (pe_lc (own := [("_law_tip", 15)]) (g := gName 15) rfl sc__law_moved.nd (pi_tup (pe_own G__law_tips (hr.mono (by decide)) (by rfl) passL (pa_cons (pv 4) pa_nil))) (blkOk_by (own := [("_law_tip", 15)]) (N := N__law_moved) (sc := defScope s__law_moved) (by decide +kernel)) (fun _ _ _ _ _ => (pg_name (i := 15) sc__law_moved.nd rfl (Or.inl rfl))) (fun _ _ _ _ _ => pts_nil) (fun _ _ _ _ _ => (pe_own G__law_spot (hr.mono (by decide)) (by rfl) passL (pa_cons (pv 0) (pa_cons (pv 15) (pa_cons (pv 1) pa_nil)))))) (pg_lst rfl (pgs_cons (by exact (pg_name (i := 5) sc__law_moved.nd rfl (Or.inr rfl))) (pgs_cons (by exact (pg_name (i := 6) sc__law_moved.nd rfl (Or.inr rfl))) pgs_nil)))) (pss_cons (ps_setLc (i := 7) (own := [("_law_turn", 16)]) (g := gName 16) rfl sc__law_moved.nd rfl rfl (sw_true rfl rfl rfl (by decide +kernel)) (pi_range1 (by rfl) T.f_range (pa_cons pe_int pa_nil)) (blkOk_by (own := [("_law_turn", 16)]) (N := N__law_moved) (sc := defScope s__law_moved) (by decide +kernel)) (fun _ _ _ _ _ => (pg_name (i := 16) sc__law_moved.nd rfl (Or.inl rfl))) (fun _ _ _ _ _ => (pts_one (pt_cmpR (r := rEqD K) (op_eqD hr.units) (pe_own G__law_go (hr.mono (by decide)) (by rfl) passL (pa_cons (pe_ix (r := rIxT K) ix_tup (pv 5) pe_int (fun _ _ => rfl)) (pa_cons (pe_ix (r := rIxT K) ix_tup (pv 5) pe_int (fun _ _ => rfl)) (pa_cons (pv 16) pa_nil)))) (pv 6) (nomark _)))) (fun _ _ _ _ _ => (pv 16))) (pss_one (ps_expr (pe_bm PySem.F.plainAttrs_list PySem.F.slot_list_append PySem.F.type_list_append mt_append (pv 3) (pa_cons (pe_own G__law_name (hr.mono (by decide)) (by rfl) passL (pa_cons (pe_ix (r := rIxT K) ix_tup (pv 5) pe_int (fun _ _ => rfl)) (pa_cons (pe_ix (r := rIxT K) ix_tup (pv 5) pe_int (fun _ _ => rfl)) (pa_cons (pe_ix (r := rIxL K) ix_list (pv 7) pe_int (fun _ _ => rfl)) pa_nil)))) pa_nil))))))) (pss_cons (ps_set (i := 8) sc__law_moved.nd rfl (Or.inl rfl) (pe_op op_rep (pe_lst (pa_cons pe_int pa_nil)) (pe_callB (r := rLenS K) call_len_seq (by rfl) T.f_len (by decide +kernel) (pa_cons (pe_ix (r := rIxT K) ix_tup (pv 0) pe_int (fun _ _ => rfl)) pa_nil)))) (pss_cons (ps_for PassesOwn.never rfl (pi_enT (by rfl) T.f_enumerate (pa_cons (pe_ix (r := rIxT K) ix_tup (pv 0) pe_int (fun _ _ => rfl)) pa_nil)) (pg_tup rfl (pgs_cons (by exact (pg_name (i := 9) sc__law_moved.nd rfl (Or.inl rfl))) (pgs_cons (by exact (pg_name (i := 10) sc__law_moved.nd rfl (Or.inl rfl))) pgs_nil))) (pss_cons (ps_par3 (i := 11) (j := 12) (l := 13) (by rfl) sc__law_moved.nd rfl rfl rfl (by decide) (by decide) (by decide) rfl rfl rfl (pa_cons (pe_op op_mod (pe_op op_fdivW (pv 9) pe_int) (pe_ix (r := rIxT K) ix_tup (pv 0) pe_int (fun _ _ => rfl))) (pa_cons (pe_op op_fdivW (pe_op op_fdivW (pv 9) pe_int) (pe_ix (r := rIxT K) ix_tup (pv 0) pe_int (fun _ _ => rfl))) (pa_cons (pe_op op_mod (pv 9) pe_int) pa_nil))) (by rfl)) (pss_cons (ps_set (i := 14) sc__law_moved.nd rfl (Or.inl rfl) (pe_own G__law_cell_of (hr.mono (by decide)) (by rfl) passL (pa_cons (pv 0) (pa_cons (pv 11) (pa_cons (pv 12) (pa_cons (pv 1) pa_nil)))))) (pss_one (ps_asg (pv 10) (pg_sub (pv 8) (pe_op op_add (pe_op op_mul pe_int (pe_op op_add (pe_op op_mul (pe_ix (r := rIxT K) ix_tup (pv 14) pe_int (fun _ _ => rfl)) (pe_ix (r := rIxT K) ix_tup (pv 2) pe_int (fun _ _ => rfl))) (pe_ix (r := rIxT K) ix_tup (pv 14) pe_int (fun _ _ => rfl)))) (pe_own G__law_part_of (hr.mono (by decide)) (by rfl) passL (pa_cons (pv 0) (pa_cons (pv 11) (pa_cons (pv 12) (pa_cons (pv 13) (pa_cons (pv 1) pa_nil))))))) set_list)))))) (pss_one (ps_ret (pe_op (r := rCatT K) op_catT (pv 2) (pe_tup (pa_cons (pe_callTy (r := rTupS K) call_tuple_of (by rfl) T.f_tuple (by decide +kernel) (pa_cons (pe_callB (r := rSortedL K) cr_sortedL (by rfl) T.f_sorted (by decide +kernel) (pa_cons (pv 3) pa_nil)) pa_nil)) (pa_cons (pe_callTy (r := rTupS K) call_tuple_of (by rfl) T.f_tuple (by decide +kernel) (pa_cons (pv 8) pa_nil)) pa_nil))))))))))), ?_⟩
    obtain ⟨W, hW⟩ : ∃ W, dimW wn hn (t % 4) = W := ⟨_, rfl⟩
    obtain ⟨V', hV⟩ : ∃ V', dimW hn wn (t % 4) = V' := ⟨_, rfl⟩
    have dW := dim_par t ht wn hn
    have dV := dim_par t ht hn wn
    have e2 : EvD K B (tOp (rIxT K) (tVar 0) (tC (.int 2))) [some v, some (.int (t : Int))] G (.tuple (ls.map encT)) := ed_op (ed_var (i := 0) rfl dv) ed_int (rd_ixT (i := 2) rfl)
    have tr : Tri ls := m.tri
    refine sq_set (d := .tuple [.int (W : Int), .int (V' : Int)]) (ed_if (b := decide (t % 2 = 0)) (eb_is (eb_test (ed_op (ed_op (ed_var (i := 1) rfl (.int (t : Int))) ed_int (rd_I (by decide))) ed_int (rd_eq rfl))) (by rw [diI]; exact decide_eq_decide.mpr (by omega))) (fun c => ?_) (fun c => ?_)) e (fun v2 G2 H2 X2 d2 => ?_)
    · have c := of_decide_eq_true c
      rw [if_pos c, hW] at dW
      rw [if_pos c, hV] at dV
      exact ed_is (ed_slT (ed_var (i := 0) rfl dv) eo_none (eo_some ed_int) (show ¬ (HT.sIx 4 0 none = 0 ∧ HT.sIx 4 4 (some 2) = 4) by decide)) (by rw [dW, dV]; rfl)
    · have c := of_decide_eq_false c
      rw [if_neg c, hW] at dW
      rw [if_neg c, hV] at dV
      exact ed_is (ed_tup (ea_cons (ed_op (ed_var (i := 0) rfl dv) ed_int (rd_ixT (i := 1) rfl)) (ea_cons (ed_op (ed_var (i := 0) rfl dv) ed_int (rd_ixT (i := 0) rfl)) ea_nil)) (Nat.le_of_ble_eq_true rfl)) (by rw [dW, dV])
    -- the leads
    refine sq_setL (ef_lst ea_nil (Nat.zero_le _)) X2.ok (fun f G3 H3 l3 => ?_)
    have Y3 := X2.trans l3.x
    have dv3 := dp_mono Y3.gg dv
    have lsn := m.ln
    refine sq_forT0 (ds := ls.map encT) (Pv := fun Gx j σ' H' => ∃ (G' : Hp) (y4 y5 y6 y7 : Option V), σ' = [some v, some (.int (t : Int)), some v2, some (.ref f), y4, y5, y6, y7, none, none, none, none, none, none, none, none, none] ∧ Ex Gx G' ∧ Loo K B G2 H2 G' H' f (((ls.take j).map (lawM wn hn t)).map encT)) (ed_op (ed_var (i := 0) rfl dv3) ed_int (rd_ixT (i := 2) rfl)) l3.x.ok (fun Gx Hx Xx => ⟨Gx, _, _, _, _, rfl, Ex.refl _, l3.step Xx⟩) (fun Gx j σ' H' pv => ?_) (fun Gx Hx Xx j d u σ' H' hj du pv => ?_) (fun Gx Hx Xx σ' H' pv => ?_)
    · obtain ⟨G', y4, y5, y6, y7, rfl, g, l⟩ := pv
      exact g.trans l.x.ok.e
    · obtain ⟨G', y4, y5, y6, y7, rfl, g, l⟩ := pv
      rw [List.getElem?_map] at hj
      obtain ⟨k, ek, rfl⟩ := Option.map_eq_some_iff.mp hj
      obtain ⟨x, y, t0, rfl, t00, t03⟩ := tr k (List.mem_of_getElem? ek)
      have dvX := dp_mono (Xx.gg.trans g) dv3
      have sd := spot_dir (w := (wn : Int)) (h := (hn : Int)) (t := t) (x := x) (y := y) ⟨t00, t03⟩
      obtain ⟨T, eT, T8⟩ : ∃ T : Nat, lawT t t0 = (T : Int) ∧ T < 8 := ⟨(lawT t t0).toNat, by have := @lawT_ok t t0; omega, by have := @lawT_ok t t0; omega⟩
      have lM : lawM wn hn t [x, y, t0] = leadN (spotP (wn : Int) (hn : Int) t (x, y)).1 (spotP (wn : Int) (hn : Int) t (x, y)).2 (T : Int) := by rw [← eT]; rfl
      rw [eT] at sd
      generalize hO : spotP (wn : Int) (hn : Int) t (x, y) = O at sd lM
      refine sq_unpackL (n := 2) (ds := [ptD O, ptD (O.1 + dx (T : Int), O.2 + dy (T : Int))]) (EvF.ed (ed_isF (ef_lcT (ds := [.tuple [.int x, .int y], .tuple [.int (x + dx t0), .int (y + dy t0)]]) (f := ptF fun a b => ptD (spotP (wn : Int) (hn : Int) t (a, b))) (ed_tips (ea_cons (ed_var (i := 4) rfl (dp_mono g du)) ea_nil) ⟨by omega, by omega⟩) (Nat.le_of_ble_eq_true rfl) (fun d u G' md eg cg du => ?_) (fun d u o G' md eg cg du eo => ?_)) (by
        show [ptD (spotP (wn : Int) (hn : Int) t (x, y)), ptD (spotP (wn : Int) (hn : Int) t (x + dx t0, y + dy t0))] = _
        rw [sd, hO]))) l.x.ok rfl (fun vs G5 H5 X5 dvs => ?_)
      · rcases mem_c md with rfl | md
        · exact eb_yes
        · rw [mem_1 md]
          exact eb_yes
      · obtain ⟨a, b, rfl⟩ : ∃ a b : Int, d = .tuple [.int a, .int b] := by
          rcases mem_c md with rfl | md
          · exact ⟨_, _, rfl⟩
          · exact ⟨_, _, mem_1 md⟩
        obtain rfl := Option.some.inj eo
        exact ed_spot (ea_cons (ed_var (i := 0) rfl (dp_mono eg dvX)) (ea_cons (ed_var (i := 15) rfl du) (ea_cons (ed_var (i := 1) rfl (.int _)) ea_nil))) ht
      match vs, dvs with
      | [v5, v6], .cons d5 (.cons d6 .nil) =>
      refine ⟨_, _, rfl, _, _, rfl, rfl, ?_⟩
      show tSeq _ _ _ [some v, some (.int (t : Int)), some v2, some (.ref f), some u, some v5, some v6, y7, none, none, none, none, none, none, none, none, none] H5
      refine sq_set (EvF.ed (ed_isF (ef_lcR (n := 8) (f := fun i => if i = (T : Int) then some (PyData.int i) else none) (ea_cons ed_int ea_nil) (by decide) (fun j hj => ?_) (fun j d hj ej => ?_)) (one_turn T T8))) X5.ok (fun v7 G6 H6 X6 d7 => ?_)
      · refine eb_is (eb_test (ed_op (ed_go (ea_cons (ed_op (ed_var (i := 5) rfl d5) ed_int (rd_ixT (i := 0) rfl)) (ea_cons (ed_op (ed_var (i := 5) rfl d5) ed_int (rd_ixT (i := 1) rfl)) (ea_cons (ed_var (i := 16) rfl (.int (j : Int))) ea_nil))) ⟨by omega, by omega⟩) (ed_var (i := 6) rfl d6) (rd_eqD shp_pt shp_pt))) ?_
        show PyData.eqv (.tuple [.int (O.1 + dx (j : Int)), .int (O.2 + dy (j : Int))]) (.tuple [.int (O.1 + dx (T : Int)), .int (O.2 + dy (T : Int))]) = _
        rw [eqv_pt]
        have inj := dir_inj j hj T T8
        by_cases c : j = T
        · subst c
          rw [if_pos rfl]
          exact decide_eq_true ⟨rfl, rfl⟩
        · rw [if_neg (by omega)]
          refine decide_eq_false fun z => c ?_
          rw [← inj]
          exact ⟨by omega, by omega⟩
      · have ej : (if (j : Int) = (T : Int) then some (PyData.int (j : Int)) else none) = some d := ej
        by_cases c : (j : Int) = (T : Int)
        · rw [if_pos c] at ej
          obtain rfl := Option.some.inj ej
          exact ed_var (i := 16) rfl (.int (j : Int))
        · rw [if_neg c] at ej
          cases ej
      have X56 := X5.trans X6
      refine st_append rfl (l.step X56) (ed_is (ed_lname (x := O.1) (y := O.2) (t := (T : Int)) (ea_cons (ed_op (ed_var (i := 5) rfl (dp_mono X6.gg d5)) ed_int (rd_ixT (i := 0) rfl)) (ea_cons (ed_op (ed_var (i := 5) rfl (dp_mono X6.gg d5)) ed_int (rd_ixT (i := 1) rfl)) (ea_cons (ed_op (ed_var (i := 7) rfl d7) ed_int (rd_ixL (i := 0) rfl)) ea_nil))) ⟨by omega, by omega⟩) (congrArg encT ((name_lead ⟨by omega, by omega⟩).trans lM.symm))) (by
        rw [List.length_map, List.length_map, List.length_take]
        omega) (fun G7 H7 l7 g7 => ?_)
      refine ⟨G7, _, _, _, _, rfl, g.trans (X56.gg.trans g7), ?_⟩
      rw [List.take_add_one, ek, List.map_append, List.map_append]
      exact l7
    obtain ⟨G4, y4, y5, y6, y7, rfl, g4, l4⟩ := pv
    rw [List.length_map, List.take_length] at l4
    obtain ⟨G5, xs5, X5, g5, h5, a5⟩ := l4.frz
    have dN : Dp K G5 (.ref f) (.list ((ls.map (lawM wn hn t)).map encT)) := .lst (SqL.of h5) a5
    have Y5 := X2.trans X5
    have dv5 := dp_mono Y5.gg dv
    have d25 := dp_mono X5.gg d2
    clear l3 dv3
    -- the glass
    have gln := m.gn
    have n400' := n400 m.w9.2 m.h9.2
    have e3 : ∀ {G' : Hp} {σ' : L2.St}, σ'[0]? = some (some v) → Ex G5 G' → EvD K B (tOp (rIxT K) (tVar 0) (tC (.int 3))) σ' G' (encT gl) := fun hσ g => ed_op (ed_var (i := 0) hσ (dp_mono g dv5)) ed_int (rd_ixT (i := 3) rfl)
    refine sq_setL (ds := (List.replicate gl.length (0 : Int)).map PyData.int) (ed_isF (rd_rep (n := gl.length) (by show 1 * gl.length ≤ 100000; omega) (by omega) (ef_lst (ea_cons ed_int ea_nil) (Nat.le_of_ble_eq_true rfl)) (ed_len (n := gl.length) (e3 rfl (Ex.refl _)) (congrArg some (List.length_map _)))) (rep_zero gl.length)) X5.ok (fun g8 G6 H6 l6 => ?_)
    obtain ⟨M, hM⟩ : ∃ M, (movP wn hn ls gl t).2.2.2 = M := ⟨_, rfl⟩
    have WV : (1 ≤ W ∧ W ≤ 9) ∧ (1 ≤ V' ∧ V' ≤ 9) ∧ 4 * W * V' = 4 * wn * hn := by
      have w9 := m.w9
      have h9 := m.h9
      rw [hW] at dW
      rw [hV] at dV
      by_cases c : t % 2 = 0
      · rw [if_pos c] at dW dV
        subst dW dV
        exact ⟨w9, h9, rfl⟩
      · rw [if_neg c] at dW dV
        subst dW dV
        exact ⟨h9, w9, by rw [Nat.mul_assoc, Nat.mul_comm W V', ← Nat.mul_assoc]⟩
    have ps : ∀ i, i < gl.length → ∃ x y p : Nat, InC wn hn (x, y, p) ∧ i / 4 % wn = x ∧ i / 4 / wn = y ∧ i % 4 = p ∧ qn wn x y p = i := fun i hi => by
      have w9 := m.w9
      refine ⟨_, _, _, ⟨Nat.mod_lt _ (by omega), ?_, Nat.mod_lt _ (by decide)⟩, rfl, rfl, rfl, ?_⟩
      · show i / 4 / wn < hn
        rw [gln] at hi
        refine (Nat.div_lt_iff_lt_mul (by omega)).mpr ?_
        have : 4 * wn * hn = 4 * (hn * wn) := by rw [Nat.mul_assoc, Nat.mul_comm wn hn]
        omega
      · show 4 * (i / 4 / wn * wn + i / 4 % wn) + i % 4 = i
        have := Nat.div_add_mod (i / 4) wn
        rw [Nat.mul_comm wn] at this
        omega
    have gM : ∀ {x y p : Nat}, InC wn hn (x, y, p) → M.getD (qn W (cellC wn hn t (x, y, p)).1 (cellC wn hn t (x, y, p)).2.1 (cellC wn hn t (x, y, p)).2.2) 0 = gl.getD (qn wn x y p) 0 := fun {x y p} i => by
      rw [← hM, ← hW]
      exact mov_gl i
    have inM : ∀ {x y p : Nat}, InC wn hn (x, y, p) → InC W V' (cellC wn hn t (x, y, p)) := fun {x y p} i => by
      rw [← hW, ← hV]
      exact cell_in i
    have lenM : M.length = 4 * W * V' := by
      rw [← hM, ← hW, ← hV]
      exact mov_len m
    refine sq_forP0 (i := 9) (j := 10) (Pv := fun Gx k σ' G' H'' => ∃ (L : List Int) (y9 y10 y11 y12 y13 y14 : Option V), σ' = [some v, some (.int (t : Int)), some v2, some (.ref f), y4, y5, y6, y7, some (.ref g8), y9, y10, y11, y12, y13, y14, none, none] ∧ Ex Gx G' ∧ Loo K B G5 H' G' H'' g8 (L.map PyData.int) ∧ L.length = gl.length ∧ ∀ x y p : Nat, InC wn hn (x, y, p) → qn wn x y p < k → L.getD (qn W (cellC wn hn t (x, y, p)).1 (cellC wn hn t (x, y, p)).2.1 (cellC wn hn t (x, y, p)).2.2) 0 = M.getD (qn W (cellC wn hn t (x, y, p)).1 (cellC wn hn t (x, y, p)).2.1 (cellC wn hn t (x, y, p)).2.2) 0)
      (ep_enT (ea_cons (e3 rfl l6.x.gg) ea_nil)) l6.x.ok (fun G7 H7 X7 => ?_) (fun Gx k σ' G7 H7 pv => ?_) (fun Gx k σ' G7 H7 G8 H8 pv X8 => ?_) (fun G7 H7 X7 k x y u0 w0 σ' G8 H8 hk ex ey pv dx0 dy0 => ?_) (fun G7 H7 X7 σ' G8 H8 pv => ?_)
    · exact ⟨_, _, _, _, _, _, _, rfl, Ex.refl _, l6.step X7, List.length_replicate, fun x y p _ z => absurd z (Nat.not_lt_zero _)⟩
    · obtain ⟨L, y9, y10, y11, y12, y13, y14, rfl, g, l, _⟩ := pv
      exact ⟨g, l.x.ok⟩
    · obtain ⟨L, y9, y10, y11, y12, y13, y14, rfl, g, l, ll, ag⟩ := pv
      exact ⟨L, _, _, _, _, _, _, rfl, g.trans X8.gg, l.step X8, ll, ag⟩
    · obtain ⟨L, y9, y10, y11, y12, y13, y14, rfl, g, l, ll, ag⟩ := pv
      obtain rfl := Option.some.inj ex
      obtain rfl := dp_int dx0
      rw [List.getElem?_map] at ey
      obtain ⟨col, ec, rfl⟩ := Option.map_eq_some_iff.mp ey
      obtain rfl := dp_int dy0
      have kl : k < gl.length := (List.getElem?_eq_some_iff.mp ec).1
      obtain ⟨x, y, p, ic, ex', ey', ep', eq'⟩ := ps k kl
      have hx : x < wn := ic.1
      have hy : y < hn := ic.2.1
      have hp : p < 4 := ic.2.2
      have gX := l6.x.gg.trans (X7.gg.trans g)
      have dvX := dp_mono gX dv5
      have pl0 : ∀ {G' : Hp} {σ' : L2.St}, σ'[0]? = some (some v) → Ex G8 G' → EvD K B (tOp (rIxT K) (tVar 0) (tC (.int 0))) σ' G' (.int (wn : Int)) := fun hσ g => ed_op (ed_var (i := 0) hσ (dp_mono g dvX)) ed_int (rd_ixT (i := 0) rfl)
      have k4 : ((k : Int) / 4) = ((k / 4 : Nat) : Int) := by omega
      have w9 := m.w9
      have q4 : EvD K B (tOp (rI CDivW fun i j => .int (i / j)) (tVar 9) (tC (.int 4))) [some v, some (.int (t : Int)), some v2, some (.ref f), y4, y5, y6, y7, some (.ref g8), some (.int (k : Int)), some (.int col), y11, y12, y13, y14, none, none] G8 (.int ((k / 4 : Nat) : Int)) := ed_is (ed_op (ed_var (i := 9) rfl (.int (k : Int))) ed_int (rd_I (C := CDivW) ⟨by decide, by decide +kernel⟩)) (congrArg PyData.int k4)
      have cw : CDivW ((k / 4 : Nat) : Int) (wn : Int) := ⟨by omega, lg (by omega) (by omega)⟩
      refine sq_par3 (a := (x : Int)) (b := (y : Int)) (c := (p : Int)) (ea_cons (ed_is (ed_op q4 (pl0 rfl (Ex.refl _)) (rd_I (by omega))) (congrArg PyData.int (by rw [← ex']; rfl))) (ea_cons (ed_is (ed_op q4 (pl0 rfl (Ex.refl _)) (rd_I cw)) (congrArg PyData.int (by rw [← ey']; rfl))) (ea_cons (ed_is (ed_op (ed_var (i := 9) rfl (.int (k : Int))) ed_int (rd_I (by decide))) (congrArg PyData.int (by omega))) ea_nil))) l.x.ok (fun G9 H9 X9 => ?_)
      obtain ⟨c1, c2⟩ := cell_is ht hx hy hp
      have iM := inM ic
      have mM := gM ic
      refine sq_set (ed_is (ed_cell_of (ea_cons (ed_var (i := 0) rfl (dp_mono X9.gg dvX)) (ea_cons (ed_var (i := 11) rfl (.int (x : Int))) (ea_cons (ed_var (i := 12) rfl (.int (y : Int))) (ea_cons (ed_var (i := 1) rfl (.int (t : Int))) ea_nil)))) ht) (congrArg ptD c1)) X9.ok (fun v14 GA HA XA dA => ?_)
      generalize hC : cellC wn hn t (x, y, p) = C at c1 c2 iM mM dA
      obtain ⟨cx, cy, cp⟩ := C
      have hcx : cx < W := iM.1
      have hcy : cy < V' := iM.2.1
      have hcp : cp < 4 := iM.2.2
      have lA := (l.step X9).step XA
      have d2A := dp_mono ((gX.trans X9.gg).trans XA.gg) d25
      have pos := qn_lt hcx hcy hcp
      obtain ⟨W1, V1, WVe⟩ := WV
      refine st_pokeL (S := fun d => d = .int col) (J := fun j => j = qn W cx cy cp) rfl lA (EvD.toS (ed_var (i := 10) rfl (.int col)) rfl) (EvD.toS (ed_is (ed_op (ed_op ed_int (ed_op (ed_op (ed_op (ed_var (i := 14) rfl dA) ed_int (rd_ixT (i := 1) rfl)) (ed_op (ed_var (i := 2) rfl d2A) ed_int (rd_ixT (i := 0) rfl)) (rd_I (.inr ⟨by omega, by omega⟩))) (ed_op (ed_var (i := 14) rfl dA) ed_int (rd_ixT (i := 0) rfl)) rd_I0) (rd_I (.inl (by decide)))) (ed_part_of (ea_cons (ed_var (i := 0) rfl (dp_mono (X9.gg.trans XA.gg) dvX)) (ea_cons (ed_var (i := 11) rfl (.int (x : Int))) (ea_cons (ed_var (i := 12) rfl (.int (y : Int))) (ea_cons (ed_var (i := 13) rfl (.int (p : Int))) (ea_cons (ed_var (i := 1) rfl (.int (t : Int))) ea_nil))))) hp ht) rd_I0) (congrArg PyData.int (show (4 * ((cy : Int) * (W : Int) + (cx : Int)) + ((partP t p : Nat) : Int)) = ((qn W cx cy cp : Nat) : Int) by
        rw [c2]
        unfold qn
        push_cast
        rfl))) ⟨_, rfl, by rw [List.length_map, ll, gln]; omega, rfl⟩) (fun j d GB HB sd Jj lB gB => ?_)
      subst sd Jj
      refine ⟨GB, L.set (qn W cx cy cp) col, _, _, _, _, _, _, rfl, g.trans ((X9.gg.trans XA.gg).trans gB), ?_, by rw [List.length_set]; exact ll, fun x1 y1 p1 i1 h1 => ?_⟩
      · rw [List.map_set]
        exact lB
      · have hc : gl.getD (qn wn x y p) 0 = col := by
          rw [eq', List.getD_eq_getElem?_getD, ec]
          rfl
        by_cases same : qn W (cellC wn hn t (x1, y1, p1)).1 (cellC wn hn t (x1, y1, p1)).2.1 (cellC wn hn t (x1, y1, p1)).2.2 = qn W cx cy cp
        · rw [same, mM, hc, List.getD_eq_getElem?_getD, List.getElem?_set_self (by rw [ll, gln]; omega)]
          rfl
        · rw [List.getD_eq_getElem?_getD, List.getElem?_set_ne (fun z => same z.symm), ← List.getD_eq_getElem?_getD]
          refine ag x1 y1 p1 i1 ?_
          have ne : qn wn x1 y1 p1 ≠ k := fun z => by
            obtain ⟨z1, z2, z3⟩ := qn_dec (y := y1) (show x1 < wn from i1.1) (show p1 < 4 from i1.2.2)
            rw [z] at z1 z2 z3
            have a1 := z1.symm.trans ex'
            have a2 := z2.symm.trans ey'
            have a3 := z3.symm.trans ep'
            subst a1 a2 a3
            rw [hC] at same
            exact same rfl
          omega
    · obtain ⟨L, y9, y10, y11, y12, y13, y14, rfl, g, l, ll, ag⟩ := pv
      have eL : L = M := by
        refine (List.ext_getElem? fun j => ?_)
        by_cases hj : j < gl.length
        · obtain ⟨x, y, p, ic, eq'⟩ := qn_onto (w := W) (h := V') (j := j) (by rw [WV.2.2, ← gln]; exact hj)
          rw [← hW, ← hV] at ic
          obtain ⟨⟨x0, y0, p0⟩, i0, e0⟩ := cell_onto ic
          have z := ag x0 y0 p0 i0 (by rw [List.length_map, gln]; exact qn_lt i0.1 i0.2.1 i0.2.2)
          rw [e0] at z
          have z : L.getD (qn W x y p) 0 = M.getD (qn W x y p) 0 := z
          rw [eq', List.getD_eq_getElem?_getD, List.getD_eq_getElem?_getD] at z
          have lM' : j < M.length := by rw [lenM, WV.2.2, ← gln]; exact hj
          rw [List.getElem?_eq_getElem (by rw [ll]; exact hj), List.getElem?_eq_getElem lM'] at z ⊢
          exact congrArg some z
        · rw [List.getElem?_eq_none (by rw [ll]; omega), List.getElem?_eq_none (by rw [lenM, WV.2.2, ← gln]; omega)]
      subst eL
      obtain ⟨G9, xs9, X9, g9, h9, a9⟩ := l.frz
      have dG : Dp K G9 (.ref g8) (.list (L.map PyData.int)) := .lst (SqL.of h9) a9
      have fin : movPD (movP wn hn ls gl t) = .tuple ([.int (W : Int), .int (V' : Int)] ++ [.tuple ((srtL (ls.map (lawM wn hn t))).map encT), .tuple (L.map PyData.int)]) := by
        unfold movPD
        rw [mov_dim.1, mov_dim.2, hW, hV, mov_ls tr so, hM]
        rfl
      rw [fin] at q
      refine st_ret (ed_op (ed_var (i := 2) rfl (dp_mono X9.gg d25)) (ed_tup (ea_cons (ed_tupOf (EvF.ed (ef_sorted (ed_var (i := 3) rfl (dp_mono X9.gg dN)) (fun l hl => ?_)))) (ea_cons (ed_tupOf (ed_var (i := 8) rfl dG)) ea_nil)) (Nat.le_of_ble_eq_true rfl)) (rd_catT (List.cons_ne_nil _ _) (List.cons_ne_nil _ _) (Nat.le_of_ble_eq_true rfl))) X9.ok (q.mono (Y5.trans X9))
      obtain ⟨k, hk, rfl⟩ := List.mem_map.mp hl
      obtain ⟨x, y, t0, rfl, _⟩ := tr k hk
      exact lead_ne
theorem ed_moved {B : Bg} {G : Hp} {σ : L2.St} {tr : TA} {E : XK} {wn hn : Nat} {ls : List (List Int)} {gl : List Int} {t : Nat} (ha : EvA K B tr σ G [movD wn hn ls gl, .int (t : Int)]) (m : MovOk wn hn ls gl) (so : srtL ls = ls) (ht : t < 8) : EvD K B (tCall (sp__law_moved K) [] E tr) σ G (movPD (movP wn hn ls gl t)) :=
  ed_call ha fun vs G2 H2 _ e dv Q q => by
    cases dv with
    | cons h0 a =>
      obtain rfl := dpAll_intsV (bs := [(t : Int)]) a
      exact ⟨B, G2, _, wn, hn, ls, gl, t, e, rfl, h0, m, so, ht, q⟩
/-! _law_said -/
theorem te_sd2 {sp : Sp} {E : L2.St → XK} {te tu : TE} {σ : L2.St} {H : Hp} {Q : VK} {v u : V} (h1 : RdV te σ H v) (h2 : RdV tu σ H u) (h : sp [v, u] H Q (E σ)) : tCallSD sp [] E (tCons te (tCons tu tNil)) σ H Q := h1 _ (h2 _ h)
def sp__law_said (K : Fg) : Sp := fun vs H Q E => ∃ (B : Bg) (G : Hp) (v : V) (t : Int) (wn hn : Nat) (ls : List (List Int)) (gl : List Int), Ok K B G H ∧ vs = [v, .int t] ∧ Dp K G v (movD wn hn ls gl) ∧ MovOk wn hn ls gl ∧ (∀ n : Nat, t = (n : Int) → n < 8 → Ret K B G H Q (movPD (movP wn hn ls gl n))) ∧ (¬ okT t → Ret K B G H Q (.str "bad"))
abbrev N__law_said : List Str := ["_law_plan_here", "_law_pick", "_law_told", "e"]
theorem sc__law_said : FnScope N__law_said ["_law_plan_here", "_law_pick"] (defScope s__law_said) := ⟨rfl, rfl, rfl, by decide +kernel, rfl, by decide +kernel, by decide +kernel⟩
theorem ok__law_said (T : Txt K mg) (G_mirrored : Good P w K mg base (L2.CX P w) 5 "mirrored" ["plan", "turn"] [] (sp_mirrored K)) : Good P w K mg base (L2.CX P w) 6 "_law_said" ["_law_plan_here", "_law_pick"] [] (sp__law_said K) := by
  obtain ⟨fd, F⟩ := T.c.def_ 34 (d := d__law_said) rfl
  have b : Binds K fd ["_law_plan_here", "_law_pick"] [] := F.bindsN fun _ _ _ _ _ _ us hl => match us, hl with | [_, _], _ => rfl
  refine ⟨⟨fd, [], F.ok sc__law_said (fun vs H Q E h => ?_) (fun cdv A outer s H vs Q E hr h => ?_), .nil, b⟩, T.g__law_said, F.kp⟩
  · obtain ⟨B, G, v, t, wn, hn, ls, gl, e, rfl, _⟩ := h
    all_goals rfl
  · obtain ⟨B, G, v, t, wn, hn, ls, gl, e, rfl, dv, m, q, r⟩ := h
    all_goals refine ⟨_, PSs.nox (pss_cons (ps_set (i := 2) sc__law_said.nd rfl (Or.inl rfl) pe_non) (pss_cons (ps_try_as (i := 3) (Wout := fun _ _ _ _ => False) rfl rfl sc__law_said.nd rfl rfl ⟨rfl, by decide, .inl T.g_LeadError⟩ takes0 (fun W pn xe tk _ => (pss_one (ps_set (i := 2) sc__law_said.nd rfl (Or.inl rfl) (pe_ownS G_mirrored (hr.mono (by decide)) (by rfl) (fun σ => passAt tk σ) (pa_cons (pv 0) (pa_cons (pv 1) pa_nil))))))
    (fun a oe cls d pn hz hf => (pss_ex (α := Addr) (t := fun D => tAsg (tIf (tB (tCB (rIsE K D a) (tCons (tVar 3) (tCons (tC (.ref (He.ga K "BadTurn"))) tNil)))) (tC (.str "bad")) (tC (.str "other"))) (gName 2)) (p := fun D => D = He.ga K "BadTurn" ∧ cls = .ref D ∧ d = none) fun D hD => (by obtain ⟨rfl, rfl, rfl⟩ := hD; exact (pss_one (ps_set (i := 2) sc__law_said.nd rfl (Or.inl rfl) (pe_ifExp (pt_val (by exact (pe_callB (r := rIsE K (He.ga K "BadTurn") a) (call_isE T.ec_BadTurn hz hf) (by rfl) T.f_isinstance (by decide +kernel) (pa_cons (pv 3) (pa_cons (pe_glob (v := .ref (He.ga K "BadTurn")) (by rfl) T.g_BadTurn rfl) pa_nil))))) pe_str pe_str))))))) (pss_one (ps_ret (pv 2))))), ?_⟩
    refine sq_set ed_non e (fun v2 G2 H2 X2 d2 => ?_)
    obtain rfl := dp_non d2
    refine sq_st (st_te (te_sd2 (rv_var (i := 0) rfl) (rv_var (i := 1) rfl) ⟨B, G2, v, t, wn, hn, ls, gl, X2.ok, rfl, dp_mono X2.gg dv, m, fun n en n8 v3 G3 H3 X3 d3 => ?_, fun no G3 H3 X3 => ?_⟩))
    · exact st_ret (ed_var (i := 2) rfl d3) X3.ok ((q n en n8).mono (X2.trans X3))
    · refine ⟨true, T.exm_BadTurn_LeadError, fun _ a ha => ⟨He.ga K "BadTurn", ⟨rfl, rfl, rfl⟩, ?_⟩, fun z => Bool.noConfusion z⟩
      refine ⟨.ref a, rfl, .ref (He.ga K "BadTurn"), .ref (He.ga K "BadTurn"), true, rfl, fun u r => r, T.kit_BadTurn_BadTurn, true, rfl, ?_⟩
      exact st_ret (ed_var (i := 2) rfl (.str _)) X3.ok ((r no).mono (X2.trans X3))
theorem ed_said {B : Bg} {G : Hp} {σ : L2.St} {tr : TA} {E : XK} {wn hn : Nat} {ls : List (List Int)} {gl : List Int} {n : Nat} (ha : EvA K B tr σ G [movD wn hn ls gl, .int (n : Int)]) (m : MovOk wn hn ls gl) (hn8 : n < 8) : EvD K B (tCall (sp__law_said K) [] E tr) σ G (movPD (movP wn hn ls gl n)) :=
  ed_call ha fun vs G2 H2 _ e dv Q q => by
    cases dv with
    | cons h0 a =>
      obtain rfl := dpAll_intsV (bs := [(n : Int)]) a
      exact ⟨B, G2, _, (n : Int), wn, hn, ls, gl, e, rfl, h0, m, fun k ek _ => by
        obtain rfl : k = n := by omega
        exact q, fun z => absurd ⟨by omega, by omega⟩ z⟩
theorem ed_said_no {B : Bg} {G : Hp} {σ : L2.St} {tr : TA} {E : XK} {wn hn : Nat} {ls : List (List Int)} {gl : List Int} {t : Int} (ha : EvA K B tr σ G [movD wn hn ls gl, .int t]) (m : MovOk wn hn ls gl) (no : ¬ okT t) : EvD K B (tCall (sp__law_said K) [] E tr) σ G (.str "bad") :=
  ed_call ha fun vs G2 H2 _ e dv Q q => by
    cases dv with
    | cons h0 a =>
      obtain rfl := dpAll_intsV (bs := [t]) a
      exact ⟨B, G2, _, t, wn, hn, ls, gl, e, rfl, h0, m, fun k ek k8 => absurd ⟨by omega, by omega⟩ no, fun _ => q⟩
/-! law -/
abbrev N_law : List Str := ["_law_script", "_law_bag_here", "_law_plan_here", "_law_pick"]
theorem sc_law : FnScope N_law ["_law_script"] (defScope s_law) := ⟨rfl, rfl, rfl, by decide +kernel, rfl, by decide +kernel, by decide +kernel⟩
/-- what is known of a drawn plan -/
structure Drn (w h : Nat) (ls : List (List Int)) : Prop where
  w9 : 1 ≤ w ∧ w ≤ 9
  h9 : 1 ≤ h ∧ h ≤ 9
  len : ls.length ≤ 400
  tri : ∀ l ∈ ls, ∃ x y t : Int, l = [x, y, t]
  ne : ∀ l ∈ ls, l ≠ []
  n4 : 4 ≤ 4 * w * h ∧ 4 * w * h ≤ 324
  em : ((4 * w * h : Nat) : Int) = 4 * (w : Int) * (h : Int)
theorem PlanOk.drn {w h : Nat} {ls : List (List Int)} {gl : List Int} (hp : PlanOk w h ls gl) : Drn w h ls := by
  have hw : 1 ≤ (w : Int) ∧ (w : Int) ≤ 9 := by
    have := hp.w9
    omega
  have hh : 1 ≤ (h : Int) ∧ (h : Int) ≤ 9 := by
    have := hp.h9
    omega
  have tri : ∀ l ∈ ls, ∃ x y t : Int, l = [x, y, t] := fun l hl => by
    obtain ⟨x, y, t, e, _⟩ := within_mem (w := (w : Int)) (h := (h : Int)) (by omega) (by omega) (hp.l.f.sub l hl)
    exact ⟨x, y, t, e⟩
  refine ⟨hp.w9, hp.h9, Nat.le_trans (nd_len ls _ hp.l.f.nd hp.l.f.sub) (Nat.le_trans (List.length_filter_le _ _) (allL_len hw hh)), tri, fun l hl => ?_, mul9n hp.w9 hp.h9, ?_⟩
  · obtain ⟨x, y, t, rfl⟩ := tri l hl
    exact List.cons_ne_nil _ _
  · rw [Int.natCast_mul, Int.natCast_mul]
    rfl
theorem bad_shp : SeqAt.shaped (.list [.str "bad", .str "bad", .str "bad"]) = true := by decide +kernel
theorem bad_eq : PyData.eqv (.list [.str "bad", .str "bad", .str "bad"]) (.list [.str "bad", .str "bad", .str "bad"]) = true := by decide +kernel
theorem plan_mov {w h : Nat} {ls : List (List Int)} {gl : List Int} (po : PlanOk w h ls gl) : MovOk w h ls gl := by
  have dr := po.drn
  have hw : 1 ≤ (w : Int) := by
    have := po.w9
    omega
  have hh : 1 ≤ (h : Int) := by
    have := po.h9
    omega
  refine ⟨po.w9, po.h9, Nat.le_trans dr.len (by decide), fun l hl => ?_, ?_⟩
  · obtain ⟨x, y, t, e, _, _, ht, _⟩ := within_mem (w := (w : Int)) (h := (h : Int)) (by omega) (by omega) (po.l.f.sub l hl)
    exact ⟨x, y, t, e, ht⟩
  · obtain ⟨col, _, e⟩ := po.g
    rw [e, List.length_map]
    exact joined_len _ _
theorem fit_mov {w h t : Nat} {ls : List (List Int)} {gl : List Int} (m : MovOk w h ls gl) : fit 6 (movPD (movP w h ls gl t)) := by
  have key : ∀ {w h : Nat} {ls : List (List Int)} {gl : List Int}, MovOk w h ls gl → fit 6 (movD w h ls gl) := fun {w h ls gl} m => by
    have g4 := n400 m.w9.2 m.h9.2
    have gn := m.gn
    refine fit_tup (Nat.le_of_ble_eq_true rfl) (fa_cons fit_int (fa_cons fit_int (fa_cons (fit_tup (by rw [List.length_map]; have := m.ln; omega) fun x hx => ?_) (fa_cons (fit_tup (by rw [List.length_map]; omega) fun x hx => ?_) fa_nil))))
    · obtain ⟨l, hl, rfl⟩ := List.mem_map.mp hx
      obtain ⟨a, b, c, rfl, _⟩ := m.tri l hl
      exact fit_tup (Nat.le_of_ble_eq_true rfl) (fa_cons fit_int (fa_cons fit_int (fa_cons fit_int fa_nil)))
    · obtain ⟨i, _, rfl⟩ := List.mem_map.mp hx
      exact fit_int
  unfold movPD
  rw [mov_dim.1, mov_dim.2]
  unfold movP
  split
  · exact key (turns_mov _ _ _ _ _ (flip_ok m))
  · exact key (turns_mov _ _ _ _ _ m)
def spLaw (K : Fg) : Sp := fun vs H Q E => ∃ (a : Addr) (ns : List Int), vs = [.ref a] ∧ SqL K H a (ns.map V.int) ∧ ns.length ≤ 63 ∧ ∀ H', Q (.bl true) H'
theorem fn_law (T : Txt K mg) {fd : FuncData} (F : FunD K "law" "law" (defArgs s_law) (defBody s_law) (defScope s_law) [] [] (He.ga K "law") fd) (G__law_bag : Good P w K mg base (L2.CX P w) 1 "_law_bag" ["_law_script"] [] (sp__law_bag K)) (G__law_plan : Good P w K mg base (L2.CX P w) 7 "_law_plan" ["_law_bag_here"] [] (sp__law_plan K)) (G__law_same : Good P w K mg base (L2.CX P w) 8 "_law_same" ["_law_found", "_law_due"] [] (sp__law_same K)) (G__law_said : Good P w K mg base (L2.CX P w) 6 "_law_said" ["_law_plan_here", "_law_pick"] [] (sp__law_said K)) (G__law_moved : Good P w K mg base (L2.CX P w) 4 "_law_moved" ["_law_plan_here", "_law_pick"] [] (sp__law_moved K)) : FnOk P w K mg base CX0 9 (He.ga K "law") fd ["_law_script"] (spLaw K) := by
  refine F.ok sc_law (fun vs H Q E h => ?_) (fun cdv A outer s H vs Q E hr h => ?_)
  · obtain ⟨a, ns, rfl, _⟩ := h
    rfl
  · obtain ⟨a, ns, rfl, hS, hl, q⟩ := h
    refine ⟨_, PSs.nox (pss_cons (ps_set (i := 1) sc_law.nd rfl (Or.inl rfl) (pe_own G__law_bag (hr.mono (by decide)) (by rfl) passL (pa_cons (pv 0) pa_nil))) (pss_cons (ps_set (i := 2) sc_law.nd rfl (Or.inr rfl) (pe_own G__law_plan (hr.mono (by decide)) (by rfl) passL (pa_cons (pv 1) pa_nil))) (pss_cons (ps_for PassesOwn.never rfl (pi_range1 (by rfl) T.f_range (pa_cons pe_int pa_nil)) (pg_name (i := 3) sc_law.nd rfl (Or.inl rfl)) (pss_one (ps_if (pt_not (pt_val (pe_own G__law_same (hr.mono (by decide)) (by rfl) passL (pa_cons (pe_own G__law_said (hr.mono (by decide)) (by rfl) passL (pa_cons (pv 2) (pa_cons (pv 3) pa_nil))) (pa_cons (pe_own G__law_moved (hr.mono (by decide)) (by rfl) passL (pa_cons (pv 2) (pa_cons (pv 3) pa_nil))) pa_nil))))) (pss_one (ps_ret pe_bl)) pss_nil))) (pss_one (ps_ret (pe_cmpR (r := rEqD K) (op_eqD hr.units) (pe_lc (own := [("_law_pick", 3)]) (g := gName 3) rfl sc_law.nd (pi_tup (pe_tup (pa_cons pe_int (pa_cons (pe_op op_sub pe_int pe_int) (pa_cons (pe_op op_pow pe_int pe_int) pa_nil))))) (blkOk_by (own := [("_law_pick", 3)]) (N := N_law) (sc := defScope s_law) (by decide +kernel)) (fun _ _ _ _ _ => (pg_name (i := 3) sc_law.nd rfl (Or.inl rfl))) (fun _ _ _ _ _ => pts_nil) (fun _ _ _ _ _ => (pe_own G__law_said (hr.mono (by decide)) (by rfl) passL (pa_cons (pv 2) (pa_cons (pv 3) pa_nil))))) (pe_op op_rep (pe_lst (pa_cons pe_str pa_nil)) pe_int) (nomark _))))))), ?_⟩
    refine ⟨.ref a, rfl, a, ns, rfl, hS, hl, fun b c G1 H1 e1 => ?_⟩
    refine sq_setS (es_plan rfl) e1 (fun d v G2 H2 s2 X2 d2 => ?_)
    obtain ⟨wn, hn, ls, gl, po, rfl⟩ := s2
    have d2 : Dp K G2 v (movD wn hn ls gl) := d2
    have m : MovOk wn hn ls gl := plan_mov po
    have so : srtL ls = ls := (srtL_uniq (List.Perm.refl _) po.l.s).symm
    refine sq_forR (n := 8) (Pv := fun _ σ' _ _ => ∃ y3, σ' = [some (.ref a), some (.ref b), some v, y3]) (ea_cons ed_int ea_nil) (by decide) X2.ok (fun _ _ _ => ⟨_, rfl⟩) (fun G3 H3 X3 j σ' G4 H4 hj X4 pv => ?_) (fun σ' G3 H3 X3 pv => ?_)
    · obtain ⟨y3, rfl⟩ := pv
      have d4 := dp_mono (X3.trans X4).gg d2
      refine st_ifD (b := false) (eb_is (eb_not (eb_B (ed_same (n := 6) (ea_cons (ed_said (ea_cons (ed_var (i := 2) rfl d4) (ea_cons (ed_var (i := 3) rfl (.int (j : Int))) ea_nil)) m hj) (ea_cons (ed_moved (ea_cons (ed_var (i := 2) rfl d4) (ea_cons (ed_var (i := 3) rfl (.int (j : Int))) ea_nil)) m so hj) ea_nil)) (fit_mov m)))) rfl) X4.ok (fun z => by cases z) (fun _ G5 H5 X5 => ?_)
      exact ⟨G5, X4.trans X5, _, rfl⟩
    · obtain ⟨y3, rfl⟩ := pv
      have d3 := dp_mono X3.gg d2
      refine st_ret (d := .bool true) (ed_is (ed_op (EvF.ed (ed_isF (ef_lcT (ds := [.int 8, .int (0 - 1), .int (10 ^ 20)]) (f := fun _ => some (.str "bad")) (ed_tup (ea_cons ed_int (ea_cons (ed_op ed_int ed_int rd_I0) (ea_cons (ed_op ed_int ed_int (rd_I (C := CPow) ⟨by decide, by decide, by decide⟩)) ea_nil))) (Nat.le_of_ble_eq_true rfl)) (Nat.le_of_ble_eq_true rfl) (fun _ _ _ _ _ _ _ => eb_yes) (fun d u o G' md eg cg du eo => ?_)) (es := [.str "bad", .str "bad", .str "bad"]) rfl)) (EvF.ed (rd_rep (n := 3) (Nat.le_of_ble_eq_true rfl) (by decide) (ef_lst (ea_cons ed_str ea_nil) (Nat.le_of_ble_eq_true rfl)) ed_int)) (rd_eqD bad_shp bad_shp)) (congrArg PyData.bool bad_eq)) X3.ok (fun v4 G4 H4 X4 d4 => by
        obtain rfl := dp_bl d4
        exact q _)
      obtain rfl := Option.some.inj eo
      have bad : ∀ t : Int, d = .int t → ¬ okT t → EvD K (some (b, c)) (tCall (sp__law_said K) [] E0 (tCons (tVar 2) (tCons (tVar 3) tNil))) [some (.ref a), some (.ref b), some v, some u] G' (.str "bad") := fun t et no => by
        subst et
        exact ed_said_no (ea_cons (ed_var (i := 2) rfl (dp_mono eg d3)) (ea_cons (ed_var (i := 3) rfl du) ea_nil)) m no
      rcases mem_c md with rfl | md
      · exact bad _ rfl (by decide)
      · rcases mem_c md with rfl | md
        · exact bad _ rfl (by decide)
        · exact bad _ (mem_1 md) (by decide)
theorem law_ok (T : Txt K mg) {fa : Addr} (hfa : mg "law" = some (.ref fa)) : ∃ fd : FuncData, (∀ (s : Shared) (v : Value), BindsTo s fd ⟨[v], []⟩ [("_law_script", v)]) ∧ ∀ base : Heap, K.In base → base.Ns mainGlobals mg → FnOk P w K mg base CX0 9 fa fd ["_law_script"] (spLaw K) := by
  obtain ⟨fd, F⟩ := T.c.def_ 35 (d := d_law) rfl
  have e := hfa.symm.trans T.g_law
  cases e
  have b := FunD.bindsA (ps := ["_law_script"]) F fun _ _ _ _ _ _ us hl => match us, hl with | [_], _ => rfl
  refine ⟨fd, fun s v => b s [v] rfl, fun base _ _ => ?_⟩
  have G_check_turn := ok_check_turn (P := P) (w := w) (base := base) T 
  have G_back := ok_back (P := P) (w := w) (base := base) T G_check_turn
  have G_step := ok_step (P := P) (w := w) (base := base) T G_check_turn
  have G_step_d1 := ok_step_d1 (P := P) (w := w) (base := base) T G_check_turn
  have G_step_many := ok_step_many (P := P) (w := w) (base := base) T G_check_turn
  have G_step_turn_y_x := ok_step_turn_y_x (P := P) (w := w) (base := base) T G_check_turn
  have G_lead := ok_lead (P := P) (w := w) (base := base) T G_check_turn G_step_d1 G_back
  have G_quarter_at := ok_quarter_at (P := P) (w := w) (base := base) T 
  have G_all_quarters := ok_all_quarters (P := P) (w := w) (base := base) T 
  have G_flipped := ok_flipped (P := P) (w := w) (base := base) T G_lead G_all_quarters G_quarter_at
  have G_turned := ok_turned (P := P) (w := w) (base := base) T G_lead G_all_quarters G_quarter_at
  have G_mirrored := ok_mirrored (P := P) (w := w) (base := base) T G_check_turn G_flipped G_turned
  have G__law_bag := ok__law_bag (P := P) (w := w) (base := base) T 
  have G__law_pull := ok__law_pull (P := P) (w := w) (base := base) T 
  have G__law_whole := ok__law_whole (P := P) (w := w) (base := base) T 
  have G__law_same := ok__law_same (P := P) (w := w) (base := base) T G__law_whole
  have G__law_go := ok__law_go (P := P) (w := w) (base := base) T 
  have G__law_name := ok__law_name (P := P) (w := w) (base := base) T G__law_go
  have G__law_tips := ok__law_tips (P := P) (w := w) (base := base) T G__law_go
  have G__law_on := ok__law_on (P := P) (w := w) (base := base) T 
  have G__law_rim := ok__law_rim (P := P) (w := w) (base := base) T G__law_tips
  have G__law_all := ok__law_all (P := P) (w := w) (base := base) T G__law_on G__law_go
  have G__law_within := ok__law_within (P := P) (w := w) (base := base) T G__law_all G__law_rim
  have G__law_over := ok__law_over (P := P) (w := w) (base := base) T 
  have G__law_joined := ok__law_joined (P := P) (w := w) (base := base) T 
  have G__law_slant := ok__law_slant (P := P) (w := w) (base := base) T 
  have G__law_cell_pairs := ok__law_cell_pairs (P := P) (w := w) (base := base) T G__law_slant
  have G__law_panes := ok__law_panes (P := P) (w := w) (base := base) T G__law_cell_pairs G__law_joined
  have G__law_size := ok__law_size (P := P) (w := w) (base := base) T G__law_pull
  have G__law_some := ok__law_some (P := P) (w := w) (base := base) T G__law_within G__law_pull G__law_over
  have G__law_glass := ok__law_glass (P := P) (w := w) (base := base) T G__law_pull G__law_panes
  have G__law_leaded := ok__law_leaded (P := P) (w := w) (base := base) T G__law_size G__law_pull G__law_some
  have G__law_plan := ok__law_plan (P := P) (w := w) (base := base) T G__law_glass G__law_leaded
  have G__law_spot := ok__law_spot (P := P) (w := w) (base := base) T 
  have G__law_cell_of := ok__law_cell_of (P := P) (w := w) (base := base) T G__law_spot
  have G__law_part_of := ok__law_part_of (P := P) (w := w) (base := base) T G__law_cell_of G__law_spot
  have G__law_moved := ok__law_moved (P := P) (w := w) (base := base) T G__law_tips G__law_spot G__law_go G__law_name G__law_cell_of G__law_part_of
  have G__law_said := ok__law_said (P := P) (w := w) (base := base) T G_mirrored
  exact fn_law T F G__law_bag G__law_plan G__law_same G__law_said G__law_moved
end
end K26
set_option maxHeartbeats 0
open PySem PySem.W PySem.Calls PyProof.Rows
theorem PySem.Challenge.cw_leadlight_k26_moves_of_plans_holds : PySem.Challenge.rw_leadlight_k26_moves_of_plans.Holds := by
  w_on; o_law
  refine HandSHeadRun.head_any (r := OpenLaw.row PySem.Challenge.rw_leadlight_k26_moves_of_plans) (q := view (OpenLaw.row PySem.Challenge.rw_leadlight_k26_moves_of_plans).prog [44]) (H := K26.hk) (ob := K26.ob) (M := 6000) (loose := K26.loose) (d := HandSHeadRun.topDef (OpenLaw.row PySem.Challenge.rw_leadlight_k26_moves_of_plans).prog 44) (kwd := []) K26.ob_eq
    (by kernel_rfl) (fun s => by kernel_rfl) K26.run (by kernel_rfl) (by kernel_rfl) (by kernel_rfl) (by rfl) (by first | assumption | decide +kernel) (by decide +kernel) ⟨rfl, rfl, rfl, rfl, rfl, by decide +kernel⟩ ?hw ?hc
  case hw => w_witness2
  case hc =>
    refine L2.walk_ofE (l := PySem.Challenge.rw_leadlight_k26_moves_of_plans) (n := 63) (k := 9) (x := "_law_script") (CX := L2.CX0) rfl (by decide) (by kernel_rfl) ⟨rfl, by decide, by decide⟩ ?F (fun _ _ _ _ z => z)
    intro w mg fa h Y G hmg0
    obtain ⟨K, KX, c⟩ := Y
    have hmg : mg ("law" : PySem.Str) = some (.ref fa) := by
      have e : (HandSHeadRun.topDef (OpenLaw.row PySem.Challenge.rw_leadlight_k26_moves_of_plans).prog 44).name = ("law" : PySem.Str) := by kernel_rfl
      rw [← e]
      exact hmg0
    obtain ⟨fd, hb, hF⟩ := K26.law_ok (P := (PySem.Challenge.rw_leadlight_k26_moves_of_plans).prog) (w := w) (K26.Txt.of KX G c.t c.more) hmg
    exact ⟨K, fd, K26.spLaw K, KX, hb, fun H a ns hl _ hS => ⟨a, ns, rfl, hS, hl, fun _ => rfl⟩, hF⟩
