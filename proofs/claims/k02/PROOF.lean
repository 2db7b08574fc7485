import PyProof.Rows.All
import Wide.All
import OpenK.AllK
import Wide.FinOn
import HandS.ForMost
import HandS.ForExc
import HandS.Defaults
import HandS.Codes
import HandS.IsInst
import HandS.Wide
import HandS.Flow
import HandS.Evl
import HandS.Steps
import HandS.ExcField
import HandS.Head0
import HandS.Head1
import HandS.Head2
import HandS.HeadEnd
import HandS.HeadHook1
import HandS.HeadHook2
import HandS.HeadHook3
import HandS.HeadHook4
import KE.KExcInit
import HandS.ExcInit
import KE.KEqSeq
import PySem.Challenge.RW_rideturns_k02_sums_of_shares
set_option Elab.async false
set_option linter.all false
set_option maxRecDepth 100000
set_option maxHeartbeats 4000000
namespace K02
open PySem PySem.Spec PyProof.Rows L2
def top (i : Nat) : Stmt := PySem.Challenge.pw_rideturns_k02_sums_of_shares.main.body.getD i (.Pass ⟨0, 0, 0, 0⟩)
abbrev s_NoKind_init : Stmt := inClass (top 1) 0
abbrev N_NoKind_init : List Str := ["self", "thing"]
theorem sc_NoKind_init : FnScope N_NoKind_init ["self", "thing"] (defScope s_NoKind_init) := ⟨rfl, rfl, rfl, by decide +kernel, rfl, by decide +kernel, by decide +kernel⟩
def d_NoKind_init : He.DefD := ⟨("NoKind", some "__init__"), "__init__", "NoKind.__init__", defArgs s_NoKind_init, defBody s_NoKind_init, defScope s_NoKind_init, [], []⟩
abbrev s_Nought_init : Stmt := inClass (top 2) 0
abbrev N_Nought_init : List Str := ["self", "top"]
theorem sc_Nought_init : FnScope N_Nought_init ["self", "top"] (defScope s_Nought_init) := ⟨rfl, rfl, rfl, by decide +kernel, rfl, by decide +kernel, by decide +kernel⟩
def d_Nought_init : He.DefD := ⟨("Nought", some "__init__"), "__init__", "Nought.__init__", defArgs s_Nought_init, defBody s_Nought_init, defScope s_Nought_init, [], []⟩
abbrev s_is_whole : Stmt := top 4
abbrev N_is_whole : List Str := ["thing"]
theorem sc_is_whole : FnScope N_is_whole ["thing"] (defScope s_is_whole) := ⟨rfl, rfl, rfl, by decide +kernel, rfl, by decide +kernel, by decide +kernel⟩
def d_is_whole : He.DefD := ⟨("is_whole", none), "is_whole", "is_whole", defArgs s_is_whole, defBody s_is_whole, defScope s_is_whole, [], []⟩
abbrev s_common_part : Stmt := top 6
abbrev N_common_part : List Str := ["one", "other"]
theorem sc_common_part : FnScope N_common_part ["one", "other"] (defScope s_common_part) := ⟨rfl, rfl, rfl, by decide +kernel, rfl, by decide +kernel, by decide +kernel⟩
def d_common_part : He.DefD := ⟨("common_part", none), "common_part", "common_part", defArgs s_common_part, defBody s_common_part, defScope s_common_part, [], []⟩
abbrev s_Share_init : Stmt := inClass (top 7) 0
abbrev N_Share_init : List Str := ["self", "top", "bottom", "thing", "common"]
theorem sc_Share_init : FnScope N_Share_init ["self", "top", "bottom"] (defScope s_Share_init) := ⟨rfl, rfl, rfl, by decide +kernel, rfl, by decide +kernel, by decide +kernel⟩
def d_Share_init : He.DefD := ⟨("Share", some "__init__"), "__init__", "Share.__init__", defArgs s_Share_init, defBody s_Share_init, defScope s_Share_init, [.int 1], []⟩
abbrev s_Share_eq : Stmt := inClass (top 7) 1
abbrev N_Share_eq : List Str := ["self", "other"]
theorem sc_Share_eq : FnScope N_Share_eq ["self", "other"] (defScope s_Share_eq) := ⟨rfl, rfl, rfl, by decide +kernel, rfl, by decide +kernel, by decide +kernel⟩
def d_Share_eq : He.DefD := ⟨("Share", some "__eq__"), "__eq__", "Share.__eq__", defArgs s_Share_eq, defBody s_Share_eq, defScope s_Share_eq, [], []⟩
abbrev s_Share_str : Stmt := inClass (top 7) 2
abbrev N_Share_str : List Str := ["self"]
theorem sc_Share_str : FnScope N_Share_str ["self"] (defScope s_Share_str) := ⟨rfl, rfl, rfl, by decide +kernel, rfl, by decide +kernel, by decide +kernel⟩
def d_Share_str : He.DefD := ⟨("Share", some "__str__"), "__str__", "Share.__str__", defArgs s_Share_str, defBody s_Share_str, defScope s_Share_str, [], []⟩
abbrev s_Share_repr : Stmt := inClass (top 7) 3
abbrev N_Share_repr : List Str := ["self"]
theorem sc_Share_repr : FnScope N_Share_repr ["self"] (defScope s_Share_repr) := ⟨rfl, rfl, rfl, by decide +kernel, rfl, by decide +kernel, by decide +kernel⟩
def d_Share_repr : He.DefD := ⟨("Share", some "__repr__"), "__repr__", "Share.__repr__", defArgs s_Share_repr, defBody s_Share_repr, defScope s_Share_repr, [], []⟩
abbrev s_Share_plus : Stmt := inClass (top 7) 4
abbrev N_Share_plus : List Str := ["self", "other"]
theorem sc_Share_plus : FnScope N_Share_plus ["self", "other"] (defScope s_Share_plus) := ⟨rfl, rfl, rfl, by decide +kernel, rfl, by decide +kernel, by decide +kernel⟩
def d_Share_plus : He.DefD := ⟨("Share", some "plus"), "plus", "Share.plus", defArgs s_Share_plus, defBody s_Share_plus, defScope s_Share_plus, [], []⟩
abbrev s_Share_less : Stmt := inClass (top 7) 5
abbrev N_Share_less : List Str := ["self", "other"]
theorem sc_Share_less : FnScope N_Share_less ["self", "other"] (defScope s_Share_less) := ⟨rfl, rfl, rfl, by decide +kernel, rfl, by decide +kernel, by decide +kernel⟩
def d_Share_less : He.DefD := ⟨("Share", some "less"), "less", "Share.less", defArgs s_Share_less, defBody s_Share_less, defScope s_Share_less, [], []⟩
abbrev s_Share_times : Stmt := inClass (top 7) 6
abbrev N_Share_times : List Str := ["self", "many"]
theorem sc_Share_times : FnScope N_Share_times ["self", "many"] (defScope s_Share_times) := ⟨rfl, rfl, rfl, by decide +kernel, rfl, by decide +kernel, by decide +kernel⟩
def d_Share_times : He.DefD := ⟨("Share", some "times"), "times", "Share.times", defArgs s_Share_times, defBody s_Share_times, defScope s_Share_times, [], []⟩
abbrev s_Share_over : Stmt := inClass (top 7) 7
abbrev N_Share_over : List Str := ["self", "many"]
theorem sc_Share_over : FnScope N_Share_over ["self", "many"] (defScope s_Share_over) := ⟨rfl, rfl, rfl, by decide +kernel, rfl, by decide +kernel, by decide +kernel⟩
def d_Share_over : He.DefD := ⟨("Share", some "over"), "over", "Share.over", defArgs s_Share_over, defBody s_Share_over, defScope s_Share_over, [], []⟩
abbrev s_Share_below : Stmt := inClass (top 7) 8
abbrev N_Share_below : List Str := ["self", "other"]
theorem sc_Share_below : FnScope N_Share_below ["self", "other"] (defScope s_Share_below) := ⟨rfl, rfl, rfl, by decide +kernel, rfl, by decide +kernel, by decide +kernel⟩
def d_Share_below : He.DefD := ⟨("Share", some "below"), "below", "Share.below", defArgs s_Share_below, defBody s_Share_below, defScope s_Share_below, [], []⟩
abbrev s_Share_whole : Stmt := inClass (top 7) 9
abbrev N_Share_whole : List Str := ["self"]
theorem sc_Share_whole : FnScope N_Share_whole ["self"] (defScope s_Share_whole) := ⟨rfl, rfl, rfl, by decide +kernel, rfl, by decide +kernel, by decide +kernel⟩
def d_Share_whole : He.DefD := ⟨("Share", some "whole"), "whole", "Share.whole", defArgs s_Share_whole, defBody s_Share_whole, defScope s_Share_whole, [], []⟩
abbrev s_l_held : Stmt := top 9
abbrev N_l_held : List Str := ["_law_script"]
theorem sc_l_held : FnScope N_l_held ["_law_script"] (defScope s_l_held) := ⟨rfl, rfl, rfl, by decide +kernel, rfl, by decide +kernel, by decide +kernel⟩
def d_l_held : He.DefD := ⟨("_law_held", none), "_law_held", "_law_held", defArgs s_l_held, defBody s_l_held, defScope s_l_held, [], []⟩
abbrev s_l_draw : Stmt := top 10
abbrev N_l_draw : List Str := ["_law_held_here", "_law_many", "_law_found", "_law_at", "_law_cell", "_law_number_here"]
theorem sc_l_draw : FnScope N_l_draw ["_law_held_here", "_law_many"] (defScope s_l_draw) := ⟨rfl, rfl, rfl, by decide +kernel, rfl, by decide +kernel, by decide +kernel⟩
def d_l_draw : He.DefD := ⟨("_law_draw", none), "_law_draw", "_law_draw", defArgs s_l_draw, defBody s_l_draw, defScope s_l_draw, [], []⟩
abbrev s_l_great : Stmt := top 11
abbrev N_l_great : List Str := ["_law_held_here", "_law_many", "_law_number_here", "_law_width"]
theorem sc_l_great : FnScope N_l_great ["_law_held_here", "_law_many"] (defScope s_l_great) := ⟨rfl, rfl, rfl, by decide +kernel, rfl, by decide +kernel, by decide +kernel⟩
def d_l_great : He.DefD := ⟨("_law_great", none), "_law_great", "_law_great", defArgs s_l_great, defBody s_l_great, defScope s_l_great, [], []⟩
abbrev s_l_low : Stmt := top 12
abbrev N_l_low : List Str := ["_law_top", "_law_bottom", "_law_one", "_law_other"]
theorem sc_l_low : FnScope N_l_low ["_law_top", "_law_bottom"] (defScope s_l_low) := ⟨rfl, rfl, rfl, by decide +kernel, rfl, by decide +kernel, by decide +kernel⟩
def d_l_low : He.DefD := ⟨("_law_low", none), "_law_low", "_law_low", defArgs s_l_low, defBody s_l_low, defScope s_l_low, [], []⟩
abbrev s_l_add : Stmt := top 13
abbrev N_l_add : List Str := ["_law_one", "_law_other"]
theorem sc_l_add : FnScope N_l_add ["_law_one", "_law_other"] (defScope s_l_add) := ⟨rfl, rfl, rfl, by decide +kernel, rfl, by decide +kernel, by decide +kernel⟩
def d_l_add : He.DefD := ⟨("_law_add", none), "_law_add", "_law_add", defArgs s_l_add, defBody s_l_add, defScope s_l_add, [], []⟩
abbrev s_l_pair : Stmt := top 14
abbrev N_l_pair : List Str := ["_law_share", "_law_part"]
theorem sc_l_pair : FnScope N_l_pair ["_law_share"] (defScope s_l_pair) := ⟨rfl, rfl, rfl, by decide +kernel, rfl, by decide +kernel, by decide +kernel⟩
def d_l_pair : He.DefD := ⟨("_law_pair", none), "_law_pair", "_law_pair", defArgs s_l_pair, defBody s_l_pair, defScope s_l_pair, [], []⟩
abbrev s_l_number : Stmt := top 15
abbrev N_l_number : List Str := ["_law_held_here", "_law_number_here"]
theorem sc_l_number : FnScope N_l_number ["_law_held_here"] (defScope s_l_number) := ⟨rfl, rfl, rfl, by decide +kernel, rfl, by decide +kernel, by decide +kernel⟩
def d_l_number : He.DefD := ⟨("_law_number", none), "_law_number", "_law_number", defArgs s_l_number, defBody s_l_number, defScope s_l_number, [], []⟩
abbrev s_l_over_nought : Stmt := top 16
abbrev N_l_over_nought : List Str := ["_law_share", "_law_found", "e"]
theorem sc_l_over_nought : FnScope N_l_over_nought ["_law_share"] (defScope s_l_over_nought) := ⟨rfl, rfl, rfl, by decide +kernel, rfl, by decide +kernel, by decide +kernel⟩
def d_l_over_nought : He.DefD := ⟨("_law_over_nought", none), "_law_over_nought", "_law_over_nought", defArgs s_l_over_nought, defBody s_l_over_nought, defScope s_l_over_nought, [], []⟩
abbrev s_l_both_right : Stmt := top 17
abbrev N_l_both_right : List Str := ["_law_one", "_law_other", "_law_first", "_law_second", "_law_many", "_law_below", "_law_floor"]
theorem sc_l_both_right : FnScope N_l_both_right ["_law_one", "_law_other", "_law_first", "_law_second", "_law_many"] (defScope s_l_both_right) := ⟨rfl, rfl, rfl, by decide +kernel, rfl, by decide +kernel, by decide +kernel⟩
def d_l_both_right : He.DefD := ⟨("_law_both_right", none), "_law_both_right", "_law_both_right", defArgs s_l_both_right, defBody s_l_both_right, defScope s_l_both_right, [], []⟩
abbrev s_law : Stmt := top 18
abbrev N_law : List Str := ["_law_script", "_law_held_here", "_law_turn", "_law_first", "_law_second", "_law_far", "_law_many", "_law_one", "_law_other", "_law_left", "_law_right", "_law_here", "_law_there"]
theorem sc_law : FnScope N_law ["_law_script"] (defScope s_law) := ⟨rfl, rfl, rfl, by decide +kernel, rfl, by decide +kernel, by decide +kernel⟩
def d_law : He.DefD := ⟨("law", none), "law", "law", defArgs s_law, defBody s_law, defScope s_law, [], []⟩
def fn : List He.DefD := [d_NoKind_init, d_Nought_init, d_is_whole, d_common_part, d_Share_init, d_Share_eq, d_Share_str, d_Share_repr, d_Share_plus, d_Share_less, d_Share_times, d_Share_over, d_Share_below, d_Share_whole, d_l_held, d_l_draw, d_l_great, d_l_low, d_l_add, d_l_pair, d_l_number, d_l_over_nought, d_l_both_right, d_law]
end K02
set_option Elab.async false
set_option linter.all false
set_option maxRecDepth 100000
set_option maxHeartbeats 4000000
/-! GX: own exceptions over any built-in base, whose own __init__ calls the base's and stores a field. -/
namespace GX
open PySem PySem.Spec PyProof.Rows L2

/-- what the written part tells of the class -/
structure Gx (K : PySem.W.Frag) (C : Addr) (bmB : List Value) (nid : String) : Prop where
  over : PySem.W.excOver K C bmB = true
  made : PySem.W.excInitIn K C bmB nid = true
  hasd : ∃ cd, PySem.W.clsIn K C = some cd ∧ cd.hasDict = true
  sets : PySem.W.findIn K (.ref C) "__setattr__" = some (some (.builtin "object.__setattr__"))
  base : PySem.W.subIn K (.ref C) (.type "BaseException") = some true
  typ : PySem.W.typeIn K (.ref C) = some (.type "type")
  keep : PySem.W.keepIn K (.ref C) = true

section
open Builtin Builtin.ObjectAttr
variable {prog : Program} {w : World} {A : Around} {R : Result → Shared → Prop} {hp : Heap} {g : Array GenState} {d : Drawn} {t : Nat} {os : OsState} {B : String} {bmB : List Value}
theorem first_store {K : PySem.W.Frag} {name : Str} {tk : Tok} {v : Value} {x C : Addr} {fv : Array Value} {cd : ClassData} (SF : StoreFacts B bmB "object.__setattr__" "object")
    (X : K.In hp) (hx : hp.get? x = some { cls := .ref C, data := .fields fv }) (ho : PySem.W.excOver K C bmB = true) (hc : PySem.W.clsIn K C = some cd) (hd : cd.hasDict = true)
    (hf : PySem.W.findIn K (.ref C) name = some none)
    (post : ∀ h' tk' dx, (∀ b o, b ≠ x → hp.get? b = some o → h'.get? b = some o) → hp.objs.size ≤ dx → dx ≠ x →
      h'.get? x = some { cls := .ref C, dict := some dx, data := .fields fv } → h'.Ns1 dx (fun y => if y = name then some v else none) → R (.ok (.ret .none)) ⟨h', g, d, tk', os⟩) :
    codeAny (model prog w) A (.call (.builtin "object.__setattr__") ⟨[.ref x, .str name tk, v], []⟩) R ⟨hp, g, d, t, os⟩ := by
  have inst : PySem.W.InstAt hp x { cls := .ref C, data := .fields fv } C none := ⟨hx, rfl, rfl, trivial⟩
  have far : x ≠ hp.objs.size := Nat.ne_of_lt (Heap.lt_size hx)
  have lc : PySem.W.Looks (model prog w) hp (classData C) cd := PySem.W.looks_clsIn X hc
  refine PySem.W.osa_openX (r := none) SF X inst ho (by unfold PySem.W.takerIn; rw [hf]; rfl) fun b => ?_
  dsimp only
  obtain ⟨n1, n2, n3, n4, n5, n6, n7, n8, n9, n10, n11⟩ := cd
  dsimp only at hd
  subst hd
  unfold storeInOwnDict ownDictForStores
  repeat (first | with_reducible refine PySem.HandSPX.store_in_new ?_ ?_ | with_reducible refine wpAny_loadPart_at hx ?_ | with_reducible refine lc.at ?_ | wp_step)
  · exact ⟨_, #[], _, (Heap.get?_update_ne _ _ _ _ far.symm).trans (Heap.get?_push_at rfl rfl), rfl, fun e he => absurd he (by simp), fun _ => rfl⟩
  · intro h' tk' hn hs
    have hx1 : (hp.push { cls := .type "dict", data := .dict #[] }).get? x = some { cls := .ref C, data := .fields fv } := Heap.get?_push_of_some _ hx
    refine post h' tk' hp.objs.size (fun b o hb hob => ?_) (Nat.le_refl _) far.symm ?_ hn
    · have e1 := hs.2 b (Nat.ne_of_lt (Heap.lt_size hob))
      rw [e1, Heap.get?_update_ne _ _ _ _ hb]
      exact Heap.get?_push_of_some _ hob
    · rw [hs.2 x far]
      exact Heap.get?_update_self _ hx1 rfl
end

section
variable {X : Cx} {pins : List (Addr × Obj)} {σ : L2.St} {H : Hp} {s : Shared} {a C dx : Addr} {f : Str} {y : V} {u : Value} {Q : Unit → Shared → Prop} {E : Value → Shared → Prop} {A : Around} {B : String} {bmB : List Value} {nid iid : String}
/-- self.f = y, the first store -/
theorem put_first (SF : StoreFacts B bmB "object.__setattr__" "object") (T : Gx X.K C bmB nid) (I : Inv X pins σ H s) (e : H a = some (exo a C none)) (hno : PySem.W.findIn X.K (.ref C) f = some none) (ry : RelV y u)
    (post : ∀ dx s', H dx = none → dx ≠ a → Inv X pins σ (upd (upd H dx (exd dx [(f, y)])) a (exo a C (some dx))) s' → Q () s') : wpAny (model X.prog X.w) A (setAttr (.ref a) f u) Q E s := by
  obtain ⟨cd, hcd, hdd⟩ := T.hasd
  obtain ⟨t1, at1⟩ := exo_at I.hok e
  obtain ⟨hp, g, d, t, os⟩ := s
  refine PySem.W.set_plain I.kIn (ox := { cls := .ref C, dict := none, data := .fields #[.ref t1, .none, .none, .none, .bool false, .none] }) (od := none) ⟨at1, rfl, rfl, trivial⟩ T.sets ?_
  refine first_store SF I.kIn at1 T.over hcd hdd hno (fun h' tk' dx kp dn dne hx hn => ?_)
  have fresh : H dx = none := I.hok.fresh dn
  have old : ∀ {b : Addr} {o : Obj}, hp.get? b = some o → b ≠ dx := fun {b o} q => Nat.ne_of_lt (Nat.lt_of_lt_of_le (Heap.lt_size q) dn)
  have other : ∀ {b : Addr}, H b = none → b ≠ a := fun {b} n z => by
    rw [z, e] at n
    cases n
  have un : Un X.fs [] H (upd (upd H dx (exd dx [(f, y)])) a (exo a C (some dx))) hp h' := {
    keep := fun b o q n _ _ => kp b o (other n) q
    slot := fun b o q n _ _ => ⟨o.slots, kp b o (other n) q⟩
    free := fun b o q n _ => by rw [upd_ne (other n), upd_ne (old q)]; exact n
    there := fun b o q _ => by
      by_cases hb : b = a
      · exact ⟨_, hb ▸ hx⟩
      · exact ⟨o, kp b o hb q⟩
    tups := fun b xs q => by rw [upd_ne (at_ne e q exo_tup), upd_ne (ne_of_none q fresh)]; exact q
    frzs := fun b o v q => by rw [upd_ne (at_ne e q exo_frz), upd_ne (ne_of_none q fresh)]; exact q
    tbls := fun b ps q => ⟨#[], by rw [upd_ne (at_ne e q exo_tbl), upd_ne (ne_of_none q fresh), q]; simp⟩ }
  refine post dx _ fresh dne (I.un (t' := tk') un fun b o q => ?_)
  by_cases hb : b = a
  · subst hb
    rw [upd_same] at q
    cases q
    exact exo_ok hx
  · rw [upd_ne hb] at q
    by_cases hd : b = dx
    · subst hd
      rw [upd_same] at q
      cases q
      exact exd_ok hn (relO_put (fs := []) ry fun g => True.intro)
    · rw [upd_ne hd] at q
      refine (I.hok b o q).stay (fun c v hc z => kp c v ?_ z) (fun c hc => ?_) (fun c xs hc => ?_)
      · rcases hc with hc | hc
        · exact hc ▸ hb
        · exact at_ne e hc exo_own
      · rw [upd_ne (at_ne e hc exo_own), upd_ne (ne_of_none hc fresh)]; exact hc
      · rw [upd_ne (at_ne e hc exo_tup), upd_ne (ne_of_none hc fresh)]; exact hc
/-- Base.__init__(self, ..) -/
theorem base_init {us : List Value} {Q : Value → Shared → Prop} (FB : ExcBaseFacts B nid iid bmB) (T : Gx X.K C bmB nid) (I : Inv X pins σ H s) (e : H a = some (exo a C none)) (hl : us.length ≤ sizeLine) (post : ∀ s', Inv X pins σ H s' → Q .none s') :
    wpAny (model X.prog X.w) A (call (.builtin iid) (.ref a :: us)) Q E s := by
  obtain ⟨nm, N, qn, bs, bm, hdct, sn, sub, ab, col, dd, k0, k1, k2, k3, k5, hC, hT⟩ := PySem.W.excInit_of I.kIn T.made
  obtain ⟨t1, at1⟩ := exo_at I.hok e
  obtain ⟨hp, g, d, t, os⟩ := s
  refine wpAny_call (PySem.HandSPX.init_base FB hT hC at1 hl fun h' t2 kp hx => ?_)
  have J := I.write (t' := t) (x := a) (e := a) (o := exo a C none) (by rw [e]; exact True.intro) (.inl rfl) kp ⟨_, hx⟩ (exo_ok hx)
  have same : upd H a (exo a C none) = H := funext fun b => by
    by_cases hb : b = a
    · rw [hb, upd_same, e]
    · rw [upd_ne hb]
  rw [same] at J
  exact post _ J
end

/-! ### readings and rules -/
/-- Base.__init__(self, ..) -/
def tBi (K : PySem.W.Frag) (bmB : List Value) (nid : String) (ta : TA) : TE := fun σ H Q => ta σ H fun vs H1 => ∃ (a C : Addr) (ws : List V), vs = .ref a :: ws ∧ ws.length ≤ 1000 ∧ Gx K C bmB nid ∧ H1 a = some (exo a C none) ∧ Q .non H1
/-- self.f = e, the first one -/
def tPf (K : PySem.W.Frag) (bmB : List Value) (nid : String) (f : Str) (to te : TE) : TS := fun D σ H => te σ H fun y H1 => to σ H1 fun x H2 => ∃ a C : Addr, x = .ref a ∧ Gx K C bmB nid ∧ PySem.W.findIn K (.ref C) f = some none ∧
  H2 a = some (exo a C none) ∧ ∀ dx, H2 dx = none → dx ≠ a → D.nx σ (upd (upd H2 dx (exd dx [(f, y)])) a (exo a C (some dx)))
section
variable {X : Cx} {o e : Expr} {es : List Expr} {to te : TE} {ta : TA} {f : Str} {p p' p1 p2 pos : Pos} {B nid iid : String} {bmB : List Value} {x : Str}
theorem pe_bi {pl : Sem Bool} (FB : ExcBaseFacts B nid iid bmB) (hg : Gl X x) (hm : X.mg x = none) (hv : bootBuiltins x = some (.type B)) (ty : typeOf (.type B) = pure (.type "type"))
    (vV : PySem.W.findCls X.K (.type B) (.type "type") "__init__" = some (.val (.builtin iid))) (hb : PySem.W.handedIn (.builtin iid) = true) (hst : Manifest.isStub B = false) (ha : PA X (e :: es) ta)
    (hc : eval (.Call (.Attribute (.Name x p1) "__init__" p2) (e :: es) [] pos) X.env = (do
      let ov ← eval (.Name x p1) X.env
      standAt p2.atName
      let (f, first) ← holding [ov] (getMethod ov "__init__" pl)
      callWith pos f first (backTo pos (starEach (e :: es) X.env)) (backToKw pos (keywordEach [] X.env))) := by rfl)
    (hn : x ≠ "__name__" := by decide) (hd : (x == ("__debug__" : Str)) = false := by decide)
    (he : starEach (e :: es) X.env = (false, eval e X.env) :: starEach es X.env := by rfl) (hpl : (backTo pos (starEach es X.env)).any (·.1) = false := by rfl) :
    PE X (.Call (.Attribute (.Name x p1) "__init__" p2) (e :: es) [] pos) (tBi X.K bmB nid ta) := by
  refine ⟨fun pins s σ H Q I h => ?_⟩
  refine PySem.W.methodCall_KW (ld_blt I hg hm hv ?_ hn hd) hc
  obtain ⟨m, fr⟩ := I.fr
  refine PySem.W.method_type fr I.ok.mod.kin ty hst vV hb ?_
  show wpAny _ _ (callWith pos (Value.builtin iid) [] (backTo pos (starEach (e :: es) X.env)) []) _ _ _
  refine PyProof.Rows.callWith_method1 (thn (ha.run pos pins _ σ H _ (I.tok _) h) fun us s1 hh => ?_) he hpl
  obtain ⟨vs, H1, I1, r1, a, C, ws, ev, hl, T, ea, q⟩ := hh
  subst ev
  cases r1 with
  | @cons _ u0 _ ur ra rw' =>
    obtain rfl : u0 = Value.ref a := ra
    have hlen : ur.length ≤ sizeLine := by
      have := Paired.length rw'
      rw [sizeLine_eq]
      omega
    exact base_init FB T I1 ea hlen fun s' J => ⟨.non, H1, J, rfl, q⟩
theorem ps_pf (SF : StoreFacts B bmB "object.__setattr__" "object") (ho : PE X o to) (he : PE X e te) (hs : swapsWith e (some (.Attribute o f p')) pos.line X.env = pure false := by rfl) : PS X (.Assign [.Attribute o f p'] e pos) (tPf X.K bmB nid f to te) := by
  refine ⟨fun pins s σ H D I h => ?_⟩
  refine plainObj_wpAny_Assign_Attribute (thn (he.run pins s σ H _ I h) fun v s1 h1 => ?_) hs
  obtain ⟨y, H1, I1, r1, q1⟩ := h1
  refine thn (ho.run pins s1 σ H1 _ I1 q1) fun u s2 h2 => ?_
  obtain ⟨z, H2, I2, r2, a, C, ex, T, hno, ea, q⟩ := h2
  subst ex
  obtain rfl : u = Value.ref a := r2
  exact put_first SF T I2 ea hno r1 fun dx s' n ne J => ⟨σ, _, J, q dx n ne⟩
/-- C(e, ..) as what is raised, C's own __init__ keeping sp -/
theorem pmk_gx {CX : CXT} {C fI : Addr} {k : Nat} {fd : FuncData} {ps : List Str} {sp : Sp} {ds : List Value} {dvs : List V} (FB : ExcBaseFacts B nid iid bmB) (T : Gx X.K C bmB nid) (iC : PySem.W.findIn X.K (.ref C) "__init__" = some (some (.ref fI)))
    (tI : PySem.W.typeIn X.K (.ref fI) = some (.type "function"))
    (F1 : FnOk X.prog X.w X.K X.mg X.base CX k fI fd ps sp) (hr : Room (k + 1) X.A) (hb : Binds X.K fd ps ds) (hd : Vals dvs ds) (hx : Passes CX X (fun _ _ _ => False)) (hg : Gl X x) (hm : X.mg x = some (.ref C)) (ha : PA X (e :: es) ta)
    (hdb : (x == ("__debug__" : Str)) = false := by decide) (he : starEach (e :: es) X.env = (false, eval e X.env) :: starEach es X.env := by rfl) (hpl : (backTo pos (starEach es X.env)).any (·.1) = false := by rfl) :
    PMk X (.Call (.Name x p) (e :: es) [] pos) (tMkO C sp dvs ta) := by
  intro pins s σ H Q I h
  refine wpAny_Call_Name_kw (ld_glob I hg hm ?_ hdb)
  refine PySem.W.callWith_K (h₀ := X.base) I.ok.mod.kin T.keep (thn (ha.run pos pins s σ H _ I h) fun us s1 hh => ?_) he hpl
  obtain ⟨vs, H1, I1, r1, hz, q1⟩ := hh
  refine ⟨I1.kIn, ?_⟩
  show wpAny _ _ (call (.ref C) us) _ _ _
  obtain ⟨nm, N, qn, bs, bm, hdct, sn, sub, ab, col, dd, k0, k1, k2, k3, k5, hC, hT⟩ := PySem.W.excInit_of I1.kIn T.made
  obtain ⟨hp, g, dr, tk, os⟩ := s1
  have big : hp.objs.size ≤ hp.objs.size + 1 := Nat.le_succ _
  have hq := q1 (hp.objs.size + 1) (I1.hok.fresh big)
  have kk : ∀ b o, hp.get? b = some o → ((hp.push (PySem.W.kdv_tup us)).push (PySem.HandSPX.excO C hp.objs.size)).get? b = some o := fun b o z =>
    Heap.get?_push_of_some _ (Heap.get?_push_of_some _ z)
  have there : ((hp.push (PySem.W.kdv_tup us)).push (PySem.HandSPX.excO C hp.objs.size)).get? (hp.objs.size + 1) = some (PySem.HandSPX.excO C hp.objs.size) := by heap_get
  have I2 := I1.laid (t' := tk) (a := hp.objs.size + 1) (o := exo (hp.objs.size + 1) C none) (h' := (hp.push (PySem.W.kdv_tup us)).push (PySem.HandSPX.excO C hp.objs.size)) kk big (exo_ok there)
  have r2 : Vals (V.ref (hp.objs.size + 1) :: (vs ++ dvs)) (Value.ref (hp.objs.size + 1) :: (us ++ ds)) := .cons rfl (r1.append hd)
  have hl : (Value.ref (hp.objs.size + 1) :: us ++ ds).length = ps.length := by
    have e1 := r2.length
    rw [F1.len _ _ _ _ hq] at e1
    exact e1.symm
  have few : us.length ≤ sizeLine := by
    have := Paired.length r1
    rw [sizeLine_eq]
    omega
  refine wpAny_call (PySem.HandSPX.call_own FB hT hC (PySem.W.looks_findIn I1.kIn iC) (fun self => PySem.W.bind_fn I1.kIn self tI) few (codeAny_mono
    (F1.run _ X.stack _ _ ⟨Value.ref (hp.objs.size + 1) :: us, []⟩ (Value.ref (hp.objs.size + 1) :: (us ++ ds)) _ _ (fun _ _ _ => False) (hr.make C us []) (I2.env0.make C us []) (hb _ (Value.ref (hp.objs.size + 1) :: us) I2.kIn hl) r2 hq) fun r s' hq' => ?_))
  cases r with
  | error er => exact hx pins σ _ _ er s' I2 hq'
  | ok fl =>
    cases fl with
    | ret u =>
      obtain ⟨v, H2, os2, bare2, un2, hok2, rv, ev, d, fs, ea, ed, hd1, q2⟩ := hq'
      subst ev
      obtain ⟨h2, g2, d2, t2, os'⟩ := s'
      exact ⟨rv, mk_end (raises_own T.base T.typ) I1 big kk un2 hok2 os2 bare2 ea ed hd1 q2⟩
    | next => exact False.elim hq'
    | brk => exact False.elim hq'
    | cont => exact False.elim hq'
end
/-! ### the head's look at such a class -/
def hasDB (K : PySem.W.Frag) (C : Addr) : Bool := match PySem.W.clsIn K C with
  | some cd => cd.hasDict
  | none => false
/-- Base.__init__, read off the class Base -/
def vvB (K : PySem.W.Frag) (B iid : String) : Bool := match PySem.W.findCls K (.type B) (.type "type") "__init__" with
  | some (.val (.builtin n)) => n == iid
  | _ => false
theorem vvB_ok {K : PySem.W.Frag} {B iid : String} (h : vvB K B iid = true) : PySem.W.findCls K (.type B) (.type "type") "__init__" = some (.val (.builtin iid)) := by
  unfold vvB at h
  split at h
  · rename_i n e
    rw [e, eq_of_beq h]
  · cases h
/-- what isinstance asks of an own class -/
def isB (K : PySem.W.Frag) (C : Addr) : Bool := He.eqO (PySem.W.findIn K (.ref C) "__class__") (some (some (.builtin "object.__class__"))) && (He.eqO (PySem.W.specialIn K (.builtin "object.__class__") "__get__") (some (some (.builtin "getset_descriptor.__get__"))) &&
  (decide (PySem.W.takesIn K (.builtin "object.__class__") = some true) && decide (PySem.W.mroIn K C (.type "object") = some true)))
def gxB (K : PySem.W.Frag) (C : Addr) (bmB : List Value) (nid : String) : Bool := PySem.W.excOver K C bmB && (PySem.W.excInitIn K C bmB nid && (hasDB K C &&
  (He.eqO (PySem.W.findIn K (.ref C) "__setattr__") (some (some (.builtin "object.__setattr__"))) && (decide (PySem.W.subIn K (.ref C) (.type "BaseException") = some true) &&
  (decide (PySem.W.typeIn K (.ref C) = some (.type "type")) && PySem.W.keepIn K (.ref C))))))
theorem gxB_ok {K : PySem.W.Frag} {C : Addr} {bmB : List Value} {nid : String} (h : gxB K C bmB nid = true) : Gx K C bmB nid := by
  unfold gxB at h
  simp only [Bool.and_eq_true, decide_eq_true_eq] at h
  obtain ⟨h1, h2, h3, h4, h5, h6, h7⟩ := h
  refine ⟨h1, h2, ?_, He.eqO_ok h4, h5, h6, h7⟩
  unfold hasDB at h3
  split at h3
  · rename_i cd e
    exact ⟨cd, e, h3⟩
  · cases h3
end GX
set_option linter.all false
namespace KM
/-- the signed common part -/
def sg (t b : Int) : Int := if b < 0 then -(Int.gcd t b : Int) else (Int.gcd t b : Int)
/-- a fraction in lowest terms -/
def low (t b : Int) : Int × Int := (t.fdiv (sg t b), b.fdiv (sg t b))
theorem gcd_pos {t b : Int} (h : b ≠ 0) : 0 < Int.gcd t b := Int.gcd_pos_of_ne_zero_right t h
theorem sg_ne {t b : Int} (h : b ≠ 0) : sg t b ≠ 0 := by
  have := gcd_pos (t := t) h
  unfold sg
  split <;> omega
theorem sg_dvd_left (t b : Int) : sg t b ∣ t := by
  unfold sg
  split
  · exact Int.neg_dvd.mpr (Int.gcd_dvd_left ..)
  · exact Int.gcd_dvd_left ..
theorem sg_dvd_right (t b : Int) : sg t b ∣ b := by
  unfold sg
  split
  · exact Int.neg_dvd.mpr (Int.gcd_dvd_right ..)
  · exact Int.gcd_dvd_right ..
theorem low_top {t b : Int} : sg t b * (low t b).1 = t := by
  show sg t b * t.fdiv (sg t b) = t
  rw [Int.fdiv_eq_ediv_of_dvd (sg_dvd_left t b)]
  exact Int.mul_ediv_cancel' (sg_dvd_left t b)
theorem low_bot {t b : Int} : sg t b * (low t b).2 = b := by
  show sg t b * b.fdiv (sg t b) = b
  rw [Int.fdiv_eq_ediv_of_dvd (sg_dvd_right t b)]
  exact Int.mul_ediv_cancel' (sg_dvd_right t b)
theorem sg_abs (t b : Int) : (sg t b).natAbs = Int.gcd t b := by
  unfold sg
  split <;> simp
theorem low_pos {t b : Int} (h : b ≠ 0) : 0 < (low t b).2 := by
  have e := low_bot (t := t) (b := b)
  have g := gcd_pos (t := t) h
  by_cases hb : b < 0
  · have hs : sg t b < 0 := by unfold sg; rw [if_pos hb]; omega
    refine Int.lt_of_not_ge fun hc => ?_
    have := Int.mul_nonneg_of_nonpos_of_nonpos (Int.le_of_lt hs) hc
    omega
  · have hs : 0 < sg t b := by unfold sg; rw [if_neg hb]; omega
    refine Int.lt_of_not_ge fun hc => ?_
    have := Int.mul_nonpos_of_nonneg_of_nonpos (Int.le_of_lt hs) hc
    omega
theorem low_cop {t b : Int} (h : b ≠ 0) : Int.gcd (low t b).1 (low t b).2 = 1 := by
  have e : Int.gcd (sg t b * (low t b).1) (sg t b * (low t b).2) = (sg t b).natAbs * Int.gcd (low t b).1 (low t b).2 := Int.gcd_mul_left ..
  rw [low_top, low_bot, sg_abs] at e
  have g := gcd_pos (t := t) h
  have : Int.gcd t b * Int.gcd (low t b).1 (low t b).2 = Int.gcd t b * 1 := by omega
  exact Nat.eq_of_mul_eq_mul_left g this
theorem low_id {t b : Int} (hb : 0 < b) (h : Int.gcd t b = 1) : low t b = (t, b) := by
  have e : sg t b = 1 := by unfold sg; rw [if_neg (by omega), h]; rfl
  unfold low
  rw [e]
  simp
theorem low_low {t b : Int} (h : b ≠ 0) : low (low t b).1 (low t b).2 = low t b := low_id (low_pos h) (low_cop h)
/-- the bottom stays: nothing is taken out -/
theorem low_same {t b : Int} (hb : 0 < b) (h : (low t b).2 = b) : low t b = (t, b) := by
  have e := low_bot (t := t) (b := b)
  rw [h] at e
  have e1 : sg t b * b = 1 * b := by omega
  have e2 := Int.eq_of_mul_eq_mul_right (Int.ne_of_gt hb) e1
  have e3 := low_top (t := t) (b := b)
  rw [e2] at e3
  refine Prod.ext ?_ h
  show (low t b).1 = t
  omega
theorem dvd_le {x y : Int} (h : x * y ≠ 0) : y.natAbs ≤ (x * y).natAbs := by
  rw [Int.natAbs_mul]
  have : x ≠ 0 := fun z => h (by rw [z, Int.zero_mul])
  exact Nat.le_mul_of_pos_left _ (by omega)
theorem low_top_le {t b : Int} (h : b ≠ 0) : (low t b).1.natAbs ≤ t.natAbs := by
  by_cases ht : t = 0
  · subst ht
    have e := low_top (t := 0) (b := b)
    rcases Int.mul_eq_zero.mp e with z | z
    · exact absurd z (sg_ne h)
    · rw [z]; exact Nat.le_refl _
  · have e := low_top (t := t) (b := b)
    have := dvd_le (x := sg t b) (y := (low t b).1) (by omega)
    rw [e] at this
    exact this
theorem low_bot_le {t b : Int} (h : b ≠ 0) : (low t b).2.natAbs ≤ b.natAbs := by
  have e := low_bot (t := t) (b := b)
  have := dvd_le (x := sg t b) (y := (low t b).2) (by omega)
  rw [e] at this
  exact this
theorem sg_le {t b : Int} (h : b ≠ 0) : (sg t b).natAbs ≤ b.natAbs := by
  have e := low_bot (t := t) (b := b)
  have := dvd_le (x := (low t b).2) (y := sg t b) (by rw [Int.mul_comm]; omega)
  rw [Int.mul_comm, e] at this
  exact this
/-- Euclid's turn over whole numbers from 0 on -/
theorem gcd_turn {a b : Int} (ha : 0 ≤ a) (hb : 0 < b) : Int.gcd b (a % b) = Int.gcd a b := by
  obtain ⟨m, rfl⟩ := Int.eq_ofNat_of_zero_le ha
  obtain ⟨n, rfl⟩ := Int.eq_ofNat_of_zero_le (Int.le_of_lt hb)
  show Nat.gcd (Int.natAbs (n : Int)) (Int.natAbs ((m : Int) % (n : Int))) = Nat.gcd (Int.natAbs (m : Int)) (Int.natAbs (n : Int))
  rw [← Int.natCast_emod, Int.natAbs_natCast, Int.natAbs_natCast, Int.natAbs_natCast, Nat.gcd_comm n, Nat.gcd_comm m n]
  exact (Nat.gcd_rec n m).symm
theorem gcd_succ (a : Int) : Int.gcd a (a + 1) = 1 := by
  have : Int.gcd (a + 1) a = Int.gcd 1 a := by
    rw [Int.add_comm, Int.gcd_add_self_left]
  rw [Int.gcd_comm, this, Int.gcd_comm]
  simp
end KM
set_option Elab.async false
set_option linter.all false
set_option maxRecDepth 100000
set_option maxHeartbeats 4000000
namespace K02
open PySem PySem.Spec PyProof.Rows L2
/-- a def of the text -/
abbrev Dn (K : PySem.W.Frag) (d : He.DefD) (f : Addr) (fd : FuncData) : Prop := FunD K d.name d.qual d.params d.body d.scope (d.dvs K) (d.kws K) f fd
/-- what the module's names are -/
structure Bl (mg : Str → Option Value) : Prop where
  isi : mg "isinstance" = none
  int : mg "int" = none
  bool : mg "bool" = none
  abs : mg "abs" = none
  list : mg "list" = none
  range : mg "range" = none
  len : mg "len" = none
theorem op_fdW {X : Cx} : OpR X (binaryOp .FloorDiv) (rI (fun _ j => j ≠ 0 ∧ j.natAbs.log2 < 9000) fun i j => .int (i.fdiv j)) := opI fun _ _ _ _ _ _ _ hc q => floordiv_int hc.1 q (.inl (PyProof.noPylong_of_log2 hc.2))
/-- the fields of a Share -/
def shF (q : Int × Int) : List (Str × V) := putF "bottom" (.int q.2) (putF "top" (.int q.1) [])
theorem tb : ¬ (("top" : Str) = "bottom") := by decide +kernel
theorem shF_top (q : Int × Int) : (shF q).lookup ("top" : Str) = some (.int q.1) := by
  unfold shF
  rw [lookup_putF, if_neg tb, lookup_putF, if_pos rfl]
theorem shF_bot (q : Int × Int) : (shF q).lookup ("bottom" : Str) = some (.int q.2) := by
  unfold shF
  rw [lookup_putF, if_pos rfl]
theorem shF_no (q : Int × Int) {m : Str} (h1 : ¬ m = "bottom") (h2 : ¬ m = "top") : (shF q).lookup m = none := by
  unfold shF
  rw [lookup_putF, if_neg h1, lookup_putF, if_neg h2]
  all_goals rfl
/-- a Share stands at p -/
def Sh (C : Addr) (H : Hp) (p : Addr) (q : Int × Int) : Prop := ∃ dx, H p = some (.ins C dx (shF q))
/-- small enough, the bottom above nought -/
def Bd (n : Nat) (q : Int × Int) : Prop := q.1.natAbs < 2 ^ n ∧ 0 < q.2 ∧ q.2.natAbs < 2 ^ n
theorem Sh.keep {C : Addr} {H H' : Hp} {p : Addr} {q : Int × Int} (s : Same H H') (h : Sh C H p q) : Sh C H' p q := let ⟨dx, e⟩ := h; ⟨dx, s _ _ e⟩
theorem log_lt {j : Int} {n : Nat} (h : j.natAbs < 2 ^ n) (h0 : 0 < n) (h9 : n ≤ 9000) : j.natAbs.log2 < 9000 := Nat.lt_of_lt_of_le (PySem.Flt.log2_lt_of h0 h) h9
/-- what is known of the class -/
structure Cl (K : PySem.W.Frag) (mg : Str → Option Value) (C : Addr) : Prop where
  cl : Cls K C
  nt : NoAttr K C "top"
  nb : NoAttr K C "bottom"
  g : mg "Share" = some (.ref C)
section
variable {P : Program} {w : World} {K : PySem.W.Frag} {mg : Str → Option Value} {base : Heap} {f C : Addr} {fd : FuncData}

def spWhole : Sp := fun vs H Q _ => ∃ n : Int, vs = [.int n] ∧ Q (.bl true) H
theorem ok_whole (F : Dn K d_is_whole f fd) (b : Bl mg) : FnOk P w K mg base CX0 1 f fd ["thing"] spWhole := by
  refine F.ok sc_is_whole (fun vs H Q E h => ?_) (fun cdv A outer s H vs Q E hr h => ?_)
  · obtain ⟨n, rfl, _⟩ := h
    rfl
  · obtain ⟨n, rfl, hQ⟩ := h
    refine ⟨_, PSs.nox (pss_one (ps_ret (pe_and
      (pe_callB call_isi rfl b.isi boot_isinstance (pa_cons (pv 0) (pa_cons (pe_bltn (v := .ty "int") rfl b.int boot_int rfl) pa_nil)))
      (pe_one (pe_not (pe_callB call_isi rfl b.isi boot_isinstance (pa_cons (pv 0) (pa_cons (pe_bltn (v := .ty "bool") rfl b.bool boot_bool rfl) pa_nil)))))))), ?_⟩
    refine ⟨_, rfl, _, _, _, _, true, rfl, ClsV.ty _, TyX.base (TyOf.int n), kit_ty (by decide +kernel), true, rfl, ?_⟩
    refine iteT ?_
    exact ⟨_, rfl, _, _, _, _, false, rfl, ClsV.ty _, TyX.base (TyOf.int n), kit_ty (by decide +kernel), false, rfl, hQ⟩
def spGcd : Sp := fun vs H Q _ => ∃ x y : Int, vs = [.int x, .int y] ∧ Q (.int (Int.gcd x y : Int)) H
theorem abs_eq (x : Int) : (if x < 0 then -x else x) = (x.natAbs : Int) := by split <;> omega
theorem ok_gcd (F : Dn K d_common_part f fd) (b : Bl mg) : FnOk P w K mg base CX0 1 f fd ["one", "other"] spGcd := by
  refine F.ok sc_common_part (fun vs H Q E h => ?_) (fun cdv A outer s H vs Q E hr h => ?_)
  · obtain ⟨x, y, rfl, _⟩ := h
    rfl
  · obtain ⟨x, y, rfl, hQ⟩ := h
    refine ⟨_, PSs.nox (pss_cons (ps_set (i := 0) sc_common_part.nd rfl (.inl rfl) (pe_callB call_abs rfl b.abs boot_abs (pa_cons (pv 0) pa_nil)))
      (pss_cons (ps_set (i := 1) sc_common_part.nd rfl (.inl rfl) (pe_callB call_abs rfl b.abs boot_abs (pa_cons (pv 1) pa_nil)))
      (pss_cons (ps_while PassesOwn.never (pt_cmpR op_ne (pv 1) pe_int (nomark _)) (pss_one (ps_par (i := 0) (j := 1) rfl sc_common_part.nd rfl rfl (by decide) rfl rfl (pa_cons (pv 1) (pa_cons (pe_op op_mod (pv 0) (pv 1)) pa_nil)) rfl)))
      (pss_one (ps_ret (pv 0)))))), ?_⟩
    refine ⟨_, rfl, _, rfl, _, rfl, _, rfl, while_by (fun σ H2 => H2 = H ∧ ∃ a c : Int, σ = [some (.int a), some (.int c)] ∧ 0 ≤ a ∧ 0 ≤ c ∧ Int.gcd a c = Int.gcd x y)
      (fun σ _ => match σ with | [_, some (.int c)] => c.toNat | _ => 0) ⟨rfl, _, _, rfl, ?_, ?_, ?_⟩ ?_ ?_⟩
    · split <;> omega
    · split <;> omega
    · rw [abs_eq, abs_eq]
      rfl
    · rintro σ H2 ⟨rfl, a, c, rfl, ha, hc, hg⟩
      refine ⟨_, rfl, rfl, _, rfl, ?_⟩
      by_cases h0 : c = 0
      · subst h0
        refine iteNS rfl ?_
        refine ⟨_, rfl, ?_⟩
        have e : Int.gcd x y = a.natAbs := by rw [← hg]; simp
        have e2 : (Int.gcd x y : Int) = a := by omega
        rw [e2] at hQ
        exact hQ
      · have hne : (!decide (V.int c = V.int 0)) = true := by simp [h0]
        rw [hne]
        refine iteT ?_
        have hp : 0 < c := by omega
        refine ⟨_, rfl, _, rfl, _, rfl, _, _, rfl, rfl, hp, _, _, rfl, ⟨rfl, _, _, rfl, hc, Int.emod_nonneg _ h0, ?_⟩, ?_⟩
        · rw [KM.gcd_turn ha hp, hg]
        · show (a % c).toNat < c.toNat
          have h1 := Int.emod_nonneg a h0
          have h2 := Int.emod_lt_of_pos a hp
          omega
    · rintro σ H2 Q1 Q2 hm ⟨v, hv, h1, k, hk, q⟩
      exact ⟨v, hv, h1, k, hk, hm _ _ q⟩
end
end K02
set_option Elab.async false
set_option linter.all false
set_option maxRecDepth 100000
set_option maxHeartbeats 4000000
namespace K02
open PySem PySem.Spec PyProof.Rows L2
open C8 (Cal Mak Met pe_c pe_mk pe_mt pe_mt0)
section
variable {P : Program} {w : World} {K : PySem.W.Frag} {mg : Str → Option Value} {base : Heap} {f C : Addr} {fd : FuncData}
abbrev CalW (P : Program) (w : World) (K : PySem.W.Frag) (mg : Str → Option Value) (base : Heap) : Prop := Cal P w K mg base 1 "is_whole" spWhole []
abbrev CalG (P : Program) (w : World) (K : PySem.W.Frag) (mg : Str → Option Value) (base : Heap) : Prop := Cal P w K mg base 1 "common_part" spGcd []
/-- __init__: a Share in lowest terms -/
def spInit (C : Addr) : Sp := fun vs H Q _ => ∃ (p dx : Addr) (t b : Int) (n : Nat), vs = [.ref p, .int t, .int b] ∧ b ≠ 0 ∧ b.natAbs < 2 ^ n ∧ 0 < n ∧ n ≤ 9000 ∧ H p = some (.ins C dx []) ∧
  ∀ H', (∀ a o, a ≠ p → H a = some o → H' a = some o) → H' p = some (.ins C dx (shF (KM.low t b))) → Q .non H'
theorem ok_init (F : Dn K d_Share_init f fd) (cW : CalW P w K mg base) (cG : CalG P w K mg base) (T : Cl K mg C) : FnOk P w K mg base CX0 2 f fd ["self", "top", "bottom"] (spInit C) := by
  refine F.ok sc_Share_init (fun vs H Q E h => ?_) (fun cdv A outer s H vs Q E hr h => ?_)
  · obtain ⟨p, dx, t, b, n, rfl, _⟩ := h
    rfl
  · obtain ⟨p, dx, t, b, n, rfl, hb, hn, hn0, hn9, hp, hQ⟩ := h
    refine ⟨_, PSs.nox (pss_cons (ps_for PassesOwn.never rfl (pi_tup (pe_tup (pa_cons (pv 1) (pa_cons (pv 2) pa_nil)))) (pg_name (i := 3) sc_Share_init.nd rfl (.inl rfl))
        (pss_one (ps_if (pt_not (pt_val (pe_c cW hr (by decide) rfl (pa_cons (pv 3) pa_nil)))) pss_never pss_nil)))
      (pss_cons (ps_if (pt_cmpR op_eq (pv 2) pe_int (nomark _)) pss_never pss_nil)
      (pss_cons (ps_set (i := 4) sc_Share_init.nd rfl (.inl rfl) (pe_c cG hr (by decide) rfl (pa_cons (pv 1) (pa_cons (pv 2) pa_nil))))
      (pss_cons (ps_if (pt_cmpR op_lt (pv 2) pe_int (nomark _)) (pss_one (ps_set (i := 4) sc_Share_init.nd rfl (.inl rfl) (pe_un un_neg (pv 4)))) pss_nil)
      (pss_cons (ps_fld (pv 0) (pe_op op_fdW (pv 1) (pv 4)) rfl)
      (pss_one (ps_fld (pv 0) (pe_op op_fdW (pv 2) (pv 4)) rfl))))))), ?_⟩
    refine ⟨_, rfl, _, rfl, by show 2 ≤ sizeLine; decide, fun u hu => ?_⟩
    have npu : p ≠ u := ne_of_none hp hu
    refine ⟨u, rfl, ⟨_, SqT.of upd_same⟩, for_tup (K := K) (xs := [.int t, .int b]) (fun i σ H2 => H2 = upd H u (.tup [.int t, .int b]) ∧ ∃ v, σ = [some (.ref p), some (.int t), some (.int b), v, none])
      ⟨rfl, none, rfl⟩ (fun i σ H2 _ h => by rw [h.1]; exact SqT.of upd_same) ?_ ?_⟩
    · rintro i y σ H2 hi ⟨rfl, v, rfl⟩
      have hy : ∃ n : Int, y = .int n := by
        match i, hi with
        | 0, e => exact ⟨t, (Option.some.inj e).symm⟩
        | 1, e => exact ⟨b, (Option.some.inj e).symm⟩
      obtain ⟨n, rfl⟩ := hy
      refine ⟨_, rfl, n, rfl, true, rfl, ?_⟩
      refine iteF ?_
      exact ⟨rfl, _, rfl⟩
    · rintro σ H2 ⟨rfl, v, rfl⟩
      refine ⟨_, rfl, rfl, _, rfl, ?_⟩
      have hb0 : decide (V.int b = V.int 0) = false := by simp [hb]
      rw [hb0]
      refine iteF ?_
      refine ⟨_, rfl, _, rfl, t, b, rfl, ?_⟩
      refine ⟨_, rfl, _, _, rfl, rfl, _, rfl, ?_⟩
      have hs9 : (KM.sg t b).natAbs.log2 < 9000 := log_lt (Nat.lt_of_le_of_lt (KM.sg_le hb) hn) hn0 hn9
      have fin : ∀ c : Int, c = KM.sg t b → ∀ v, tSeq (sFld K (tVar 0) (tOp (rI (fun _ j => j ≠ 0 ∧ j.natAbs.log2 < 9000) fun i j => .int (i.fdiv j)) (tVar 1) (tVar 4)) "top") (sFld K (tVar 0) (tOp (rI (fun _ j => j ≠ 0 ∧ j.natAbs.log2 < 9000) fun i j => .int (i.fdiv j)) (tVar 2) (tVar 4)) "bottom")
          { nx := fun _ H' => Q .non H', rt := Q } [some (.ref p), some (.int t), some (.int b), v, some (.int c)] (upd H u (.tup [.int t, .int b])) := by
        rintro c rfl v
        refine ⟨_, rfl, _, rfl, _, _, rfl, rfl, ⟨KM.sg_ne hb, hs9⟩, _, rfl, p, C, dx, _, rfl, (by rw [upd_ne npu]; exact hp), T.cl, T.nt, (by show 0 < 1000; decide), ?_⟩
        refine ⟨_, rfl, _, rfl, _, _, rfl, rfl, ⟨KM.sg_ne hb, hs9⟩, _, rfl, p, C, dx, _, rfl, upd_same, T.cl, T.nb, (by show 1 < 1000; decide), ?_⟩
        refine hQ _ (fun a o ha e => ?_) upd_same
        rw [upd_ne ha, upd_ne ha, upd_ne (ne_of_none e hu)]
        exact e
      refine ite2 (fun h => ?_) (fun h => ?_)
      · have h' : b < 0 := of_decide_eq_true h
        refine ⟨_, rfl, _, rfl, ?_⟩
        exact fin _ (by unfold KM.sg; rw [if_pos h']) _
      · have h' : ¬ b < 0 := fun z => h (decide_eq_true z)
        exact fin _ (by unfold KM.sg; rw [if_neg h']) _
end
end K02
set_option Elab.async false
set_option linter.all false
set_option maxRecDepth 100000
set_option maxHeartbeats 4000000
namespace K02
open PySem PySem.Spec PyProof.Rows L2
open C8 (Cal Mak Met pe_c pe_mk pe_mt pe_mt0)
section
variable {P : Program} {w : World} {K : PySem.W.Frag} {mg : Str → Option Value} {base : Heap} {f C : Addr} {fd : FuncData}
abbrev MakS (P : Program) (w : World) (K : PySem.W.Frag) (mg : Str → Option Value) (base : Heap) (C : Addr) : Prop := Mak P w K mg base 2 "Share" C (spInit C) []
/-- Share(t, b): what is left to show -/
theorem mk_at {H1 : Hp} {t b : Int} {n : Nat} {Q : VK} (hb : b ≠ 0) (hn : b.natAbs < 2 ^ n) (hn0 : 0 < n) (hn9 : n ≤ 9000)
    (hQ : ∀ r H', Same H1 H' → H1 r = none → Sh C H' r (KM.low t b) → Q (.ref r) H') :
    ∀ x dx, H1 x = none → H1 dx = none → dx ≠ x → spInit C (.ref x :: ([V.int t, V.int b] ++ [])) (upd (upd H1 dx (.own x)) x (.ins C dx [])) (fun v H2 => v = .non ∧ Q (.ref x) H2) E0 := by
  intro x dx nx nd ne
  refine ⟨x, dx, t, b, n, rfl, hb, hn, hn0, hn9, upd_same, fun H' kp hp => ⟨rfl, hQ x H' (fun a o e => ?_) nx ⟨dx, hp⟩⟩⟩
  refine kp a o (ne_of_none e nx) ?_
  rw [upd_ne (ne_of_none e nx), upd_ne (ne_of_none e nd)]
  exact e
theorem mul_pos_ne {a b : Int} (ha : 0 < a) (hb : 0 < b) : a * b ≠ 0 := fun z => by
  have := Int.mul_pos ha hb
  omega
def two (n : Nat) (a b : Int × Int) : Prop := Bd n a ∧ Bd n b ∧ 0 < n ∧ n ≤ 4000

def sp_plus (C : Addr) : Sp := fun vs H Q _ => ∃ (p q : Addr) (a b : Int × Int) (n : Nat), vs = [.ref p, .ref q] ∧ Sh C H p a ∧ Sh C H q b ∧ two n a b ∧
  ∀ r H', Same H H' → H r = none → Sh C H' r (KM.low (a.1 * b.2 + b.1 * a.2) (a.2 * b.2)) → Q (.ref r) H'
theorem ok_plus (F : Dn K d_Share_plus f fd) (M : MakS P w K mg base C) (T : Cl K mg C) : FnOk P w K mg base CX0 4 f fd ["self", "other"] (sp_plus C) := by
  refine F.ok sc_Share_plus (fun vs H Q E h => ?_) (fun cdv A outer s H vs Q E hr h => ?_)
  · obtain ⟨p, q, a, b, n, rfl, _⟩ := h
    rfl
  · obtain ⟨p, q, a, b, n, rfl, ⟨dp, hp⟩, ⟨dq, hq⟩, ⟨ba, bb, hn0, hn9⟩, hQ⟩ := h
    refine ⟨_, PSs.nox (pss_one (ps_ret (pe_mk M hr (by decide) rfl (pa_cons (pe_op op_add (pe_op op_mulW (pe_fld (pv 0) rfl) (pe_fld (pv 1) rfl)) (pe_op op_mulW (pe_fld (pv 1) rfl) (pe_fld (pv 0) rfl)))
      (pa_cons (pe_op op_mulW (pe_fld (pv 0) rfl) (pe_fld (pv 1) rfl)) pa_nil))))), ?_⟩
    refine ⟨_, rfl, p, C, dp, _, _, rfl, hp, T.cl, T.nt, shF_top a, _, rfl, q, C, dq, _, _, rfl, hq, T.cl, T.nb, shF_bot b, _, _, rfl, rfl, wide_mul ba.1 bb.2.2 hn0 hn0 (by omega), ?_⟩
    refine ⟨_, rfl, q, C, dq, _, _, rfl, hq, T.cl, T.nt, shF_top b, _, rfl, p, C, dp, _, _, rfl, hp, T.cl, T.nb, shF_bot a, _, _, rfl, rfl, wide_mul bb.1 ba.2.2 hn0 hn0 (by omega), _, _, rfl, rfl, ?_⟩
    refine ⟨_, rfl, p, C, dp, _, _, rfl, hp, T.cl, T.nb, shF_bot a, _, rfl, q, C, dq, _, _, rfl, hq, T.cl, T.nb, shF_bot b, _, _, rfl, rfl, wide_mul ba.2.2 bb.2.2 hn0 hn0 (by omega), ?_⟩
    exact mk_at (n := n + n) (mul_pos_ne ba.2.1 bb.2.1) (wide_lt ba.2.2 bb.2.2) (by omega) (by omega) hQ

def sp_less (C : Addr) : Sp := fun vs H Q _ => ∃ (p q : Addr) (a b : Int × Int) (n : Nat), vs = [.ref p, .ref q] ∧ Sh C H p a ∧ Sh C H q b ∧ two n a b ∧
  ∀ r H', Same H H' → H r = none → Sh C H' r (KM.low (a.1 * b.2 - b.1 * a.2) (a.2 * b.2)) → Q (.ref r) H'
theorem ok_less (F : Dn K d_Share_less f fd) (M : MakS P w K mg base C) (T : Cl K mg C) : FnOk P w K mg base CX0 4 f fd ["self", "other"] (sp_less C) := by
  refine F.ok sc_Share_less (fun vs H Q E h => ?_) (fun cdv A outer s H vs Q E hr h => ?_)
  · obtain ⟨p, q, a, b, n, rfl, _⟩ := h
    rfl
  · obtain ⟨p, q, a, b, n, rfl, ⟨dp, hp⟩, ⟨dq, hq⟩, ⟨ba, bb, hn0, hn9⟩, hQ⟩ := h
    refine ⟨_, PSs.nox (pss_one (ps_ret (pe_mk M hr (by decide) rfl (pa_cons (pe_op op_sub (pe_op op_mulW (pe_fld (pv 0) rfl) (pe_fld (pv 1) rfl)) (pe_op op_mulW (pe_fld (pv 1) rfl) (pe_fld (pv 0) rfl)))
      (pa_cons (pe_op op_mulW (pe_fld (pv 0) rfl) (pe_fld (pv 1) rfl)) pa_nil))))), ?_⟩
    refine ⟨_, rfl, p, C, dp, _, _, rfl, hp, T.cl, T.nt, shF_top a, _, rfl, q, C, dq, _, _, rfl, hq, T.cl, T.nb, shF_bot b, _, _, rfl, rfl, wide_mul ba.1 bb.2.2 hn0 hn0 (by omega), ?_⟩
    refine ⟨_, rfl, q, C, dq, _, _, rfl, hq, T.cl, T.nt, shF_top b, _, rfl, p, C, dp, _, _, rfl, hp, T.cl, T.nb, shF_bot a, _, _, rfl, rfl, wide_mul bb.1 ba.2.2 hn0 hn0 (by omega), _, _, rfl, rfl, ?_⟩
    refine ⟨_, rfl, p, C, dp, _, _, rfl, hp, T.cl, T.nb, shF_bot a, _, rfl, q, C, dq, _, _, rfl, hq, T.cl, T.nb, shF_bot b, _, _, rfl, rfl, wide_mul ba.2.2 bb.2.2 hn0 hn0 (by omega), ?_⟩
    exact mk_at (n := n + n) (mul_pos_ne ba.2.1 bb.2.1) (wide_lt ba.2.2 bb.2.2) (by omega) (by omega) hQ

def sp_times (C : Addr) : Sp := fun vs H Q _ => ∃ (p : Addr) (a : Int × Int) (k : Int) (n : Nat), vs = [.ref p, .int k] ∧ Sh C H p a ∧ Bd n a ∧ k.natAbs < 2 ^ n ∧ 0 < n ∧ n ≤ 4000 ∧
  ∀ r H', Same H H' → H r = none → Sh C H' r (KM.low (a.1 * k) a.2) → Q (.ref r) H'
theorem ok_times (F : Dn K d_Share_times f fd) (M : MakS P w K mg base C) (T : Cl K mg C) : FnOk P w K mg base CX0 4 f fd ["self", "many"] (sp_times C) := by
  refine F.ok sc_Share_times (fun vs H Q E h => ?_) (fun cdv A outer s H vs Q E hr h => ?_)
  · obtain ⟨p, a, k, n, rfl, _⟩ := h
    rfl
  · obtain ⟨p, a, k, n, rfl, ⟨dp, hp⟩, ba, hk, hn0, hn9, hQ⟩ := h
    refine ⟨_, PSs.nox (pss_one (ps_ret (pe_mk M hr (by decide) rfl (pa_cons (pe_op op_mulW (pe_fld (pv 0) rfl) (pv 1)) (pa_cons (pe_fld (pv 0) rfl) pa_nil))))), ?_⟩
    refine ⟨_, rfl, p, C, dp, _, _, rfl, hp, T.cl, T.nt, shF_top a, _, rfl, _, _, rfl, rfl, wide_mul ba.1 hk hn0 hn0 (by omega), ?_⟩
    refine ⟨_, rfl, p, C, dp, _, _, rfl, hp, T.cl, T.nb, shF_bot a, ?_⟩
    exact mk_at (n := n) (by have := ba.2.1; omega) ba.2.2 hn0 (by omega) hQ
def sp_over (C : Addr) : Sp := fun vs H Q _ => ∃ (p : Addr) (a : Int × Int) (k : Int) (n : Nat), vs = [.ref p, .int k] ∧ Sh C H p a ∧ Bd n a ∧ k ≠ 0 ∧ k.natAbs < 2 ^ n ∧ 0 < n ∧ n ≤ 4000 ∧
  ∀ r H', Same H H' → H r = none → Sh C H' r (KM.low a.1 (a.2 * k)) → Q (.ref r) H'
theorem ok_over (F : Dn K d_Share_over f fd) (M : MakS P w K mg base C) (T : Cl K mg C) : FnOk P w K mg base CX0 4 f fd ["self", "many"] (sp_over C) := by
  refine F.ok sc_Share_over (fun vs H Q E h => ?_) (fun cdv A outer s H vs Q E hr h => ?_)
  · obtain ⟨p, a, k, n, rfl, _⟩ := h
    rfl
  · obtain ⟨p, a, k, n, rfl, ⟨dp, hp⟩, ba, hk0, hk, hn0, hn9, hQ⟩ := h
    refine ⟨_, PSs.nox (pss_one (ps_ret (pe_mk M hr (by decide) rfl (pa_cons (pe_fld (pv 0) rfl) (pa_cons (pe_op op_mulW (pe_fld (pv 0) rfl) (pv 1)) pa_nil))))), ?_⟩
    refine ⟨_, rfl, p, C, dp, _, _, rfl, hp, T.cl, T.nt, shF_top a, ?_⟩
    refine ⟨_, rfl, p, C, dp, _, _, rfl, hp, T.cl, T.nb, shF_bot a, _, rfl, _, _, rfl, rfl, wide_mul ba.2.2 hk hn0 hn0 (by omega), ?_⟩
    exact mk_at (n := n + n) (Int.mul_ne_zero (by have := ba.2.1; omega) hk0) (wide_lt ba.2.2 hk) (by omega) (by omega) hQ
def sp_below (C : Addr) : Sp := fun vs H Q _ => ∃ (p q : Addr) (a b : Int × Int) (n : Nat), vs = [.ref p, .ref q] ∧ Sh C H p a ∧ Sh C H q b ∧ two n a b ∧ Q (.bl (decide (a.1 * b.2 < b.1 * a.2))) H
theorem ok_below (F : Dn K d_Share_below f fd) (T : Cl K mg C) : FnOk P w K mg base CX0 1 f fd ["self", "other"] (sp_below C) := by
  refine F.ok sc_Share_below (fun vs H Q E h => ?_) (fun cdv A outer s H vs Q E hr h => ?_)
  · obtain ⟨p, q, a, b, n, rfl, _⟩ := h
    rfl
  · obtain ⟨p, q, a, b, n, rfl, ⟨dp, hp⟩, ⟨dq, hq⟩, ⟨ba, bb, hn0, hn9⟩, hQ⟩ := h
    refine ⟨_, PSs.nox (pss_one (ps_ret (pe_cmpR op_lt (pe_op op_mulW (pe_fld (pv 0) rfl) (pe_fld (pv 1) rfl)) (pe_op op_mulW (pe_fld (pv 1) rfl) (pe_fld (pv 0) rfl)) (nomark _)))), ?_⟩
    refine ⟨_, rfl, p, C, dp, _, _, rfl, hp, T.cl, T.nt, shF_top a, _, rfl, q, C, dq, _, _, rfl, hq, T.cl, T.nb, shF_bot b, _, _, rfl, rfl, wide_mul ba.1 bb.2.2 hn0 hn0 (by omega), ?_⟩
    exact ⟨_, rfl, q, C, dq, _, _, rfl, hq, T.cl, T.nt, shF_top b, _, rfl, p, C, dp, _, _, rfl, hp, T.cl, T.nb, shF_bot a, _, _, rfl, rfl, wide_mul bb.1 ba.2.2 hn0 hn0 (by omega), _, _, rfl, rfl, hQ⟩
def sp_whole (C : Addr) : Sp := fun vs H Q _ => ∃ (p : Addr) (a : Int × Int) (n : Nat), vs = [.ref p] ∧ Sh C H p a ∧ Bd n a ∧ 0 < n ∧ n ≤ 4000 ∧ Q (.int (a.1.fdiv a.2)) H
theorem ok_wholeM (F : Dn K d_Share_whole f fd) (T : Cl K mg C) : FnOk P w K mg base CX0 1 f fd ["self"] (sp_whole C) := by
  refine F.ok sc_Share_whole (fun vs H Q E h => ?_) (fun cdv A outer s H vs Q E hr h => ?_)
  · obtain ⟨p, a, n, rfl, _⟩ := h
    rfl
  · obtain ⟨p, a, n, rfl, ⟨dp, hp⟩, ba, hn0, hn9, hQ⟩ := h
    refine ⟨_, PSs.nox (pss_one (ps_ret (pe_op op_fdW (pe_fld (pv 0) rfl) (pe_fld (pv 0) rfl)))), ?_⟩
    refine ⟨_, rfl, p, C, dp, _, _, rfl, hp, T.cl, T.nt, shF_top a, _, rfl, p, C, dp, _, _, rfl, hp, T.cl, T.nb, shF_bot a, _, _, rfl, rfl, ⟨by have := ba.2.1; omega, log_lt ba.2.2 hn0 (by omega)⟩, hQ⟩
end
end K02
set_option Elab.async false
set_option linter.all false
set_option maxRecDepth 100000
set_option maxHeartbeats 4000000
namespace K02
open PySem PySem.Spec PyProof.Rows L2
open C8 (Cal Mak Met pe_c pe_mk pe_mt pe_mt0)
/-- the held dict's pairs -/
def hd0 (l : Addr) (n m : Int) : List (Key × V) := [(Sum.inr "cells", .ref l), (Sum.inr "at", .int n), (Sum.inr "left", .int m)]
theorem hd_cells (l : Addr) (n m : Int) : valV (hd0 l n m) (Sum.inr "cells") = some (.ref l) := valV_pos rfl
theorem k1 : ¬ (("cells" : Str) = "at") := by decide +kernel
theorem k2 : ¬ (("cells" : Str) = "left") := by decide +kernel
theorem k3 : ¬ (("at" : Str) = "left") := by decide +kernel
theorem k1' : ¬ (("at" : Str) = "cells") := by decide +kernel
theorem k3' : ¬ (("left" : Str) = "at") := by decide +kernel
theorem inr_ne {x y : Str} (h : ¬ x = y) : ¬ ((Sum.inr x : Key) = Sum.inr y) := fun z => h (Sum.inr.inj z)
theorem hd_at (l : Addr) (n m : Int) : valV (hd0 l n m) (Sum.inr "at") = some (.int n) := (valV_neg (inr_ne k1)).trans (valV_pos rfl)
theorem hd_left (l : Addr) (n m : Int) : valV (hd0 l n m) (Sum.inr "left") = some (.int m) := (valV_neg (inr_ne k2)).trans ((valV_neg (inr_ne k3)).trans (valV_pos rfl))
theorem put_at (l : Addr) (n m k : Int) : putK (hd0 l n m) (Sum.inr "at") (.int k) = hd0 l k m := by
  unfold putK hd0
  simp [k1, k3']
theorem put_left (l : Addr) (n m k : Int) : putK (hd0 l n m) (Sum.inr "left") (.int k) = hd0 l n k := by
  unfold putK hd0
  simp [k2, k3]
theorem hd_merge (l : Addr) (n m : Int) : mergeK [] (hd0 l n m) = hd0 l n m := by
  simp [mergeK, hd0, putK, k1, k2, k3]
/-- the held dict at h, good for c draws more -/
def Held (H : Hp) (h : Addr) (c : Nat) : Prop := ∃ (l : Addr) (ns : List Int) (n m : Int), H h = some (.dK (hd0 l n m)) ∧ H l = some (.lst (ns.map V.int)) ∧ 0 ≤ n ∧ n + c ≤ 1000000000
theorem Held.weak {H : Hp} {h : Addr} {c c' : Nat} (hc : c' ≤ c) (x : Held H h c) : Held H h c' := by
  obtain ⟨l, ns, n, m, h1, h2, h3, h4⟩ := x
  exact ⟨l, ns, n, m, h1, h2, h3, by omega⟩
/-- all but h is kept -/
def Kp (h : Addr) (H H' : Hp) : Prop := ∀ b o, H b = some o → b ≠ h → H' b = some o
theorem Kp.refl (h : Addr) (H : Hp) : Kp h H H := fun _ _ e _ => e
theorem Kp.trans {h : Addr} {H H1 H2 : Hp} (a : Kp h H H1) (b : Kp h H1 H2) : Kp h H H2 := fun c o e n => b c o (a c o e n) n
theorem Kp.same {h : Addr} {H H1 : Hp} (a : Same H H1) : Kp h H H1 := fun c o e _ => a c o e
theorem Held.same {H H' : Hp} {h : Addr} {c : Nat} (s : Same H H') (x : Held H h c) : Held H' h c := by
  obtain ⟨l, ns, n, m, h1, h2, h3, h4⟩ := x
  exact ⟨l, ns, n, m, s _ _ h1, s _ _ h2, h3, h4⟩
theorem same_new {H : Hp} {p : Addr} {o : HO} (h : H p = none) : Same H (upd H p o) := fun a u e => by
  rw [upd_ne (ne_of_none e h)]
  exact e
theorem dpInts {K : PySem.W.Frag} {H : Hp} : ∀ ns : List Int, DpAll K H (ns.map V.int) (ns.map PyData.int)
  | [] => .nil
  | n :: ns => .cons (.int n) (dpInts ns)
section
variable {P : Program} {w : World} {K : PySem.W.Frag} {mg : Str → Option Value} {base : Heap} {f C : Addr} {fd : FuncData}
def spHeld (K : PySem.W.Frag) : Sp := fun vs H Q _ => ∃ (a : Addr) (ns : List Int), vs = [.ref a] ∧ SqL K H a (ns.map V.int) ∧ ns.length ≤ 63 ∧ ∀ h H', Same H H' → H h = none → Held H' h 900000000 → Q (.ref h) H'
theorem ok_held (F : Dn K d_l_held f fd) (b : Bl mg) : FnOk P w K mg base CX0 1 f fd ["_law_script"] (spHeld K) := by
  refine F.ok sc_l_held (fun vs H Q E h => ?_) (fun cdv A outer s H vs Q E hr h => ?_)
  · obtain ⟨a, ns, rfl, _⟩ := h
    rfl
  · obtain ⟨a, ns, rfl, hS, hlen, hQ⟩ := h
    refine ⟨_, PSs.nox (pss_one (ps_ret (pe_disp (pps_cons pe_str (pe_callTy call_list_of rfl b.list boot_list (pa_cons (pe_slice sl_list (pv 0) po_none (po_some pe_int)) pa_nil)) (pps_cons pe_str pe_int (pps_cons pe_str pe_int pps_nil))) rfl rfl (by simp) (by decide)))), ?_⟩
    intro h hh
    have sS : SqL K (upd H h (.dK [])) a (ns.map V.int) := (same_new hh).seq hS
    refine ⟨_, rfl, 63, rfl, a, _, rfl, sS, fun p hp => ⟨p, _, rfl, Or.inl (SqL.of upd_same), fun l hl => ?_⟩⟩
    have nhp : h ≠ p := ne_of_none upd_same hp
    have nhl : h ≠ l := ne_of_none (by rw [upd_ne nhp]; exact upd_same) hl
    refine ⟨by rw [upd_ne nhl, upd_ne nhp, upd_same], hd0 l 0 0, rfl, by show 3 ≤ 15; decide, ?_⟩
    have e : cutV (ns.map V.int) none (some 63) = (ns.take 63).map V.int := by
      unfold cutV
      simp [HT.sIx, List.map_take]
    refine hQ h _ (fun c o z => ?_) hh ⟨l, ns.take 63, 0, 0, ?_, ?_, by decide, by decide⟩
    · have z1 : c ≠ h := ne_of_none z hh
      have z2 : (upd H h (.dK [])) c = some o := by rw [upd_ne z1]; exact z
      have z3 : c ≠ p := ne_of_none z2 hp
      have z4 : c ≠ l := ne_of_none (by rw [upd_ne z3]; exact z2) hl
      rw [upd_ne z1, upd_ne z4, upd_ne z3]
      exact z2
    · rw [upd_same, hd_merge]
    · rw [upd_ne nhl.symm, upd_same, ← e]

def spDraw : Sp := fun vs H Q _ => ∃ (h : Addr) (c : Nat) (k : Int), vs = [.ref h, .int k] ∧ Held H h (c + 1) ∧ 0 < k ∧ k < 1073741824 ∧
  ∀ r H', 0 ≤ r → r < k → Held H' h c → Kp h H H' → Q (.int r) H'
theorem cb_l {i j : Int} (h1 : -(2 ^ 64) < i) (h2 : i < 2 ^ 64) : CMul i j := .inl ⟨h1, h2⟩
theorem cb_r {i j : Int} (h1 : -(2 ^ 64) < j) (h2 : j < 2 ^ 64) : CMul i j := .inr ⟨h1, h2⟩
theorem ok_draw (F : Dn K d_l_draw f fd) (b : Bl mg) : FnOk P w K mg base CX0 1 f fd ["_law_held_here", "_law_many"] spDraw := by
  refine F.ok sc_l_draw (fun vs H Q E h => ?_) (fun cdv A outer s H vs Q E hr h => ?_)
  · obtain ⟨h, c, k, rfl, _⟩ := h
    rfl
  · obtain ⟨h, c, k, rfl, ⟨l, ns, n, m, hh, hl, hn, hc⟩, hk0, hk1, hQ⟩ := h
    have hu := hu_of hr
    have hu64 : (A.deeper (envOfC d_l_draw.qual d_l_draw.scope s.heap.objs.size f cdv)).units + 64 < cLine := by have := hr.un; omega
    have nlh : l ≠ h := ne_of hl hh (by intro z; cases z)
    refine ⟨_, PSs.nox (pss_cons (ps_if (pt_cmpR op_gt (pe_dget hu (pv 0) pe_str (fun _ _ => rfl)) pe_int (nomark _))
         (pss_cons (ps_set (i := 2) sc_l_draw.nd rfl (.inl rfl) (pe_op op_mod (pe_dget hu (pv 0) pe_str (fun _ _ => rfl)) (pv 1)))
         (pss_cons (ps_dput hu (pv 0) pe_str (pe_op op_fdiv (pe_dget hu (pv 0) pe_str (fun _ _ => rfl)) (pv 1)) rfl)
         (pss_one (ps_ret (pv 2))))) pss_nil)
      (pss_cons (ps_set (i := 3) sc_l_draw.nd rfl (.inl rfl) (pe_dget hu (pv 0) pe_str (fun _ _ => rfl)))
      (pss_cons (ps_dput hu (pv 0) pe_str (pe_op op_add (pv 3) pe_int) rfl)
      (C8.pss_cut (ps_set (i := 4) sc_l_draw.nd rfl (.inl rfl) (pe_ifExp (pt_cmpR (op_neD hu64) (pe_dget hu (pv 0) pe_str (fun _ _ => rfl)) (pe_lst pa_nil) (nomark _))
        (pe_ix ix_list (pe_dget hu (pv 0) pe_str (fun _ _ => rfl)) (pe_op op_mod (pv 3) (pe_callB call_len_seq rfl b.len boot_len (pa_cons (pe_dget hu (pv 0) pe_str (fun _ _ => rfl)) pa_nil))) (fun _ _ => rfl)) pe_int))
      (pss_cons (ps_if (PW.pt (pw_and (pt_cmpR op_ge (pv 4) (pe_op op_pow pe_int pe_int) (nomark _)) (pw_and1 (pt_cmpR op_lt (pv 3) (pe_callB call_len_seq rfl b.len boot_len (pa_cons (pe_dget hu (pv 0) pe_str (fun _ _ => rfl)) pa_nil)) (nomark _)))))
         (pss_cons (ps_dput hu (pv 0) pe_str (pe_op op_fdiv (pe_op op_sub (pv 4) (pe_op op_pow pe_int pe_int)) (pv 1)) rfl)
         (pss_one (ps_ret (pe_op op_mod (pe_op op_sub (pv 4) (pe_op op_pow pe_int pe_int)) (pv 1))))) pss_nil)
      (pss_cons (ps_set (i := 5) sc_l_draw.nd rfl (.inl rfl) (pe_op op_mod (pe_op op_add (pe_op op_add (pe_op op_add (pe_op op_mul (pe_op op_mod (pv 4) pe_int) pe_int) (pe_op op_mul (pe_op op_mul pe_int (pv 3)) (pv 3))) (pe_op op_mul pe_int (pv 3))) pe_int) pe_int))
      (pss_cons (ps_set (i := 5) sc_l_draw.nd rfl (.inl rfl) (pe_op op_mod (pe_op op_add (pe_op op_add (pe_op op_mul (pv 5) pe_int) (pe_op op_fdiv (pv 5) pe_int)) pe_int) pe_int))
      (pss_one (ps_ret (pe_op op_mod (pe_op op_fdiv (pv 5) pe_int) (pv 1))))))))))), ?_⟩
    have cM : ∀ x y : Int, 0 < y → (0 ≤ x % y ∧ x % y < y) := fun x y hy => ⟨Int.emod_nonneg _ (by omega), Int.emod_lt_of_pos _ hy⟩
    refine ⟨_, rfl, h, _, rfl, hd_left l n m ▸ DGet.k (k := Sum.inr "left") hh, _, _, rfl, rfl, _, rfl, ?_⟩
    refine ite2 (fun h1 => ?_) (fun h1 => ?_)
    · refine ⟨_, rfl, h, _, rfl, hd_left l n m ▸ DGet.k (k := Sum.inr "left") hh, _, rfl, _, _, rfl, rfl, hk0, ?_⟩
      refine ⟨_, rfl, h, _, rfl, hd_left l n m ▸ DGet.k (k := Sum.inr "left") hh, _, rfl, _, _, rfl, rfl, ⟨hk0, hk1⟩, _, rfl, h, _, rfl, DPut.k (k := Sum.inr "left") hh (by show 3 < sizeLine; decide), ?_⟩
      refine ⟨_, rfl, hQ _ _ (cM _ _ hk0).1 (cM _ _ hk0).2 ⟨l, ns, n, m / k, ?_, ?_, hn, by omega⟩ (fun c o e ne => ?_)⟩
      · rw [upd_same, put_left]
      · rw [upd_ne nlh]; exact hl
      · rw [upd_ne ne]; exact e
    · refine ⟨_, rfl, h, _, rfl, hd_at l n m ▸ DGet.k (k := Sum.inr "at") hh, ?_⟩
      refine ⟨_, rfl, _, _, rfl, rfl, _, rfl, h, _, rfl, DPut.k (k := Sum.inr "at") hh (by show 3 < sizeLine; decide), ?_⟩
      rw [put_at]
      have hh1 : (upd H h (.dK (hd0 l (n + 1) m))) h = some (.dK (hd0 l (n + 1) m)) := upd_same
      have hl1 : (upd H h (.dK (hd0 l (n + 1) m))) l = some (.lst (ns.map V.int)) := by rw [upd_ne nlh]; exact hl
      have kp1 : Kp h H (upd H h (.dK (hd0 l (n + 1) m))) := fun c o e ne => by rw [upd_ne ne]; exact e
      refine ⟨fun σ' H' => ∃ (cell : Int), σ' = [some (.ref h), some (.int k), none, some (.int n), some (.int cell), none] ∧ H' h = some (.dK (hd0 l (n + 1) m)) ∧ H' l = some (.lst (ns.map V.int)) ∧ Kp h H H', ?_, ?_⟩
      · refine ⟨_, rfl, h, _, rfl, hd_cells l (n + 1) m ▸ DGet.k (k := Sum.inr "cells") hh1, (by show 0 ≤ sizeLine; decide), fun e he => ?_⟩
        have nhe : h ≠ e := ne_of_none hh1 he
        have nle : l ≠ e := ne_of_none hl1 he
        have hh2 : (upd (upd H h (.dK (hd0 l (n + 1) m))) e (.lst [])) h = some (.dK (hd0 l (n + 1) m)) := by rw [upd_ne nhe]; exact hh1
        have hl2 : (upd (upd H h (.dK (hd0 l (n + 1) m))) e (.lst [])) l = some (.lst (ns.map V.int)) := by rw [upd_ne nle]; exact hl1
        have kp2 : Kp h H (upd (upd H h (.dK (hd0 l (n + 1) m))) e (.lst [])) := kp1.trans (Kp.same (same_new he))
        refine ⟨.list (ns.map .int), .list [], Dp.lst (SqL.of hl2) (dpInts ns), Dp.lst (SqL.of upd_same) .nil, PySem.W.ke_shaped_ints ns, by decide, _, rfl, ?_⟩
        cases ns with
        | nil => exact iteF ⟨0, rfl, hh2, hl2, kp2⟩
        | cons z zs =>
          refine iteT ?_
          have hlen : (0 : Int) < (((z :: zs).map V.int).length : Int) := by simp
          refine ⟨_, rfl, h, _, rfl, hd_cells l (n + 1) m ▸ DGet.k (k := Sum.inr "cells") hh2, _, rfl, _, rfl, h, _, rfl, hd_cells l (n + 1) m ▸ DGet.k (k := Sum.inr "cells") hh2, l, _, rfl, Or.inl (SqL.of hl2), _, _, rfl, rfl, hlen, ?_⟩
          obtain ⟨q, hq⟩ := Int.eq_ofNat_of_zero_le (cM n _ hlen).1
          have hq2 := (cM n _ hlen).2
          rw [hq] at hq2
          have hq3 : q < (z :: zs).length := by rw [List.length_map] at hq2; omega
          refine ⟨l, _, _, .int ((z :: zs)[q]), rfl, rfl, SqL.of hl2, (by rw [hq]; exact atI_nat (by rw [List.getElem?_map, List.getElem?_eq_getElem hq3]; rfl)), ?_⟩
          exact ⟨_, rfl, hh2, hl2, kp2⟩
      · rintro σ' H' ⟨cell, rfl, hh2, hl2, kp2⟩
        have stay : ∀ m', Held (upd H' h (.dK (hd0 l (n + 1) m'))) h c := fun m' => ⟨l, ns, n + 1, m', upd_same, by rw [upd_ne nlh]; exact hl2, by omega, by omega⟩
        have stay0 : Held H' h c := ⟨l, ns, n + 1, m, hh2, hl2, by omega, by omega⟩
        have last : ∀ D : Ends, D.rt = Q → tSeq (tAsg (tOp (rI (fun _ j => 0 < j) fun i j => .int (i % j)) (tOp (rI0 fun i j => .int (i + j)) (tOp (rI0 fun i j => .int (i + j)) (tOp (rI0 fun i j => .int (i + j))
            (tOp (rI CMul fun i j => .int (i * j)) (tOp (rI (fun _ j => 0 < j) fun i j => .int (i % j)) (tVar 4) (tC (.int 2147483587))) (tC (.int 40692))) (tOp (rI CMul fun i j => .int (i * j)) (tOp (rI CMul fun i j => .int (i * j)) (tC (.int 7907)) (tVar 3)) (tVar 3)))
            (tOp (rI CMul fun i j => .int (i * j)) (tC (.int 104729)) (tVar 3))) (tC (.int 17))) (tC (.int 2147483629))) (gName 5))
          (tSeq (tAsg (tOp (rI (fun _ j => 0 < j) fun i j => .int (i % j)) (tOp (rI0 fun i j => .int (i + j)) (tOp (rI0 fun i j => .int (i + j)) (tOp (rI CMul fun i j => .int (i * j)) (tVar 5) (tC (.int 48271))) (tOp (rI CDiv fun i j => .int (i / j)) (tVar 5) (tC (.int 127)))) (tC (.int 31))) (tC (.int 2147483647))) (gName 5))
          (tRet (tOp (rI (fun _ j => 0 < j) fun i j => .int (i % j)) (tOp (rI CDiv fun i j => .int (i / j)) (tVar 5) (tC (.int 89))) (tVar 1)))) D [some (.ref h), some (.int k), none, some (.int n), some (.int cell), none] H' := by
          intro D hD
          refine ⟨_, rfl, _, _, rfl, rfl, (by decide : (0 : Int) < 2147483587), _, _, rfl, rfl, cb_r (by decide) (by decide), _, rfl, _, _, rfl, rfl, cb_l (by decide) (by decide), _, rfl, _, _, rfl, rfl, cb_r (by omega) (by omega), _, _, rfl, rfl, ?_⟩
          refine ⟨_, rfl, _, _, rfl, rfl, cb_l (by decide) (by decide), _, _, rfl, rfl, _, _, rfl, rfl, _, _, rfl, rfl, (by decide : (0 : Int) < 2147483629), ?_⟩
          refine ⟨_, rfl, _, _, rfl, rfl, cb_r (by decide) (by decide), _, rfl, _, _, rfl, rfl, ⟨by decide, by decide⟩, _, _, rfl, rfl, _, _, rfl, rfl, _, _, rfl, rfl, (by decide : (0 : Int) < 2147483647), ?_⟩
          refine ⟨_, rfl, _, _, rfl, rfl, ⟨by decide, by decide⟩, _, rfl, _, _, rfl, rfl, hk0, ?_⟩
          rw [hD]
          exact hQ _ _ (cM _ _ hk0).1 (cM _ _ hk0).2 stay0 kp2
        refine ⟨_, rfl, _, _, rfl, rfl, ⟨by decide, by decide, by decide⟩, _, _, rfl, rfl, _, rfl, ?_⟩
        refine ite2 (fun g1 => ?_) (fun g1 => iteF (last _ rfl))
        refine ⟨_, rfl, _, rfl, h, _, rfl, hd_cells l (n + 1) m ▸ DGet.k (k := Sum.inr "cells") hh2, l, _, rfl, Or.inl (SqL.of hl2), _, _, rfl, rfl, _, rfl, ?_⟩
        refine ite2 (fun g2 => ?_) (fun g2 => last _ rfl)
        refine ⟨_, rfl, _, _, rfl, rfl, ⟨by decide, by decide, by decide⟩, _, _, rfl, rfl, _, rfl, _, _, rfl, rfl, ⟨hk0, hk1⟩, _, rfl, h, _, rfl, DPut.k (k := Sum.inr "left") hh2 (by show 3 < sizeLine; decide), ?_⟩
        refine ⟨_, rfl, _, _, rfl, rfl, ⟨by decide, by decide, by decide⟩, _, _, rfl, rfl, _, rfl, _, _, rfl, rfl, hk0, ?_⟩
        rw [put_left]
        refine hQ _ _ (cM _ _ hk0).1 (cM _ _ hk0).2 (stay _) (kp2.trans fun c o e ne => ?_)
        rw [upd_ne ne]
        exact e
end
end K02
set_option Elab.async false
set_option linter.all false
set_option maxRecDepth 100000
set_option maxHeartbeats 4000000
namespace K02
open PySem PySem.Spec PyProof.Rows L2
open C8 (Cal Mak Met pe_c pe_mk pe_mt pe_mt0)
section
variable {P : Program} {w : World} {K : PySem.W.Frag} {mg : Str → Option Value} {base : Heap} {f C : Addr} {fd : FuncData}
abbrev CalD (P : Program) (w : World) (K : PySem.W.Frag) (mg : Str → Option Value) (base : Heap) : Prop := Cal P w K mg base 1 "_law_draw" spDraw []
theorem six_le : ∀ k, k ≤ 6 → ((1000000 : Int) ^ k < 10 ^ 30) → k ≤ 4 := by decide
theorem six_pos : ∀ k, k ≤ 6 → (0 : Int) < 1000000 ^ k := by decide
theorem six_lt : ∀ k, k ≤ 6 → ((1000000 : Int) ^ k) < 2 ^ 128 := by decide
def spGreat : Sp := fun vs H Q _ => ∃ (h : Addr) (c : Nat) (k : Int), vs = [.ref h, .int k] ∧ Held H h (c + 10) ∧ 0 < k ∧ k ≤ 10 ^ 30 ∧
  ∀ r H', 0 ≤ r → r < k → Held H' h c → Kp h H H' → Q (.int r) H'
theorem ok_great (F : Dn K d_l_great f fd) (cD : CalD P w K mg base) : FnOk P w K mg base CX0 2 f fd ["_law_held_here", "_law_many"] spGreat := by
  refine F.ok sc_l_great (fun vs H Q E h => ?_) (fun cdv A outer s H vs Q E hr h => ?_)
  · obtain ⟨h, c, k, rfl, _⟩ := h
    rfl
  · obtain ⟨h, c, k, rfl, held, hk0, hk1, hQ⟩ := h
    refine ⟨_, PSs.nox (pss_cons (ps_asg (pe_tup (pa_cons pe_int (pa_cons pe_int pa_nil))) (pg_tup rfl (pgs_cons (pg_name (i := 2) sc_l_great.nd rfl (.inl rfl)) (pgs_cons (pg_name (i := 3) sc_l_great.nd rfl (.inl rfl)) pgs_nil))))
      (pss_cons (ps_while PassesOwn.never (pt_cmpR op_lt (pv 3) (pv 1) (nomark _)) (pss_one (ps_par (i := 2) (j := 3) rfl sc_l_great.nd rfl rfl (by decide) rfl rfl
        (pa_cons (pe_op op_add (pe_op op_mul (pv 2) (pe_op op_pow pe_int pe_int)) (pe_c cD hr (by decide) rfl (pa_cons (pv 0) (pa_cons (pe_op op_pow pe_int pe_int) pa_nil)))) (pa_cons (pe_op op_mul (pv 3) (pe_op op_pow pe_int pe_int)) pa_nil)) rfl)))
      (pss_one (ps_ret (pe_op op_mod (pv 2) (pv 1)))))), ?_⟩
    refine ⟨(by show 2 ≤ sizeLine; decide), fun u hu => ⟨u, _, rfl, SqT.of upd_same, rfl, _, _, rfl, _, _, rfl, rfl, ?_⟩⟩
    have su := same_new (o := .tup [.int 0, .int 1]) hu
    refine while_by (fun σ H2 => ∃ (x : Int) (i : Nat), σ = [some (.ref h), some (.int k), some (.int x), some (.int (1000000 ^ i))] ∧ i ≤ 6 ∧ Held H2 h (c + (10 - i)) ∧ Kp h H H2)
      (fun σ _ => match σ with | [_, _, _, some (.int c)] => (10 ^ 36 - c).toNat | _ => 0) ⟨0, 0, rfl, by decide, held.same su, Kp.same su⟩ ?_ ?_
    · rintro σ H2 ⟨x, i, rfl, hi, held2, kp2⟩
      refine ⟨_, rfl, _, rfl, _, _, rfl, rfl, _, rfl, ?_⟩
      refine ite2 (fun g => ?_) (fun g => ?_)
      · have g' : (1000000 : Int) ^ i < k := of_decide_eq_true g
        have i4 : i ≤ 4 := six_le i hi (by omega)
        refine ⟨_, rfl, _, _, rfl, rfl, ⟨by decide, by decide, by decide⟩, _, _, rfl, rfl, cb_r (by decide) (by decide), ?_⟩
        refine ⟨_, rfl, _, _, rfl, rfl, ⟨by decide, by decide, by decide⟩, h, c + (10 - (i + 1)), _, rfl, held2.weak (by omega), by decide, by decide, fun r H3 r0 r1 held3 kp3 => ?_⟩
        refine ⟨_, _, rfl, rfl, ?_⟩
        refine ⟨_, rfl, _, _, rfl, rfl, ⟨by decide, by decide, by decide⟩, _, _, rfl, rfl, cb_r (by decide) (by decide), _, _, rfl, ?_⟩
        refine ⟨⟨_, i + 1, rfl, by omega, held3, kp2.trans kp3⟩, ?_⟩
        show (10 ^ 36 - (1000000 : Int) ^ i * 10 ^ 6).toNat < (10 ^ 36 - (1000000 : Int) ^ i).toNat
        have := six_pos i hi
        omega
      · exact ⟨_, rfl, _, rfl, _, _, rfl, rfl, hk0, hQ _ _ (Int.emod_nonneg _ (by omega)) (Int.emod_lt_of_pos _ hk0) (held2.weak (by omega)) kp2⟩
    · rintro σ H2 Q1 Q2 hm ⟨v, hv, v2, hv2, i, j, e1, e2, k, hk, q⟩
      exact ⟨v, hv, v2, hv2, i, j, e1, e2, k, hk, hm _ _ q⟩
def tupP (q : Int × Int) : HO := .tup [.int q.1, .int q.2]
def spLow : Sp := fun vs H Q _ => ∃ (t b : Int) (n : Nat), vs = [.int t, .int b] ∧ b ≠ 0 ∧ b.natAbs < 2 ^ n ∧ 0 < n ∧ n ≤ 9000 ∧ ∀ r, H r = none → Q (.ref r) (upd H r (tupP (KM.low t b)))
theorem ok_low (F : Dn K d_l_low f fd) (b : Bl mg) : FnOk P w K mg base CX0 1 f fd ["_law_top", "_law_bottom"] spLow := by
  refine F.ok sc_l_low (fun vs H Q E h => ?_) (fun cdv A outer s H vs Q E hr h => ?_)
  · obtain ⟨t, b, n, rfl, _⟩ := h
    rfl
  · obtain ⟨x, y, n, rfl, hy, hn, hn0, hn9, hQ⟩ := h
    refine ⟨_, PSs.nox (pss_cons (ps_par (i := 2) (j := 3) rfl sc_l_low.nd rfl rfl (by decide) rfl rfl (pa_cons (pe_callB call_abs rfl b.abs boot_abs (pa_cons (pv 0) pa_nil)) (pa_cons (pe_callB call_abs rfl b.abs boot_abs (pa_cons (pv 1) pa_nil)) pa_nil)) rfl)
      (pss_cons (ps_while PassesOwn.never (pt_cmpR op_gt (pv 3) pe_int (nomark _)) (pss_one (ps_par (i := 2) (j := 3) rfl sc_l_low.nd rfl rfl (by decide) rfl rfl (pa_cons (pv 3) (pa_cons (pe_op op_mod (pv 2) (pv 3)) pa_nil)) rfl)))
      (C8.pss_cut (ps_if (pt_cmpR op_lt (pv 1) pe_int (nomark _)) (pss_one (ps_set (i := 2) sc_l_low.nd rfl (.inl rfl) (pe_op op_sub pe_int (pv 2)))) pss_nil)
      (pss_one (ps_ret (pe_tup (pa_cons (pe_op op_fdW (pv 0) (pv 2)) (pa_cons (pe_op op_fdW (pv 1) (pv 2)) pa_nil)))))))), ?_⟩
    refine ⟨_, rfl, _, rfl, _, rfl, _, rfl, _, _, rfl, while_by (fun σ H2 => H2 = H ∧ ∃ a c : Int, σ = [some (.int x), some (.int y), some (.int a), some (.int c)] ∧ 0 ≤ a ∧ 0 ≤ c ∧ Int.gcd a c = Int.gcd x y)
      (fun σ _ => match σ with | [_, _, _, some (.int c)] => c.toNat | _ => 0) ⟨rfl, _, _, rfl, ?_, ?_, ?_⟩ ?_ ?_⟩
    · split <;> omega
    · split <;> omega
    · rw [abs_eq, abs_eq]
      rfl
    · rintro σ H2 ⟨rfl, a, c, rfl, ha, hc, hg⟩
      refine ⟨_, rfl, _, _, rfl, rfl, _, rfl, ?_⟩
      refine ite2 (fun g => ?_) (fun g => ?_)
      · have hp : 0 < c := of_decide_eq_true g
        refine ⟨_, rfl, _, rfl, _, rfl, _, _, rfl, rfl, hp, _, _, rfl, ⟨rfl, _, _, rfl, hc, Int.emod_nonneg _ (by omega), ?_⟩, ?_⟩
        · rw [KM.gcd_turn ha hp, hg]
        · show (a % c).toNat < c.toNat
          have h1 := Int.emod_nonneg a (show c ≠ 0 by omega)
          have h2 := Int.emod_lt_of_pos a hp
          omega
      · have h0 : c = 0 := by
          have : ¬ 0 < c := fun z => g (decide_eq_true z)
          omega
        subst h0
        have e : Int.gcd x y = a.natAbs := by rw [← hg]; simp
        refine ⟨fun σ' H' => H' = H2 ∧ ∃ v, σ' = [some (.int x), some (.int y), some (.int (KM.sg x y)), v], ?_, ?_⟩
        · refine ⟨_, rfl, _, _, rfl, rfl, _, rfl, ?_⟩
          refine ite2 (fun g1 => ?_) (fun g1 => ?_)
          · refine ⟨_, rfl, _, _, rfl, rfl, rfl, some (.int 0), ?_⟩
            have e2 : KM.sg x y = 0 - a := by unfold KM.sg; rw [if_pos (of_decide_eq_true g1), e]; omega
            rw [e2]
            rfl
          · refine ⟨rfl, some (.int 0), ?_⟩
            have e2 : KM.sg x y = a := by unfold KM.sg; rw [if_neg (fun z => g1 (decide_eq_true z)), e]; omega
            rw [e2]
        · rintro σ' H' ⟨rfl, v, rfl⟩
          have hs9 : (KM.sg x y).natAbs.log2 < 9000 := log_lt (Nat.lt_of_le_of_lt (KM.sg_le hy) hn) hn0 hn9
          refine ⟨_, rfl, _, rfl, _, _, rfl, rfl, ⟨KM.sg_ne hy, hs9⟩, _, rfl, _, rfl, _, _, rfl, rfl, ⟨KM.sg_ne hy, hs9⟩, (by show 2 ≤ sizeLine; decide), fun r hr => hQ r hr⟩
    · rintro σ H2 Q1 Q2 hm ⟨v, hv, i, j, e1, e2, k, hk, q⟩
      exact ⟨v, hv, i, j, e1, e2, k, hk, hm _ _ q⟩
abbrev CalL (P : Program) (w : World) (K : PySem.W.Frag) (mg : Str → Option Value) (base : Heap) : Prop := Cal P w K mg base 1 "_law_low" spLow []
def spAdd : Sp := fun vs H Q _ => ∃ (p q : Addr) (a b : Int × Int) (n : Nat), vs = [.ref p, .ref q] ∧ H p = some (tupP a) ∧ H q = some (tupP b) ∧ two n a b ∧
  ∀ r, H r = none → Q (.ref r) (upd H r (tupP (KM.low (a.1 * b.2 + b.1 * a.2) (a.2 * b.2))))
theorem at0 {a b : V} : atI [a, b] 0 = some a := rfl
theorem at1 {a b : V} : atI [a, b] 1 = some b := rfl
theorem ok_add (F : Dn K d_l_add f fd) (cL : CalL P w K mg base) : FnOk P w K mg base CX0 2 f fd ["_law_one", "_law_other"] spAdd := by
  refine F.ok sc_l_add (fun vs H Q E h => ?_) (fun cdv A outer s H vs Q E hr h => ?_)
  · obtain ⟨p, q, a, b, n, rfl, _⟩ := h
    rfl
  · obtain ⟨p, q, a, b, n, rfl, hp, hq, ⟨ba, bb, hn0, hn9⟩, hQ⟩ := h
    refine ⟨_, PSs.nox (pss_one (ps_ret (pe_c cL hr (by decide) rfl (pa_cons (pe_op op_add (pe_op op_mulW (pe_ix ix_tup (pv 0) pe_int (fun _ _ => rfl)) (pe_ix ix_tup (pv 1) pe_int (fun _ _ => rfl))) (pe_op op_mulW (pe_ix ix_tup (pv 1) pe_int (fun _ _ => rfl)) (pe_ix ix_tup (pv 0) pe_int (fun _ _ => rfl))))
      (pa_cons (pe_op op_mulW (pe_ix ix_tup (pv 0) pe_int (fun _ _ => rfl)) (pe_ix ix_tup (pv 1) pe_int (fun _ _ => rfl))) pa_nil))))), ?_⟩
    refine ⟨_, rfl, p, _, _, _, rfl, rfl, SqT.of hp, at0, _, rfl, q, _, _, _, rfl, rfl, SqT.of hq, at1, _, _, rfl, rfl, wide_mul ba.1 bb.2.2 hn0 hn0 (by omega), ?_⟩
    refine ⟨_, rfl, q, _, _, _, rfl, rfl, SqT.of hq, at0, _, rfl, p, _, _, _, rfl, rfl, SqT.of hp, at1, _, _, rfl, rfl, wide_mul bb.1 ba.2.2 hn0 hn0 (by omega), _, _, rfl, rfl, ?_⟩
    refine ⟨_, rfl, p, _, _, _, rfl, rfl, SqT.of hp, at1, _, rfl, q, _, _, _, rfl, rfl, SqT.of hq, at1, _, _, rfl, rfl, wide_mul ba.2.2 bb.2.2 hn0 hn0 (by omega), ?_⟩
    exact ⟨_, _, n + n, rfl, mul_pos_ne ba.2.1 bb.2.1, wide_lt ba.2.2 bb.2.2, by omega, by omega, hQ⟩
end
end K02
set_option Elab.async false
set_option linter.all false
set_option maxRecDepth 100000
set_option maxHeartbeats 4000000
namespace K02
open PySem PySem.Spec PyProof.Rows L2
open C8 (Cal Mak Met pe_c pe_mk pe_mt pe_mt0)
/-! ### a method that may raise, what it lets out wished for at the caller's slots -/
def tMethAt (C : Addr) (m : Str) (sp : Sp) (E : L2.St → XK) (ta : TE) (t : TA) : TE := fun σ H Q => ta σ H fun x H1 => ∃ a dx fs, x = .ref a ∧ H1 a = some (.ins C dx fs) ∧ fs.lookup m = none ∧ t σ H1 fun vs H2 => sp (x :: vs) H2 Q (E σ)
theorem pe_methAt {X : Cx} {CX : CXT} {k : Nat} {f C : Addr} {fd : FuncData} {ps : List Str} {sp : Sp} {E : L2.St → XK} {m : Str} {pos apos : Pos} {e o : Expr} {es : List Expr} {ta : TE} {t : TA} {pl : Sem Bool}
    (ho : PE X o ta) (c : Cls X.K C) (hm : Meth X.K C m f) (F : FnOk X.prog X.w X.K X.mg X.base CX k f fd ps sp) (hr : Room k X.A) (hb : Binds X.K fd ps []) (hx : ∀ σ, PassesAt CX X σ (E σ)) (ha : PA X (e :: es) t)
    (h1 : starEach (e :: es) X.env = (false, eval e X.env) :: starEach es X.env := by rfl) (h2 : (backTo pos (starEach es X.env)).any (·.1) = false := by rfl)
    (h3 : eval (.Call (.Attribute o m apos) (e :: es) [] pos) X.env = (do
      let ov ← eval o X.env
      standAt apos.atName
      let (f, first) ← holding [ov] (getMethod ov m pl)
      callWith pos f first (backTo pos (starEach (e :: es) X.env)) (backToKw pos (keywordEach [] X.env))) := by rfl) :
    PE X (.Call (.Attribute o m apos) (e :: es) [] pos) (tMethAt C m sp E ta t) := by
  refine ⟨fun pins s σ H Q I h => PySem.W.methodCall_KW (pl := pl) (thn (ho.run pins s σ H _ I h) fun u s1 z => ?_) h3⟩
  obtain ⟨x, H1, I1, rx, a, dx, fs, ex, ea, l, q⟩ := z
  subst ex
  obtain rfl : u = Value.ref a := rx
  refine getmeth_ok I1 ea c hm l (PySem.W.callWith_K (first := [.ref a]) (h₀ := X.base) I.ok.mod.kin hm.kp (thn (ha.run pos pins s1 σ H1 _ I1 q) fun us s2 z => ?_) h1 h2)
  obtain ⟨vs, H2, I2, r, q2⟩ := z
  exact ⟨I2.kIn, run_fnS (us := .ref a :: us) (vs := .ref a :: vs) F hr hb (hx σ) I2 (.cons rfl r) q2⟩
abbrev zdT : List Value := [.type "ZeroDivisionError", .type "ArithmeticError", .type "Exception", .type "BaseException", .type "object"]
/-- what is known of Nought -/
structure Ng (K : PySem.W.Frag) (mg : Str → Option Value) (N fN : Addr) : Prop where
  gx : GX.Gx K N zdT "ZeroDivisionError.__new__"
  iC : PySem.W.findIn K (.ref N) "__init__" = some (some (.ref fN))
  tI : PySem.W.typeIn K (.ref fN) = some (.type "function")
  vV : PySem.W.findCls K (.type "ZeroDivisionError") (.type "type") "__init__" = some (.val (.builtin "ZeroDivisionError.__init__"))
  no : PySem.W.findIn K (.ref N) "top" = some none
  g : mg "Nought" = some (.ref N)
  zb : mg "ZeroDivisionError" = none
  xf : XfC K N
  te : PySem.W.exmOne K (.ref N) (.ref N) = some true
theorem typ_zd : typeOf (.type "ZeroDivisionError") = pure (.type "type") := by kernel_rfl
section
variable {P : Program} {w : World} {K : PySem.W.Frag} {mg : Str → Option Value} {base : Heap} {f C N fN : Addr} {fd fdN : FuncData}
def spNI (N : Addr) : Sp := fun vs H Q _ => ∃ (a : Addr) (v : V), vs = [.ref a, v] ∧ H a = some (exo a N none) ∧ ∀ dx, H dx = none → dx ≠ a → Q .non (upd (upd H dx (exd dx [("top", v)])) a (exo a N (some dx)))
theorem ok_NI (F : Dn K d_Nought_init f fd) (T : Ng K mg N fN) : FnOk P w K mg base CX0 1 f fd ["self", "top"] (spNI N) := by
  refine F.ok sc_Nought_init (fun vs H Q E h => ?_) (fun cdv A outer s H vs Q E hr h => ?_)
  · obtain ⟨a, v, rfl, _⟩ := h
    rfl
  · obtain ⟨a, v, rfl, ha, hQ⟩ := h
    refine ⟨_, PSs.nox (pss_cons (ps_expr (GX.pe_bi PySem.F.excBase_ZeroDivisionError rfl T.zb PyProof.Rows.Boot.«ZeroDivisionError» typ_zd T.vV (by decide +kernel) (by decide +kernel) (pa_cons (pv 0) (pa_cons pe_str pa_nil))))
      (pss_one (GX.ps_pf PySem.F.store_ZeroDivisionError (nid := "ZeroDivisionError.__new__") (pv 0) (pv 1)))), ?_⟩
    refine ⟨_, rfl, a, N, _, rfl, by show 1 ≤ 1000; decide, T.gx, ha, ?_⟩
    exact ⟨_, rfl, _, rfl, a, N, rfl, T.gx, T.no, ha, hQ⟩
/-- __init__ with a bottom of nought -/
def spInitX (C N : Addr) : Sp := fun vs H _ E => ∃ (p dx : Addr) (t : Int), vs = [.ref p, .int t, .int 0] ∧ H p = some (.ins C dx []) ∧
  ∀ d H', Same H H' → H d = none → H' d = some (.xd [("top", .int t)]) → E (.ref N) (some d) H'
theorem ok_initX (F : Dn K d_Share_init f fd) (cW : CalW P w K mg base) (T : Ng K mg N fN) (FN : FnOk P w K mg base CX0 1 fN fdN ["self", "top"] (spNI N)) (bN : Binds K fdN ["self", "top"] []) : FnOk P w K mg base (L2.CX P w) 3 f fd ["self", "top", "bottom"] (spInitX C N) := by
  refine F.ok sc_Share_init (fun vs H Q E h => ?_) (fun cdv A outer s H vs Q E hr h => ?_)
  · obtain ⟨p, dx, t, rfl, _⟩ := h
    rfl
  · obtain ⟨p, dx, t, rfl, hp, hE⟩ := h
    refine ⟨_, pss_cons (ps_for (passes_of rfl) rfl (pi_tup (pe_tup (pa_cons (pv 1) (pa_cons (pv 2) pa_nil)))) (pg_name (i := 3) sc_Share_init.nd rfl (.inl rfl))
        (pss_one (ps_if (pt_not (pt_val (pe_c cW hr (by decide) rfl (pa_cons (pv 3) pa_nil)))) pss_never pss_nil)))
      (pss_cons (ps_if (pt_cmpR op_eq (pv 2) pe_int (nomark _)) (pss_one (ps_raise rfl (takes_of rfl rfl rfl rfl) (GX.pmk_gx PySem.F.excBase_ZeroDivisionError T.gx T.iC T.tI FN hr bN .nil pass0 rfl T.g (pa_cons (pv 1) pa_nil)))) pss_nil) pss_never), ?_⟩
    refine ⟨_, rfl, _, rfl, by show 2 ≤ sizeLine; decide, fun u hu => ?_⟩
    have npu : p ≠ u := ne_of_none hp hu
    refine ⟨u, rfl, ⟨_, SqT.of upd_same⟩, for_tup (K := K) (xs := [.int t, .int 0]) (fun i σ H2 => H2 = upd H u (.tup [.int t, .int 0]) ∧ ∃ v, σ = [some (.ref p), some (.int t), some (.int 0), v, none])
      ⟨rfl, none, rfl⟩ (fun i σ H2 _ h => by rw [h.1]; exact SqT.of upd_same) ?_ ?_⟩
    · rintro i y σ H2 hi ⟨rfl, v, rfl⟩
      have hy : ∃ n : Int, y = .int n := by
        match i, hi with
        | 0, e => exact ⟨t, (Option.some.inj e).symm⟩
        | 1, e => exact ⟨0, (Option.some.inj e).symm⟩
      obtain ⟨n, rfl⟩ := hy
      refine ⟨_, rfl, n, rfl, true, rfl, ?_⟩
      refine iteF ?_
      exact ⟨rfl, _, rfl⟩
    · rintro σ H2 ⟨rfl, v, rfl⟩
      refine ⟨_, rfl, rfl, _, rfl, ?_⟩
      refine iteT ?_
      have su := same_new (o := .tup [.int t, .int 0]) hu
      refine ⟨_, rfl, by show 1 ≤ 1000; decide, fun a ha => ⟨a, _, rfl, upd_same, fun d hd ne => ⟨rfl, d, _, upd_same, (by rw [upd_ne ne]; exact upd_same), ?_, ?_⟩⟩⟩
      · rw [upd_ne ne] at hd
        exact hd
      · have hd0 : upd H u (.tup [.int t, .int 0]) d = none := by
          rw [upd_ne ne] at hd
          exact hd
        refine hE d _ (fun b o e => ?_) (su.free hd0) upd_same
        have e1 := su b o e
        have b1 : b ≠ d := ne_of_none e1 hd0
        have b2 : b ≠ a := ne_of_none e1 ha
        rw [upd_ne b1, del_ne b2, upd_ne b2, upd_ne b1, upd_ne b2]
        exact e1
def spOverX (C N : Addr) : Sp := fun vs H _ E => ∃ (p : Addr) (a : Int × Int) (n : Nat), vs = [.ref p, .int 0] ∧ Sh C H p a ∧ Bd n a ∧ 0 < n ∧ n ≤ 4000 ∧
  ∀ d H', Same H H' → H d = none → H' d = some (.xd [("top", .int a.1)]) → E (.ref N) (some d) H'
theorem ok_overX {fI : Addr} {fdI : FuncData} (F : Dn K d_Share_over f fd) (M : Mk K C fI) (FI : FnOk P w K mg base (L2.CX P w) 3 fI fdI ["self", "top", "bottom"] (spInitX C N)) (bI : Binds K fdI ["self", "top", "bottom"] []) (T : Cl K mg C) :
    FnOk P w K mg base (L2.CX P w) 5 f fd ["self", "many"] (spOverX C N) := by
  refine F.ok sc_Share_over (fun vs H Q E h => ?_) (fun cdv A outer s H vs Q E hr h => ?_)
  · obtain ⟨p, a, n, rfl, _⟩ := h
    rfl
  · obtain ⟨p, a, n, rfl, ⟨dp, hp⟩, ba, hn0, hn9, hE⟩ := h
    refine ⟨_, pss_one (ps_ret (pe_make M FI hr rfl T.g bI .nil (passes_call (takes_of rfl rfl rfl rfl) (fun cls d σ H h => h)) (pa_cons (pe_fld (pv 0) rfl) (pa_cons (pe_op op_mulW (pe_fld (pv 0) rfl) (pv 1)) pa_nil)))), ?_⟩
    refine ⟨_, rfl, p, C, dp, _, _, rfl, hp, T.cl, T.nt, shF_top a, ?_⟩
    refine ⟨_, rfl, p, C, dp, _, _, rfl, hp, T.cl, T.nb, shF_bot a, _, rfl, _, _, rfl, rfl, wide_mul (b := 1) ba.2.2 (by decide) hn0 (by decide) (by omega), ?_⟩
    intro x dx nx nd ne
    have e0 : a.2 * 0 = 0 := Int.mul_zero _
    refine ⟨x, dx, a.1, by simp, upd_same, fun d H' sm fr hd => ?_⟩
    have sm0 : Same H (upd (upd H dx (.own x)) x (.ins C dx [])) := fun b o e => by
      rw [upd_ne (ne_of_none e nx), upd_ne (ne_of_none e nd)]
      exact e
    exact hE d H' (sm0.trans sm) (sm0.free fr) hd
end
end K02
set_option Elab.async false
set_option linter.all false
set_option maxRecDepth 100000
set_option maxHeartbeats 4000000
namespace K02
open PySem PySem.Spec PyProof.Rows L2
open C8 (Cal Mak Met pe_c pe_mk pe_mt pe_mt0)
/-- what isinstance asks of the class -/
structure IsC (K : PySem.W.Frag) (C : Addr) : Prop where
  ha : PySem.W.findIn K (.ref C) "__class__" = some (some (.builtin "object.__class__"))
  hn : PySem.W.specialIn K (.builtin "object.__class__") "__get__" = some (some (.builtin "getset_descriptor.__get__"))
  htk : PySem.W.takesIn K (.builtin "object.__class__") = some true
  hm : PySem.W.mroIn K C (.type "object") = some true
  kit : PySem.W.kitOne K (.ref C) (.ref C) = some true
section
variable {P : Program} {w : World} {K : PySem.W.Frag} {mg : Str → Option Value} {base : Heap} {f C N fN : Addr} {fd fdN : FuncData}
def spPair (C : Addr) : Sp := fun vs H Q _ => ∃ (p : Addr) (q : Int × Int), vs = [.ref p] ∧ Sh C H p q ∧ ∀ r H', Same H H' → H r = none → H' r = some (tupP q) → Q (.ref r) H'
theorem ok_pair (F : Dn K d_l_pair f fd) (b : Bl mg) (T : Cl K mg C) (S : IsC K C) : FnOk P w K mg base CX0 1 f fd ["_law_share"] (spPair C) := by
  refine F.ok sc_l_pair (fun vs H Q E h => ?_) (fun cdv A outer s H vs Q E hr h => ?_)
  · obtain ⟨p, q, rfl, _⟩ := h
    rfl
  · obtain ⟨p, q, rfl, ⟨dp, hp⟩, hQ⟩ := h
    refine ⟨_, PSs.nox (pss_cons (ps_if (pt_not (pt_val (pe_callB call_isi rfl b.isi boot_isinstance (pa_cons (pv 0) (pa_cons (pe_glob (v := .ref C) rfl T.g rfl) pa_nil))))) pss_never pss_nil)
      (pss_cons (ps_for PassesOwn.never rfl (pi_tup (pe_tup (pa_cons (pe_fld (pv 0) rfl) (pa_cons (pe_fld (pv 0) rfl) pa_nil)))) (pg_name (i := 1) sc_l_pair.nd rfl (.inl rfl))
        (pss_one (ps_if (PW.pt (pw_or (pt_not (pt_val (pe_callB call_isi rfl b.isi boot_isinstance (pa_cons (pv 1) (pa_cons (pe_bltn (v := .ty "int") rfl b.int boot_int rfl) pa_nil)))))
          (pw_or1 (pt_val (pe_callB call_isi rfl b.isi boot_isinstance (pa_cons (pv 1) (pa_cons (pe_bltn (v := .ty "bool") rfl b.bool boot_bool rfl) pa_nil))))))) pss_never pss_nil)))
      (pss_one (ps_ret (pe_tup (pa_cons (pe_fld (pv 0) rfl) (pa_cons (pe_fld (pv 0) rfl) pa_nil))))))), ?_⟩
    refine ⟨_, rfl, _, _, _, _, true, rfl, ClsV.own C, TyX.base (TyOf.ins hp T.cl S.ha S.hn S.htk S.hm), S.kit, true, rfl, ?_⟩
    refine iteF ?_
    refine ⟨_, rfl, p, C, dp, _, _, rfl, hp, T.cl, T.nt, shF_top q, _, rfl, p, C, dp, _, _, rfl, hp, T.cl, T.nb, shF_bot q, by show 2 ≤ sizeLine; decide, fun u hu => ?_⟩
    have npu : p ≠ u := ne_of_none hp hu
    refine ⟨u, rfl, ⟨_, SqT.of upd_same⟩, for_tup (K := K) (xs := [.int q.1, .int q.2]) (fun i σ H2 => H2 = upd H u (.tup [.int q.1, .int q.2]) ∧ ∃ v, σ = [some (.ref p), v])
      ⟨rfl, none, rfl⟩ (fun i σ H2 _ h => by rw [h.1]; exact SqT.of upd_same) ?_ ?_⟩
    · rintro i y σ H2 hi ⟨rfl, v, rfl⟩
      have hy : ∃ n : Int, y = .int n := by
        match i, hi with
        | 0, e => exact ⟨_, (Option.some.inj e).symm⟩
        | 1, e => exact ⟨_, (Option.some.inj e).symm⟩
      obtain ⟨n, rfl⟩ := hy
      refine ⟨_, rfl, _, _, _, _, true, rfl, ClsV.ty _, TyX.base (TyOf.int n), kit_ty (by decide +kernel), true, rfl, ?_⟩
      refine iteF ?_
      refine ⟨_, rfl, _, _, _, _, false, rfl, ClsV.ty _, TyX.base (TyOf.int n), kit_ty (by decide +kernel), false, rfl, ?_⟩
      exact iteF ⟨rfl, _, rfl⟩
    · rintro σ H2 ⟨rfl, v, rfl⟩
      have hp2 : (upd H u (.tup [.int q.1, .int q.2])) p = some (.ins C dp (shF q)) := by rw [upd_ne npu]; exact hp
      refine ⟨_, rfl, p, C, dp, _, _, rfl, hp2, T.cl, T.nt, shF_top q, _, rfl, p, C, dp, _, _, rfl, hp2, T.cl, T.nb, shF_bot q, by show 2 ≤ sizeLine; decide, fun r hr => ?_⟩
      exact hQ r _ ((same_new hu).trans (same_new hr)) ((same_new hu).free hr) upd_same
abbrev CalGr (P : Program) (w : World) (K : PySem.W.Frag) (mg : Str → Option Value) (base : Heap) : Prop := Cal P w K mg base 2 "_law_great" spGreat []
def spNumber : Sp := fun vs H Q _ => ∃ (h : Addr) (c : Nat), vs = [.ref h] ∧ Held H h (c + 20) ∧ ∀ r H', r.natAbs < 2 ^ 100 → Held H' h c → Kp h H H' → Q (.int r) H'
theorem at3 {a b c : V} {r : Int} (h0 : 0 ≤ r) (h1 : r < 3) : ∃ v, atI [a, b, c] r = some v ∧ (v = a ∨ v = b ∨ v = c) := by
  rcases (show r = 0 ∨ r = 1 ∨ r = 2 by omega) with rfl | rfl | rfl
  · exact ⟨a, rfl, .inl rfl⟩
  · exact ⟨b, rfl, .inr (.inl rfl)⟩
  · exact ⟨c, rfl, .inr (.inr rfl)⟩
theorem ten30 : (10 : Int) ^ 30 < 2 ^ 100 := by decide
theorem ok_number (F : Dn K d_l_number f fd) (cD : CalD P w K mg base) (cG : CalGr P w K mg base) : FnOk P w K mg base CX0 3 f fd ["_law_held_here"] spNumber := by
  refine F.ok sc_l_number (fun vs H Q E h => ?_) (fun cdv A outer s H vs Q E hr h => ?_)
  · obtain ⟨h, c, rfl, _⟩ := h
    rfl
  · obtain ⟨h, c, rfl, held, hQ⟩ := h
    refine ⟨_, PSs.nox (pss_cons (ps_set (i := 1) sc_l_number.nd rfl (.inl rfl) (pe_ix ix_list (pe_lst (pa_cons (pe_c cD hr (by decide) rfl (pa_cons (pv 0) (pa_cons pe_int pa_nil)))
        (pa_cons (pe_c cD hr (by decide) rfl (pa_cons (pv 0) (pa_cons (pe_op op_pow pe_int pe_int) pa_nil))) (pa_cons (pe_c cG hr (by decide) rfl (pa_cons (pv 0) (pa_cons (pe_op op_pow pe_int pe_int) pa_nil))) pa_nil))))
        (pe_c cD hr (by decide) rfl (pa_cons (pv 0) (pa_cons pe_int pa_nil))) (fun _ _ => rfl)))
      (pss_one (ps_ret (pe_op op_mul (pv 1) (pe_ix ix_list (pe_lst (pa_cons pe_int (pa_cons pe_int (pa_cons (pe_un un_neg pe_int) pa_nil)))) (pe_c cD hr (by decide) rfl (pa_cons (pv 0) (pa_cons pe_int pa_nil))) (fun _ _ => rfl)))))), ?_⟩
    refine ⟨_, rfl, h, c + 19, 13, rfl, held, by decide, by decide, fun r1 H1 a1 b1 held1 kp1 => ?_⟩
    refine ⟨_, rfl, _, _, rfl, rfl, ⟨by decide, by decide, by decide⟩, h, c + 18, _, rfl, held1, by decide, by decide, fun r2 H2 a2 b2 held2 kp2 => ?_⟩
    refine ⟨_, rfl, _, _, rfl, rfl, ⟨by decide, by decide, by decide⟩, h, c + 8, _, rfl, held2, by decide, by decide, fun r3 H3 a3 b3 held3 kp3 => ?_⟩
    refine ⟨by show 3 ≤ sizeLine; decide, fun u hu => ?_⟩
    have su := same_new (o := .lst [.int r1, .int r2, .int r3]) hu
    refine ⟨_, rfl, h, c + 7, 3, rfl, held3.same su, by decide, by decide, fun r4 H4 a4 b4 held4 kp4 => ?_⟩
    have nuh : u ≠ h := by
      obtain ⟨l, ns, n, m, h1, _⟩ := held3
      exact (ne_of_none h1 hu).symm
    have hu4 : H4 u = some (.lst [.int r1, .int r2, .int r3]) := kp4 u _ upd_same nuh
    obtain ⟨v, hv, hv3⟩ := at3 (a := .int r1) (b := .int r2) (c := .int r3) a4 b4
    refine ⟨u, _, _, v, rfl, rfl, SqL.of hu4, hv, ?_⟩
    obtain ⟨x, rfl, hx⟩ : ∃ x : Int, v = .int x ∧ x.natAbs < 2 ^ 100 := by
      have t30 := ten30
      have b2' : r2 < 1000000 := b2
      have b3' : r3 < 10 ^ 30 := b3
      rcases hv3 with rfl | rfl | rfl
      · exact ⟨r1, rfl, by omega⟩
      · exact ⟨r2, rfl, by omega⟩
      · exact ⟨r3, rfl, by omega⟩
    refine ⟨_, rfl, _, rfl, by show 3 ≤ sizeLine; decide, fun u2 hu2 => ?_⟩
    have su2 := same_new (o := .lst [.int 1, .int 1, .int (-1)]) hu2
    refine ⟨_, rfl, h, c + 6, 3, rfl, held4.same su2, by decide, by decide, fun r5 H5 a5 b5 held5 kp5 => ?_⟩
    have nuh2 : u2 ≠ h := by
      obtain ⟨l, ns, n, m, h1, _⟩ := held4
      exact (ne_of_none h1 hu2).symm
    have hu5 : H5 u2 = some (.lst [.int 1, .int 1, .int (-1)]) := kp5 u2 _ upd_same nuh2
    obtain ⟨v, hv, hv3⟩ := at3 (a := .int 1) (b := .int 1) (c := .int (-1)) a5 b5
    obtain ⟨y, rfl, hy⟩ : ∃ y : Int, v = .int y ∧ (y = 1 ∨ y = -1) := by
      rcases hv3 with rfl | rfl | rfl
      · exact ⟨1, rfl, .inl rfl⟩
      · exact ⟨1, rfl, .inl rfl⟩
      · exact ⟨-1, rfl, .inr rfl⟩
    refine ⟨u2, _, _, _, rfl, rfl, SqL.of hu5, hv, _, _, rfl, rfl, cb_r (by omega) (by omega), ?_⟩
    refine hQ _ _ ?_ (held5.weak (by omega)) ((((kp1.trans kp2).trans kp3).trans (Kp.same su)).trans ((kp4.trans (Kp.same su2)).trans kp5))
    show (x * y).natAbs < 2 ^ 100
    rcases hy with rfl | rfl <;> omega
def spOn (C : Addr) : Sp := fun vs H Q _ => ∃ (p : Addr) (a : Int × Int) (n : Nat), vs = [.ref p] ∧ Sh C H p a ∧ Bd n a ∧ 0 < n ∧ n ≤ 4000 ∧ ∀ H', Same H H' → Q (.int a.1) H'
theorem ok_on {fO : Addr} {fdO : FuncData} (F : Dn K d_l_over_nought f fd) (T : Cl K mg C) (G : Ng K mg N fN) (m : Meth K C "over" fO) (FO : FnOk P w K mg base (L2.CX P w) 5 fO fdO ["self", "many"] (spOverX C N)) (bO : Binds K fdO ["self", "many"] []) :
    FnOk P w K mg base CX0 6 f fd ["_law_share"] (spOn C) := by
  refine F.ok sc_l_over_nought (fun vs H Q E h => ?_) (fun cdv A outer s H vs Q E hr h => ?_)
  · obtain ⟨p, a, n, rfl, _⟩ := h
    rfl
  · obtain ⟨p, q, n, rfl, hp, bq, hn0, hn9, hQ⟩ := h
    refine ⟨_, PSs.nox (pss_cons (ps_set (i := 1) sc_l_over_nought.nd rfl (.inl rfl) pe_non)
      (pss_cons (ps_try_as (i := 2) rfl rfl sc_l_over_nought.nd rfl rfl ⟨rfl, by decide, .inl G.g⟩ takes0
          (fun W pn xe tk _ => pss_one (ps_expr (pe_methAt (pv 0) T.cl m FO hr bO (fun σ => passAt tk σ) (pa_cons pe_int pa_nil))))
          (fun a oe cls d pn hz hf => pss_one (ps_set (i := 1) sc_l_over_nought.nd rfl (.inl rfl) (pe_xf G.xf G.no hz hf (pv 2)))))
      (pss_one (ps_ret (pv 1))))), ?_⟩
    obtain ⟨dp, hp1⟩ := id hp
    refine ⟨_, rfl, p, dp, _, rfl, hp1, shF_no _ (by decide +kernel) (by decide +kernel), ?_⟩
    refine ⟨p, q, n, rfl, hp, bq, hn0, hn9, fun d H' sm fr hd => ?_⟩
    refine ⟨true, G.te, fun _ a ha => ?_, fun z => nomatch z⟩
    refine ⟨_, rfl, rfl, rfl, d, _, _, rfl, hd, rfl, ?_⟩
    exact ⟨_, rfl, hQ H' sm⟩
end
end K02
set_option Elab.async false
set_option linter.all false
set_option maxRecDepth 100000
set_option maxHeartbeats 4000000
namespace K02
open PySem PySem.Spec PyProof.Rows L2
open C8 (Cal Mak Met pe_c pe_mk pe_mt pe_mt0)
theorem ne_same {K : PySem.W.Frag} {H : Hp} {r s : Addr} {q q' : Int × Int} {Q : VK} (h1 : H r = some (tupP q)) (h2 : H s = some (tupP q')) (e : q = q') (hQ : Q (.bl false) H) : rNeD K (.ref r) (.ref s) H Q := by
  subst e
  refine ⟨.tuple [.int q.1, .int q.2], .tuple [.int q.1, .int q.2], Dp.tup (SqT.of h1) (.cons (.int _) (.cons (.int _) .nil)), Dp.tup (SqT.of h2) (.cons (.int _) (.cons (.int _) .nil)), rfl, rfl, ?_⟩
  have z : PyData.eqv (.tuple [.int q.1, .int q.2]) (.tuple [.int q.1, .int q.2]) = true := by simp [PyData.eqv, PyData.eqvAll]
  rw [z]
  exact hQ
theorem fdiv_le {a b : Int} (hb : 0 < b) : a.fdiv b * b ≤ a ∧ a < (a.fdiv b + 1) * b := by
  rw [Int.fdiv_eq_ediv_of_nonneg a (by omega)]
  exact ⟨Int.ediv_mul_le a (by omega), Int.lt_ediv_add_one_mul_self a hb⟩
theorem fdiv_abs {a b : Int} (hb : 0 < b) : (a.fdiv b).natAbs ≤ a.natAbs := by
  rw [Int.fdiv_eq_ediv_of_nonneg a (by omega)]
  exact Int.natAbs_ediv_le_natAbs a b
/-- the methods -/
structure Ms (P : Program) (w : World) (K : PySem.W.Frag) (mg : Str → Option Value) (base : Heap) (C : Addr) : Prop where
  plus : Met P w K mg base 4 C "plus" (sp_plus C) []
  less : Met P w K mg base 4 C "less" (sp_less C) []
  times : Met P w K mg base 4 C "times" (sp_times C) []
  over : Met P w K mg base 4 C "over" (sp_over C) []
  below : Met P w K mg base 1 C "below" (sp_below C) []
  whole : Met P w K mg base 1 C "whole" (sp_whole C) []
section
variable {P : Program} {w : World} {K : PySem.W.Frag} {mg : Str → Option Value} {base : Heap} {f C N fN : Addr} {fd fdN : FuncData}
def spBoth (C : Addr) : Sp := fun vs H Q _ => ∃ (p q x y : Addr) (a b : Int × Int) (k : Int) (n : Nat), vs = [.ref p, .ref q, .ref x, .ref y, .int k] ∧ Sh C H p a ∧ Sh C H q b ∧ H x = some (tupP a) ∧ H y = some (tupP b) ∧
  Bd n a ∧ Bd n b ∧ k.natAbs < 2 ^ n ∧ 0 < n ∧ n ≤ 1000 ∧ ∀ H', Same H H' → Q (.bl true) H'
theorem ok_both (F : Dn K d_l_both_right f fd) (bl : Bl mg) (M : Ms P w K mg base C) (cP : Cal P w K mg base 1 "_law_pair" (spPair C) []) (cA : Cal P w K mg base 2 "_law_add" spAdd []) (cL : CalL P w K mg base)
    (cO : Cal P w K mg base 6 "_law_over_nought" (spOn C) []) : FnOk P w K mg base CX0 7 f fd ["_law_one", "_law_other", "_law_first", "_law_second", "_law_many"] (spBoth C) := by
  refine F.ok sc_l_both_right (fun vs H Q E h => ?_) (fun cdv A outer s H vs Q E hr h => ?_)
  · obtain ⟨p, q, x, y, a, b, k, n, rfl, _⟩ := h
    rfl
  · obtain ⟨p, q, x, y, a, b, k, n, rfl, hp, hq, hx, hy, ba, bb, hk, hn0, hn9, hQ⟩ := h
    have hu64 : (A.deeper (envOfC d_l_both_right.qual d_l_both_right.scope s.heap.objs.size f cdv)).units + 64 < cLine := by have := hr.un; omega
    refine ⟨_, PSs.nox (
      pss_cons (ps_if (pt_cmpR (op_neD hu64) (pe_c cP hr (by decide) rfl (pa_cons (pe_mt M.plus hr (by decide) (pv 0) (pa_cons (pv 1) pa_nil)) pa_nil)) (pe_c cA hr (by decide) rfl (pa_cons (pv 2) (pa_cons (pv 3) pa_nil))) (nomark _)) pss_never pss_nil)
      (pss_cons (ps_if (pt_cmpR (op_neD hu64) (pe_c cP hr (by decide) rfl (pa_cons (pe_mt M.less hr (by decide) (pv 0) (pa_cons (pv 1) pa_nil)) pa_nil))
        (pe_c cA hr (by decide) rfl (pa_cons (pv 2) (pa_cons (pe_tup (pa_cons (pe_op op_sub pe_int (pe_ix ix_tup (pv 3) pe_int (fun _ _ => rfl))) (pa_cons (pe_ix ix_tup (pv 3) pe_int (fun _ _ => rfl)) pa_nil))) pa_nil))) (nomark _)) pss_never pss_nil)
      (pss_cons (ps_if (pt_cmpR (op_neD hu64) (pe_c cP hr (by decide) rfl (pa_cons (pe_mt M.times hr (by decide) (pv 0) (pa_cons (pv 4) pa_nil)) pa_nil))
        (pe_c cL hr (by decide) rfl (pa_cons (pe_op op_mulW (pe_ix ix_tup (pv 2) pe_int (fun _ _ => rfl)) (pv 4)) (pa_cons (pe_ix ix_tup (pv 2) pe_int (fun _ _ => rfl)) pa_nil))) (nomark _)) pss_never pss_nil)
      (pss_cons (ps_set (i := 5) sc_l_both_right.nd rfl (.inl rfl) (pe_mt M.below hr (by decide) (pv 0) (pa_cons (pv 1) pa_nil)))
      (pss_cons (ps_if (PW.pt (pw_or (pt_not (pt_val (pe_callB call_isi rfl bl.isi boot_isinstance (pa_cons (pv 5) (pa_cons (pe_bltn (v := .ty "bool") rfl bl.bool boot_bool rfl) pa_nil)))))
        (pw_or1 (pt_cmpR op_ne (pv 5) (pe_cmpR op_lt (pe_op op_mulW (pe_ix ix_tup (pv 2) pe_int (fun _ _ => rfl)) (pe_ix ix_tup (pv 3) pe_int (fun _ _ => rfl))) (pe_op op_mulW (pe_ix ix_tup (pv 3) pe_int (fun _ _ => rfl)) (pe_ix ix_tup (pv 2) pe_int (fun _ _ => rfl))) (nomark _)) (nomark _))))) pss_never pss_nil)
      (C8.pss_cut (ps_if (PW.pt (pw_and (pt_cmpR op_ne (pv 4) pe_int (nomark _)) (pw_and1 (pt_cmpR (op_neD hu64) (pe_c cP hr (by decide) rfl (pa_cons (pe_mt M.over hr (by decide) (pv 0) (pa_cons (pv 4) pa_nil)) pa_nil))
        (pe_c cL hr (by decide) rfl (pa_cons (pe_ix ix_tup (pv 2) pe_int (fun _ _ => rfl)) (pa_cons (pe_op op_mulW (pe_ix ix_tup (pv 2) pe_int (fun _ _ => rfl)) (pv 4)) pa_nil))) (nomark _))))) pss_never pss_nil)
      (pss_cons (ps_set (i := 6) sc_l_both_right.nd rfl (.inl rfl) (pe_mt0 M.whole hr (by decide) (pv 0)))
      (pss_cons (ps_if (PW.pt (pw_or (pt_not (pt_val (pe_callB call_isi rfl bl.isi boot_isinstance (pa_cons (pv 6) (pa_cons (pe_bltn (v := .ty "int") rfl bl.int boot_int rfl) pa_nil)))))
        (pw_or1 (pt_val (pe_callB call_isi rfl bl.isi boot_isinstance (pa_cons (pv 6) (pa_cons (pe_bltn (v := .ty "bool") rfl bl.bool boot_bool rfl) pa_nil))))))) pss_never pss_nil)
      (pss_one (ps_ret (pe_and (pe_chain op_le op_lt (pe_op op_mulW (pv 6) (pe_ix ix_tup (pv 2) pe_int (fun _ _ => rfl))) (pe_ix ix_tup (pv 2) pe_int (fun _ _ => rfl)) (pe_op op_mulW (pe_op op_add (pv 6) pe_int) (pe_ix ix_tup (pv 2) pe_int (fun _ _ => rfl))))
        (pe_one (pe_cmpR op_eq (pe_c cO hr (by decide) rfl (pa_cons (pv 0) pa_nil)) (pe_ix ix_tup (pv 2) pe_int (fun _ _ => rfl)) (nomark _)))))))))))))), ?_⟩
    have no : ∀ (q : Int × Int) (m : Str), ¬ m = "bottom" → ¬ m = "top" → (shF q).lookup m = none := fun q m h1 h2 => shF_no q h1 h2
    obtain ⟨dp, hp0⟩ := id hp
    -- plus
    refine ⟨_, rfl, p, dp, _, rfl, hp0, no _ _ (by decide +kernel) (by decide +kernel), _, rfl, p, q, a, b, n, rfl, hp, hq, ⟨ba, bb, hn0, by omega⟩, fun r1 H1 s1 f1 h1 => ?_⟩
    refine ⟨r1, _, rfl, h1, fun r2 H2 s2 f2 h2 => ?_⟩
    have s02 := s1.trans s2
    refine ⟨_, rfl, _, rfl, x, y, a, b, n, rfl, s02 _ _ hx, s02 _ _ hy, ⟨ba, bb, hn0, by omega⟩, fun r3 f3 => ?_⟩
    refine ne_same (same_new f3 _ _ h2) upd_same rfl ⟨_, rfl, iteF ?_⟩
    have s03 := s02.trans (same_new (o := tupP (KM.low (a.1 * b.2 + b.1 * a.2) (a.2 * b.2))) f3)
    generalize upd H2 r3 (tupP (KM.low (a.1 * b.2 + b.1 * a.2) (a.2 * b.2))) = H3 at s03 ⊢
    clear s02 s2 h2 h1 s1 f3 f2 f1
    -- less
    refine ⟨_, rfl, p, dp, _, rfl, s03 _ _ hp0, no _ _ (by decide +kernel) (by decide +kernel), _, rfl, p, q, a, b, n, rfl, hp.keep s03, hq.keep s03, ⟨ba, bb, hn0, by omega⟩, fun r1 H4 s1 f1 h1 => ?_⟩
    refine ⟨r1, _, rfl, h1, fun r2 H5 s2 f2 h2 => ?_⟩
    have s05 := (s03.trans s1).trans s2
    refine ⟨_, rfl, _, rfl, y, _, _, _, rfl, rfl, SqT.of (s05 _ _ hy), at0, _, _, rfl, rfl, _, rfl, y, _, _, _, rfl, rfl, SqT.of (s05 _ _ hy), at1, by show 2 ≤ sizeLine; decide, fun t ft => ?_⟩
    have st := same_new (o := tupP (0 - b.1, b.2)) ft
    refine ⟨x, t, a, (0 - b.1, b.2), n, rfl, st _ _ (s05 _ _ hx), upd_same, ⟨ba, ⟨by show (0 - b.1).natAbs < 2 ^ n; have := bb.1; omega, bb.2⟩, hn0, by omega⟩, fun r3 f3 => ?_⟩
    refine ne_same (same_new f3 _ _ (st _ _ h2)) upd_same (by
      show KM.low (a.1 * b.2 - b.1 * a.2) (a.2 * b.2) = KM.low (a.1 * b.2 + (0 - b.1) * a.2) (a.2 * b.2)
      rw [Int.sub_mul, Int.zero_mul, show a.1 * b.2 + (0 - b.1 * a.2) = a.1 * b.2 - b.1 * a.2 by omega]) ⟨_, rfl, iteF ?_⟩
    have s06 := s05.trans (st.trans (same_new (o := tupP (KM.low (a.1 * (0 - b.1, b.2).2 + (0 - b.1, b.2).1 * a.2) (a.2 * (0 - b.1, b.2).2))) f3))
    clear h2 h1 s1 s2 s05 s03
    -- times
    refine ⟨_, rfl, p, dp, _, rfl, s06 _ _ hp0, no _ _ (by decide +kernel) (by decide +kernel), _, rfl, p, a, k, n, rfl, hp.keep s06, ba, hk, hn0, by omega, fun r1 H7 s1 f1 h1 => ?_⟩
    refine ⟨r1, _, rfl, h1, fun r2 H8 s2 f2 h2 => ?_⟩
    have s08 := (s06.trans s1).trans s2
    refine ⟨_, rfl, x, _, _, _, rfl, rfl, SqT.of (s08 _ _ hx), at0, _, rfl, _, _, rfl, rfl, wide_mul ba.1 hk hn0 hn0 (by omega), _, rfl, x, _, _, _, rfl, rfl, SqT.of (s08 _ _ hx), at1, ?_⟩
    refine ⟨_, _, n, rfl, by have := ba.2.1; omega, ba.2.2, hn0, by omega, fun r3 f3 => ?_⟩
    refine ne_same (same_new f3 _ _ h2) upd_same rfl ⟨_, rfl, iteF ?_⟩
    have s09 := s08.trans (same_new (o := tupP (KM.low (a.1 * k) a.2)) f3)
    clear h2 h1 s1 s2 s08 s06
    generalize upd H8 r3 (tupP (KM.low (a.1 * k) a.2)) = H9 at s09 ⊢
    clear f3 f2 f1
    -- below
    refine ⟨_, rfl, p, dp, _, rfl, s09 _ _ hp0, no _ _ (by decide +kernel) (by decide +kernel), _, rfl, p, q, a, b, n, rfl, hp.keep s09, hq.keep s09, ⟨ba, bb, hn0, by omega⟩, ?_⟩
    refine ⟨_, rfl, _, _, _, _, true, rfl, ClsV.ty _, TyX.base (TyOf.bl _), kit_ty (by decide +kernel), true, rfl, iteF ?_⟩
    refine ⟨_, rfl, _, rfl, x, _, _, _, rfl, rfl, SqT.of (s09 _ _ hx), at0, _, rfl, y, _, _, _, rfl, rfl, SqT.of (s09 _ _ hy), at1, _, _, rfl, rfl, wide_mul ba.1 bb.2.2 hn0 hn0 (by omega), ?_⟩
    refine ⟨_, rfl, y, _, _, _, rfl, rfl, SqT.of (s09 _ _ hy), at0, _, rfl, x, _, _, _, rfl, rfl, SqT.of (s09 _ _ hx), at1, _, _, rfl, rfl, wide_mul bb.1 ba.2.2 hn0 hn0 (by omega), _, _, rfl, rfl, rfl, _, rfl, ?_⟩
    refine iteNS rfl ?_
    -- over
    refine ⟨fun σ' H' => Same H H' ∧ ∃ v, σ' = [some (.ref p), some (.ref q), some (.ref x), some (.ref y), some (.int k), v, none], ?_, ?_⟩
    · refine ⟨_, rfl, rfl, _, rfl, ?_⟩
      by_cases hk0 : k = 0
      · have z : (!decide (V.int k = V.int 0)) = false := by simp [hk0]
        rw [z]
        exact iteF (iteF ⟨s09, _, rfl⟩)
      · have z : (!decide (V.int k = V.int 0)) = true := by simp [hk0]
        rw [z]
        refine iteT ?_
        refine ⟨_, rfl, p, dp, _, rfl, s09 _ _ hp0, no _ _ (by decide +kernel) (by decide +kernel), _, rfl, p, a, k, n, rfl, hp.keep s09, ba, hk0, hk, hn0, by omega, fun r1 H10 s1 f1 h1 => ?_⟩
        refine ⟨r1, _, rfl, h1, fun r2 H11 s2 f2 h2 => ?_⟩
        have s11 := (s09.trans s1).trans s2
        refine ⟨_, rfl, x, _, _, _, rfl, rfl, SqT.of (s11 _ _ hx), at0, _, rfl, x, _, _, _, rfl, rfl, SqT.of (s11 _ _ hx), at1, _, rfl, _, _, rfl, rfl, wide_mul ba.2.2 hk hn0 hn0 (by omega), ?_⟩
        refine ⟨_, _, n + n, rfl, Int.mul_ne_zero (by have := ba.2.1; omega) hk0, wide_lt ba.2.2 hk, by omega, by omega, fun r3 f3 => ?_⟩
        refine ne_same (same_new f3 _ _ h2) upd_same rfl ⟨_, rfl, iteF ⟨s11.trans (same_new f3), _, rfl⟩⟩
    · rintro σ' H12 ⟨s12, v, rfl⟩
      -- whole
      refine ⟨_, rfl, p, dp, _, rfl, s12 _ _ hp0, no _ _ (by decide +kernel) (by decide +kernel), p, a, n, rfl, hp.keep s12, ba, hn0, by omega, ?_⟩
      refine ⟨_, rfl, _, _, _, _, true, rfl, ClsV.ty _, TyX.base (TyOf.int _), kit_ty (by decide +kernel), true, rfl, iteF ?_⟩
      refine ⟨_, rfl, _, _, _, _, false, rfl, ClsV.ty _, TyX.base (TyOf.int _), kit_ty (by decide +kernel), false, rfl, iteF ?_⟩
      have hf : (a.1.fdiv a.2).natAbs < 2 ^ n := Nat.lt_of_le_of_lt (fdiv_abs ba.2.1) ba.1
      have hf1 : (a.1.fdiv a.2 + 1).natAbs < 2 ^ (n + 1) := by
        have : 2 ^ (n + 1) = 2 * 2 ^ n := by rw [Nat.pow_succ, Nat.mul_comm]
        have h1 : 0 < 2 ^ n := Nat.two_pow_pos n
        omega
      have fl := fdiv_le (a := a.1) ba.2.1
      refine ⟨_, rfl, _, rfl, x, _, _, _, rfl, rfl, SqT.of (s12 _ _ hx), at1, _, _, rfl, rfl, wide_mul hf ba.2.2 hn0 hn0 (by omega), _, rfl, x, _, _, _, rfl, rfl, SqT.of (s12 _ _ hx), at0, _, _, rfl, rfl, true, ?_, ?_⟩
      · show V.bl (decide (_ ≤ _)) = V.bl true
        rw [decide_eq_true fl.1]
      refine iteT ?_
      refine ⟨_, rfl, _, _, rfl, rfl, _, rfl, x, _, _, _, rfl, rfl, SqT.of (s12 _ _ hx), at1, _, _, rfl, rfl, wide_mul hf1 ba.2.2 (by omega) hn0 (by omega), _, _, rfl, rfl, true, ?_, ?_⟩
      · show V.bl (decide (_ < _)) = V.bl true
        rw [decide_eq_true fl.2]
      refine iteT ?_
      refine ⟨_, rfl, p, a, n, rfl, hp.keep s12, ba, hn0, by omega, fun H13 s13 => ?_⟩
      have s0 := s12.trans s13
      refine ⟨_, rfl, x, _, _, _, rfl, rfl, SqT.of (s0 _ _ hx), at0, rfl, ?_⟩
      have z : decide (V.int a.1 = V.int a.1) = true := by simp
      rw [z]
      exact hQ _ s0
end
end K02
set_option Elab.async false
set_option linter.all false
set_option maxRecDepth 100000
set_option maxHeartbeats 4000000
namespace K02
open PySem PySem.Spec PyProof.Rows L2
open C8 (Cal Mak Met pe_c pe_mk pe_mt pe_mt0)
def Good (q : Int × Int) : Prop := Bd 128 q ∧ Int.gcd q.1 q.2 = 1
theorem good_low {t b : Int} (hb : b ≠ 0) (h1 : t.natAbs < 2 ^ 128) (h2 : b.natAbs < 2 ^ 128) : Good (KM.low t b) :=
  ⟨⟨Nat.lt_of_le_of_lt (KM.low_top_le hb) h1, KM.low_pos hb, Nat.lt_of_le_of_lt (KM.low_bot_le hb) h2⟩, KM.low_cop hb⟩
theorem good_id {q : Int × Int} (h : Good q) : KM.low q.1 q.2 = q := KM.low_id h.1.2.1 h.2
theorem Kp.tup {h p : Addr} {H H' : Hp} {c : Nat} {q : Int × Int} (k : Kp h H H') (x : Held H h c) (e : H p = some (tupP q)) : H' p = some (tupP q) := by
  obtain ⟨l, ns, n, m, h1, _⟩ := x
  exact k p _ e (ne_of e h1 (by intro z; cases z))
theorem mk_in {C x dx : Addr} {H1 : Hp} {t b : Int} {n : Nat} {Qv : VK} {E : XK} (nx : H1 x = none) (nd : H1 dx = none) (hb : b ≠ 0) (hn : b.natAbs < 2 ^ n) (hn0 : 0 < n) (hn9 : n ≤ 9000)
    (hQ : ∀ H', Same H1 H' → Sh C H' x (KM.low t b) → Qv .non H') : spInit C (.ref x :: ([V.int t, V.int b] ++ [])) (upd (upd H1 dx (.own x)) x (.ins C dx [])) Qv E := by
  refine ⟨x, dx, t, b, n, rfl, hb, hn, hn0, hn9, upd_same, fun H' kp hp => hQ H' (fun a o e => ?_) ⟨dx, hp⟩⟩
  refine kp a o (ne_of_none e nx) ?_
  rw [upd_ne (ne_of_none e nx), upd_ne (ne_of_none e nd)]
  exact e
/-- between the statements of a turn -/
def St1 (a h : Addr) (c : Nat) (σ : L2.St) (H : Hp) : Prop := ∃ (f g : Addr) (x y : Int × Int) (v2 v5 v6 v7 v8 v9 v10 v11 v12 : Option V),
  σ = [some (.ref a), some (.ref h), v2, some (.ref f), some (.ref g), v5, v6, v7, v8, v9, v10, v11, v12] ∧ H f = some (tupP x) ∧ H g = some (tupP y) ∧ Good x ∧ Good y ∧ Held H h c
section
variable {P : Program} {w : World} {K : PySem.W.Frag} {mg : Str → Option Value} {base : Heap} {f C N fN : Addr} {fd fdN : FuncData}
def spLaw (K : PySem.W.Frag) : Sp := fun vs H Q _ => ∃ (a : Addr) (ns : List Int), vs = [.ref a] ∧ SqL K H a (ns.map V.int) ∧ ns.length ≤ 63 ∧ ∀ H', Q (.bl true) H'
theorem ok_law (F : Dn K d_law f fd) (bl : Bl mg) (cH : Cal P w K mg base 1 "_law_held" (spHeld K) []) (cD : CalD P w K mg base) (cN : Cal P w K mg base 3 "_law_number" spNumber []) (cL : CalL P w K mg base)
    (MS : MakS P w K mg base C) (cP : Cal P w K mg base 1 "_law_pair" (spPair C) []) (cB : Cal P w K mg base 7 "_law_both_right" (spBoth C) []) : FnOk P w K mg base CX0 8 f fd ["_law_script"] (spLaw K) := by
  refine F.ok sc_law (fun vs H Q E h => ?_) (fun cdv A outer s H vs Q E hr h => ?_)
  · obtain ⟨a, ns, rfl, _⟩ := h
    rfl
  · obtain ⟨a, ns, rfl, hS, hlen, hQ⟩ := h
    have hu64 : (A.deeper (envOfC d_law.qual d_law.scope s.heap.objs.size f cdv)).units + 64 < cLine := by have := hr.un; omega
    refine ⟨_, PSs.nox (pss_cons (ps_set (i := 1) sc_law.nd rfl (.inl rfl) (pe_c cH hr (by decide) rfl (pa_cons (pv 0) pa_nil)))
      (pss_cons (ps_for PassesOwn.never rfl (pi_range1 rfl bl.range (pa_cons pe_int pa_nil)) (pg_name (i := 2) sc_law.nd rfl (.inl rfl))
        (C8.pss_cut (ps_set (i := 3) sc_law.nd rfl (.inl rfl) (pe_c cL hr (by decide) rfl (pa_cons (pe_c cN hr (by decide) rfl (pa_cons (pv 1) pa_nil)) (pa_cons (pe_orT (pe_c cN hr (by decide) rfl (pa_cons (pv 1) pa_nil)) (pe_one pe_int)) pa_nil))))
        (C8.pss_cut (ps_set (i := 4) sc_law.nd rfl (.inl rfl) (pe_c cL hr (by decide) rfl (pa_cons (pe_c cN hr (by decide) rfl (pa_cons (pv 1) pa_nil)) (pa_cons (pe_orT (pe_c cN hr (by decide) rfl (pa_cons (pv 1) pa_nil)) (pe_one pe_int)) pa_nil))))
        (C8.pss_cut (ps_if (pt_cmpR op_eq (pe_c cD hr (by decide) rfl (pa_cons (pv 1) (pa_cons pe_int pa_nil))) pe_int (nomark _))
          (pss_one (ps_set (i := 4) sc_law.nd rfl (.inl rfl) (pe_ifExp (pt_cmpR op_eq (pe_ix ix_tup (pe_c cL hr (by decide) rfl (pa_cons (pe_ix ix_tup (pv 4) pe_int (fun _ _ => rfl)) (pa_cons (pe_ix ix_tup (pv 3) pe_int (fun _ _ => rfl)) pa_nil))) pe_int (fun _ _ => rfl)) (pe_ix ix_tup (pv 3) pe_int (fun _ _ => rfl)) (nomark _))
            (pe_tup (pa_cons (pe_ix ix_tup (pv 4) pe_int (fun _ _ => rfl)) (pa_cons (pe_ix ix_tup (pv 3) pe_int (fun _ _ => rfl)) pa_nil))) (pv 3)))) pss_nil)
        (C8.pss_cut (ps_if (pt_cmpR op_eq (pe_c cD hr (by decide) rfl (pa_cons (pv 1) (pa_cons pe_int pa_nil))) pe_int (nomark _))
          (pss_cons (ps_set (i := 5) sc_law.nd rfl (.inl rfl) (pe_op op_add (pe_op op_pow pe_int pe_int) (pe_c cD hr (by decide) rfl (pa_cons (pv 1) (pa_cons (pe_op op_pow pe_int pe_int) pa_nil)))))
          (pss_one (ps_par (i := 3) (j := 4) rfl sc_law.nd rfl rfl (by decide) rfl rfl (pa_cons (pe_tup (pa_cons (pe_op op_sub (pv 5) pe_int) (pa_cons (pv 5) pa_nil))) (pa_cons (pe_tup (pa_cons (pv 5) (pa_cons (pe_op op_add (pv 5) pe_int) pa_nil))) pa_nil)) rfl))) pss_nil)
        (pss_cons (ps_set (i := 6) sc_law.nd rfl (.inl rfl) (pe_c cN hr (by decide) rfl (pa_cons (pv 1) pa_nil)))
        (pss_cons (ps_par (i := 7) (j := 8) rfl sc_law.nd rfl rfl (by decide) rfl rfl (pa_cons (pe_mk MS hr (by decide) rfl (pa_cons (pe_ix ix_tup (pv 3) pe_int (fun _ _ => rfl)) (pa_cons (pe_ix ix_tup (pv 3) pe_int (fun _ _ => rfl)) pa_nil)))
          (pa_cons (pe_mk MS hr (by decide) rfl (pa_cons (pe_ix ix_tup (pv 4) pe_int (fun _ _ => rfl)) (pa_cons (pe_ix ix_tup (pv 4) pe_int (fun _ _ => rfl)) pa_nil))) pa_nil)) rfl)
        (pss_cons (ps_for PassesOwn.never rfl (pi_list (pe_lst (pa_cons (pe_tup (pa_cons (pv 7) (pa_cons (pv 8) (pa_cons (pv 3) (pa_cons (pv 4) pa_nil))))) (pa_cons (pe_tup (pa_cons (pv 8) (pa_cons (pv 7) (pa_cons (pv 4) (pa_cons (pv 3) pa_nil)))))
            (pa_cons (pe_tup (pa_cons (pv 7) (pa_cons (pv 7) (pa_cons (pv 3) (pa_cons (pv 3) pa_nil))))) pa_nil)))))
            (pg_tup rfl (pgs_cons (pg_name (i := 9) sc_law.nd rfl (.inl rfl)) (pgs_cons (pg_name (i := 10) sc_law.nd rfl (.inl rfl)) (pgs_cons (pg_name (i := 11) sc_law.nd rfl (.inl rfl)) (pgs_cons (pg_name (i := 12) sc_law.nd rfl (.inl rfl)) pgs_nil)))))
          (pss_one (ps_if (pt_not (pt_val (pe_c cB hr (by decide) rfl (pa_cons (pv 9) (pa_cons (pv 10) (pa_cons (pv 11) (pa_cons (pv 12) (pa_cons (pv 6) pa_nil)))))))) pss_never pss_nil)))
        (pss_one (ps_if (PW.pt (pw_or (pt_cmpR (op_neD hu64) (pe_c cP hr (by decide) rfl (pa_cons (pv 7) pa_nil)) (pv 3) (nomark _)) (pw_or1 (pt_cmpR (op_neD hu64) (pe_c cP hr (by decide) rfl (pa_cons (pv 8) pa_nil)) (pv 4) (nomark _))))) pss_never pss_nil))))))))))
      (pss_one (ps_ret pe_bl)))), ?_⟩
    refine ⟨_, rfl, a, ns, rfl, hS, hlen, fun h H1 s1 f1 held1 => ?_⟩
    refine ⟨7, rfl, by decide, by decide, for_range (n := 7) (fun i σ H2 => ∃ v2 v3 v4 v5 v6 v7 v8 v9 v10 v11 v12, σ = [some (.ref a), some (.ref h), v2, v3, v4, v5, v6, v7, v8, v9, v10, v11, v12] ∧ Held H2 h (1000 * (8 - i)))
      ⟨_, _, _, _, _, _, _, _, _, _, _, rfl, held1.weak (by decide)⟩ ?_ ?_⟩
    · rintro i σ H2 hi ⟨v2, v3, v4, v5, v6, v7, v8, v9, v10, v11, v12, rfl, held2⟩
      -- first
      refine ⟨fun σ' H' => ∃ (f : Addr) (x : Int × Int), σ' = [some (.ref a), some (.ref h), some (.int (0 + i)), some (.ref f), v4, v5, v6, v7, v8, v9, v10, v11, v12] ∧ H' f = some (tupP x) ∧ Good x ∧ Held H' h (1000 * (8 - i) - 40), ?_, ?_⟩
      · refine ⟨_, rfl, h, 1000 * (8 - i) - 20, rfl, held2.weak (by omega), fun t1 H3 b1 held3 k3 => ?_⟩
        refine ⟨_, rfl, h, 1000 * (8 - i) - 40, rfl, held3.weak (by omega), fun u1 H4 c1 held4 k4 => ?_⟩
        refine ⟨_, rfl, ?_⟩
        by_cases hu : u1 = 0
        · subst hu
          refine iteF ?_
          refine ⟨t1, 1, 128, rfl, by decide, by decide, by decide, by decide, fun r fr => ?_⟩
          exact ⟨r, _, rfl, upd_same, good_low (by decide) (by omega) (by decide), held4.same (same_new fr)⟩
        · have z : (u1 != 0) = true := by simp [hu]
          rw [z]
          refine iteT ?_
          refine ⟨t1, u1, 128, rfl, hu, by omega, by decide, by decide, fun r fr => ?_⟩
          exact ⟨r, _, rfl, upd_same, good_low hu (by omega) (by omega), held4.same (same_new fr)⟩
      rintro σ' H3 ⟨f, x, rfl, hf, gx, held3⟩
      -- second
      refine ⟨St1 a h (1000 * (8 - i) - 80), ?_, ?_⟩
      · refine ⟨_, rfl, h, 1000 * (8 - i) - 60, rfl, held3.weak (by omega), fun t1 H4 b1 held4 k4 => ?_⟩
        refine ⟨_, rfl, h, 1000 * (8 - i) - 80, rfl, held4.weak (by omega), fun u1 H5 c1 held5 k5 => ?_⟩
        have hf5 := k5.tup held4 (k4.tup held3 hf)
        refine ⟨_, rfl, ?_⟩
        by_cases hu : u1 = 0
        · subst hu
          refine iteF ?_
          refine ⟨t1, 1, 128, rfl, by decide, by decide, by decide, by decide, fun r fr => ?_⟩
          exact ⟨f, r, x, _, _, _, _, _, _, _, _, _, _, rfl, same_new fr _ _ hf5, upd_same, gx, good_low (by decide) (by omega) (by decide), held5.same (same_new fr)⟩
        · have z : (u1 != 0) = true := by simp [hu]
          rw [z]
          refine iteT ?_
          refine ⟨t1, u1, 128, rfl, hu, by omega, by decide, by decide, fun r fr => ?_⟩
          exact ⟨f, r, x, _, _, _, _, _, _, _, _, _, _, rfl, same_new fr _ _ hf5, upd_same, gx, good_low hu (by omega) (by omega), held5.same (same_new fr)⟩
      clear hf gx held3 held2
      rintro σ' H3 ⟨f, g, x, y, v2, v5, v6, v7, v8, v9, v10, v11, v12, rfl, hf, hg, gx, gy, held3⟩
      -- the second with the first's bottom
      refine ⟨St1 a h (1000 * (8 - i) - 81), ?_, ?_⟩
      · refine ⟨_, rfl, h, 1000 * (8 - i) - 81, 4, rfl, held3.weak (by omega), by decide, by decide, fun r H4 r0 r1 held4 k4 => ?_⟩
        have hf4 := k4.tup held3 hf
        have hg4 := k4.tup held3 hg
        refine ⟨rfl, _, rfl, ?_⟩
        refine ite2 (fun _ => ?_) (fun _ => ⟨f, g, x, y, _, _, _, _, _, _, _, _, _, rfl, hf4, hg4, gx, gy, held4⟩)
        refine ⟨_, rfl, g, _, _, _, rfl, rfl, SqT.of hg4, at0, _, rfl, f, _, _, _, rfl, rfl, SqT.of hf4, at1, ?_⟩
        refine ⟨_, _, 128, rfl, by have := gx.1.2.1; omega, gx.1.2.2, by decide, by decide, fun t ft => ?_⟩
        have st := same_new (o := tupP (KM.low y.1 x.2)) ft
        refine ⟨t, _, _, _, rfl, rfl, SqT.of upd_same, at1, ?_⟩
        refine ⟨_, rfl, f, _, _, _, rfl, rfl, SqT.of (st _ _ hf4), at1, rfl, _, rfl, ?_⟩
        refine ite2 (fun e => ?_) (fun e => ⟨_, rfl, f, f, x, x, _, _, _, _, _, _, _, _, _, rfl, st _ _ hf4, st _ _ hf4, gx, gx, held4.same st⟩)
        have e1 : (KM.low y.1 x.2).2 = x.2 := by
          have := of_decide_eq_true e
          exact V.int.inj this
        refine ⟨_, rfl, g, _, _, _, rfl, rfl, SqT.of (st _ _ hg4), at0, _, rfl, f, _, _, _, rfl, rfl, SqT.of (st _ _ hf4), at1, by show 2 ≤ sizeLine; decide, fun t2 ft2 => ?_⟩
        have st2 := same_new (o := tupP (y.1, x.2)) ft2
        have e2 := KM.low_same gx.1.2.1 e1
        refine ⟨f, t2, x, (y.1, x.2), _, _, _, _, _, _, _, _, _, rfl, st2 _ _ (st _ _ hf4), upd_same, gx, ?_, (held4.same st).same st2⟩
        rw [← e2]
        exact good_low (by have := gx.1.2.1; omega) gy.1.1 gx.1.2.2
      clear hf hg gx gy held3
      rintro σ' H3 ⟨f, g, x, y, v2, v5, v6, v7, v8, v9, v10, v11, v12, rfl, hf, hg, gx, gy, held3⟩
      -- a hair apart
      refine ⟨St1 a h (1000 * (8 - i) - 83), ?_, ?_⟩
      · refine ⟨_, rfl, h, 1000 * (8 - i) - 82, 5, rfl, held3.weak (by omega), by decide, by decide, fun r H4 r0 r1 held4 k4 => ?_⟩
        have hf4 := k4.tup held3 hf
        have hg4 := k4.tup held3 hg
        refine ⟨rfl, _, rfl, ?_⟩
        refine ite2 (fun _ => ?_) (fun _ => ⟨f, g, x, y, _, _, _, _, _, _, _, _, _, rfl, hf4, hg4, gx, gy, held4.weak (by omega)⟩)
        refine ⟨_, _, rfl, rfl, ⟨by decide, by decide, by decide⟩, _, rfl, _, _, rfl, rfl, ⟨by decide, by decide, by decide⟩, h, 1000 * (8 - i) - 83, _, rfl, held4.weak (by omega), by decide, by decide, fun d H5 d0 d1 held5 k5 => ?_⟩
        refine ⟨_, _, rfl, rfl, ?_⟩
        have dd : d < 1000000 := d1
        obtain ⟨z, hz, z1, z2⟩ : ∃ z : Int, z = 10 ^ (28 : Int).toNat + d ∧ 1 < z ∧ z < 2 ^ 127 := ⟨_, rfl, by
          show 1 < (10 : Int) ^ 28 + d
          omega, by
          show (10 : Int) ^ 28 + d < 2 ^ 127
          omega⟩
        refine ⟨_, rfl, _, _, rfl, rfl, _, rfl, by show 2 ≤ sizeLine; decide, fun t1 f1 => ?_⟩
        refine ⟨_, rfl, _, rfl, _, _, rfl, rfl, by show 2 ≤ sizeLine; decide, fun t2 f2 => ?_⟩
        have st1 := same_new (o := tupP (z - 1, z)) f1
        refine ⟨_, _, rfl, t1, t2, (z - 1, z), (z, z + 1), _, _, _, _, _, _, _, _, _, rfl, ?_, ?_, ?_, ?_, ?_⟩
        · rw [hz]
          exact same_new f2 _ _ upd_same
        · rw [hz]
          exact upd_same
        · refine ⟨⟨?_, ?_, ?_⟩, ?_⟩
          · show (z - 1).natAbs < 2 ^ 128
            omega
          · show 0 < z
            omega
          · show z.natAbs < 2 ^ 128
            omega
          · have := KM.gcd_succ (z - 1)
            rw [show z - 1 + 1 = z by omega] at this
            exact this
        · refine ⟨⟨?_, ?_, ?_⟩, KM.gcd_succ z⟩
          · show z.natAbs < 2 ^ 128
            omega
          · show 0 < z + 1
            omega
          · show (z + 1).natAbs < 2 ^ 128
            omega
        · exact (held5.same (same_new f1)).same (same_new f2)
      clear hf hg gx gy held3
      rintro σ' H3 ⟨f, g, x, y, v2, v5, v6, v7, v8, v9, v10, v11, v12, rfl, hf, hg, gx, gy, held3⟩
      -- many, one, other
      refine ⟨_, rfl, h, 1000 * (8 - i) - 103, rfl, held3.weak (by omega), fun k H4 kb held4 k4 => ?_⟩
      have hf4 := k4.tup held3 hf
      have hg4 := k4.tup held3 hg
      refine ⟨_, rfl, f, _, _, _, rfl, rfl, SqT.of hf4, at0, _, rfl, f, _, _, _, rfl, rfl, SqT.of hf4, at1, ?_⟩
      intro p pd np nd ne
      refine mk_in (n := 128) np nd (by have := gx.1.2.1; omega) gx.1.2.2 (by decide) (by decide) fun H5 s5 hp => ⟨rfl, ?_⟩
      rw [good_id gx] at hp
      refine ⟨_, rfl, g, _, _, _, rfl, rfl, SqT.of (s5 _ _ hg4), at0, _, rfl, g, _, _, _, rfl, rfl, SqT.of (s5 _ _ hg4), at1, ?_⟩
      intro q qd nq nd' ne'
      refine mk_in (n := 128) nq nd' (by have := gy.1.2.1; omega) gy.1.2.2 (by decide) (by decide) fun H6 s6 hq => ⟨rfl, ?_⟩
      rw [good_id gy] at hq
      have hp6 := hp.keep s6
      have s46 := s5.trans s6
      refine ⟨_, _, rfl, ?_⟩
      -- the three
      refine ⟨_, rfl, _, rfl, _, rfl, _, rfl, by show 4 ≤ sizeLine; decide, fun t1 e1 => ?_⟩
      refine ⟨_, rfl, _, rfl, _, rfl, _, rfl, by show 4 ≤ sizeLine; decide, fun t2 e2 => ?_⟩
      refine ⟨_, rfl, _, rfl, _, rfl, _, rfl, by show 4 ≤ sizeLine; decide, fun t3 e3 => ⟨by show 3 ≤ sizeLine; decide, fun l e4 => ?_⟩⟩
      have a1 := same_new (o := .tup [.ref p, .ref q, .ref f, .ref g]) e1
      have a2 := same_new (o := .tup [.ref q, .ref p, .ref g, .ref f]) e2
      have a3 := same_new (o := .tup [.ref p, .ref p, .ref f, .ref f]) e3
      have a4 := same_new (o := .lst [.ref t1, .ref t2, .ref t3]) e4
      have s67 := ((a1.trans a2).trans a3).trans a4
      have hf7 := s67 _ _ (s46 _ _ hf4)
      have hg7 := s67 _ _ (s46 _ _ hg4)
      have hp7 := hp6.keep s67
      have hq7 := hq.keep s67
      have held7 := (held4.same s46).same s67
      have ht1 := a4 _ _ (a3 _ _ (a2 _ _ (upd_same (H := H6) (a := t1) (o := .tup [.ref p, .ref q, .ref f, .ref g]))))
      have ht2 := a4 _ _ (a3 _ _ (upd_same (H := upd H6 t1 (.tup [.ref p, .ref q, .ref f, .ref g])) (a := t2) (o := .tup [.ref q, .ref p, .ref g, .ref f])))
      have ht3 := a4 _ _ (upd_same (H := upd (upd H6 t1 (.tup [.ref p, .ref q, .ref f, .ref g])) t2 (.tup [.ref q, .ref p, .ref g, .ref f])) (a := t3) (o := .tup [.ref p, .ref p, .ref f, .ref f]))
      have hl7 := upd_same (H := upd (upd (upd H6 t1 (.tup [.ref p, .ref q, .ref f, .ref g])) t2 (.tup [.ref q, .ref p, .ref g, .ref f])) t3 (.tup [.ref p, .ref p, .ref f, .ref f])) (a := l) (o := .lst [.ref t1, .ref t2, .ref t3])
      generalize upd (upd (upd (upd H6 t1 (.tup [.ref p, .ref q, .ref f, .ref g])) t2 (.tup [.ref q, .ref p, .ref g, .ref f])) t3 (.tup [.ref p, .ref p, .ref f, .ref f])) l (.lst [.ref t1, .ref t2, .ref t3]) = H7 at *
      refine ⟨l, rfl, ⟨_, SqL.of hl7⟩, for_list (K := K) (xs := [.ref t1, .ref t2, .ref t3]) (fun j σ H8 => Same H7 H8 ∧ ∃ v9 v10 v11 v12, σ = [some (.ref a), some (.ref h), v2, some (.ref f), some (.ref g), v5, some (.int k), some (.ref p), some (.ref q), v9, v10, v11, v12])
        ⟨Same.refl _, _, _, _, _, rfl⟩ (fun j σ H8 _ z => SqL.of (z.1 _ _ hl7)) ?_ ?_⟩
      · rintro j z σ H8 hj ⟨s8, v9, v10, v11, v12, rfl⟩
        have key : ∀ (t A B X Y : Addr) (xa xb : Int × Int), H7 t = some (.tup [.ref A, .ref B, .ref X, .ref Y]) → Sh C H7 A xa → Sh C H7 B xb → H7 X = some (tupP xa) → H7 Y = some (tupP xb) → Good xa → Good xb → z = .ref t →
            ∃ (t A B X Y : Addr) (xa xb : Int × Int), H8 t = some (.tup [.ref A, .ref B, .ref X, .ref Y]) ∧ Sh C H8 A xa ∧ Sh C H8 B xb ∧ H8 X = some (tupP xa) ∧ H8 Y = some (tupP xb) ∧ Good xa ∧ Good xb ∧ z = .ref t :=
          fun t A B X Y xa xb h1 h2 h3 h4 h5 h6 h7 h8 => ⟨t, A, B, X, Y, xa, xb, s8 _ _ h1, h2.keep s8, h3.keep s8, s8 _ _ h4, s8 _ _ h5, h6, h7, h8⟩
        obtain ⟨t, A, B, X, Y, xa, xb, h1, h2, h3, h4, h5, h6, h7, rfl⟩ : ∃ (t A B X Y : Addr) (xa xb : Int × Int), H8 t = some (.tup [.ref A, .ref B, .ref X, .ref Y]) ∧ Sh C H8 A xa ∧ Sh C H8 B xb ∧ H8 X = some (tupP xa) ∧ H8 Y = some (tupP xb) ∧ Good xa ∧ Good xb ∧ z = .ref t := by
          match j, hj with
          | 0, e => exact key t1 p q f g x y ht1 hp7 hq7 hf7 hg7 gx gy (Option.some.inj e).symm
          | 1, e => exact key t2 q p g f y x ht2 hq7 hp7 hg7 hf7 gy gx (Option.some.inj e).symm
          | 2, e => exact key t3 p p f f x x ht3 hp7 hp7 hf7 hf7 gx gx (Option.some.inj e).symm
        refine ⟨t, _, rfl, SqT.of h1, rfl, _, _, rfl, _, _, rfl, _, _, rfl, _, _, rfl, rfl, ?_⟩
        refine ⟨_, rfl, _, rfl, _, rfl, _, rfl, _, rfl, A, B, X, Y, xa, xb, k, 128, rfl, h2, h3, h4, h5, h6.1, h7.1, by omega, by decide, by decide, fun H9 s9 => ⟨true, rfl, iteF ?_⟩⟩
        exact ⟨s8.trans s9, _, _, _, _, rfl⟩
      · rintro σ H8 ⟨s8, v9, v10, v11, v12, rfl⟩
        refine ⟨_, rfl, p, x, rfl, hp7.keep s8, fun r1 H9 s9 f9 h9 => ?_⟩
        have s79 := s8.trans s9
        refine ⟨_, rfl, ne_same h9 (s79 _ _ hf7) rfl ⟨_, rfl, iteF ?_⟩⟩
        refine ⟨_, rfl, q, y, rfl, hq7.keep s79, fun r2 H10 s10 f10 h10 => ?_⟩
        have s70 := s79.trans s10
        refine ⟨_, rfl, ne_same h10 (s70 _ _ hg7) rfl ⟨_, rfl, iteF ?_⟩⟩
        exact ⟨_, _, _, _, _, _, _, _, _, _, _, rfl, (held7.same s70).weak (by omega)⟩
    · rintro σ H2 _
      exact hQ H2
end
end K02
set_option Elab.async false
set_option linter.all false
set_option maxRecDepth 100000
set_option maxHeartbeats 0
namespace K02
open PySem PySem.Spec PyProof.Rows L2
open C8 (Cal Mak Met pe_c pe_mk pe_mt pe_mt0)
def fa : List He.Fa := [.glo "NoKind", .glo "Nought", .glo "is_whole", .glo "common_part", .glo "Share", .glo "_law_held", .glo "_law_draw", .glo "_law_great", .glo "_law_low", .glo "_law_add", .glo "_law_pair", .glo "_law_number", .glo "_law_over_nought", .glo "_law_both_right", .glo "law",
  .free "abs", .free "isinstance", .free "int", .free "bool", .free "list", .free "range", .free "len", .free "TypeError", .free "ZeroDivisionError",
  .cls "Share", .noat "Share" "top", .noat "Share" "bottom", .meth "Share" "plus", .meth "Share" "less", .meth "Share" "times", .meth "Share" "over", .meth "Share" "below", .meth "Share" "whole", .mkr "Share", .meth "Nought" "__init__", .noat "Nought" "top"]
def xk (K : PySem.W.Frag) : Bool := GX.gxB K (He.ga K "Nought") zdT "ZeroDivisionError.__new__" && (GX.vvB K "ZeroDivisionError" "ZeroDivisionError.__init__" && (xfB K (He.ga K "Nought") &&
  (decide (PySem.W.exmOne K (.ref (He.ga K "Nought")) (.ref (He.ga K "Nought")) = some true) && GX.isB K (He.ga K "Share"))))
abbrev R : PySem.W.OpenRow := PySem.W.OpenLaw.row PySem.Challenge.rw_rideturns_k02_sums_of_shares
abbrev hk : PySem.W.Hook := He.hookX 6 fa fn [] [] xk
def ob (s : PySem.W.SharedT) : He.AlX := He.obsX 6 fa fn [] [] xk (HandSHeadRun.getT s)
theorem ob_eq (s : PySem.W.SharedT) : ob s = hk.obs s.abs := He.obsX_eq (HandSHeadRun.getT_eq s)
abbrev loose : List Str := ["NoKind", "Nought", "is_whole", "common_part", "Share", "_law_held", "_law_draw", "_law_great", "_law_low", "_law_add", "_law_pair", "_law_number", "_law_over_nought", "_law_both_right"]
theorem run (w : World) : HandSHeadRun.RunEq R (PySem.W.view R.prog [18]) hk ob 3000 loose w := by
  intro os
  kernel_rfl
theorem cal_of {P : Program} {w : World} {K : PySem.W.Frag} {mg : Str → Option Value} {base : Heap} {f : Addr} {fd : FuncData} {ps : List Str} {k : Nat} {x : Str} {sp : Sp} (F : FnOk P w K mg base CX0 k f fd ps sp) (g : mg x = some (.ref f)) (kp : PySem.W.keepIn K (.ref f) = true) (b : Binds K fd ps []) : Cal P w K mg base k x sp [] :=
  ⟨f, fd, ps, [], F, g, kp, b, .nil⟩
theorem met_of {P : Program} {w : World} {K : PySem.W.Frag} {mg : Str → Option Value} {base : Heap} {f C : Addr} {fd : FuncData} {ps : List Str} {k : Nat} {m : Str} {sp : Sp} (c : Cls K C) (h : Meth K C m f) (F : FnOk P w K mg base CX0 k f fd ps sp) (b : Binds K fd ps []) : Met P w K mg base k C m sp [] :=
  ⟨f, fd, ps, [], c, h, F, b, .nil⟩
theorem facts {P : Program} {w : World} {K : PySem.W.Frag} {h h0 : Heap} {mg : Str → Option Value} {f : Addr} (X : K.In h) (G : h.Ns mainGlobals mg) (hfa : mg ("law" : Str) = some (.ref f)) (c : He.SaysX fa fn [] [] xk w h0 K) :
    ∃ fd : FuncData, (∀ (s : Shared) (v : Value), BindsTo s fd ⟨[v], []⟩ [("_law_script", v)]) ∧ ∀ base : Heap, K.In base → base.Ns mainGlobals mg → FnOk P w K mg base CX0 8 f fd ["_law_script"] (spLaw K) := by
  have d := c.t.d
  have x := c.more
  unfold xk at x
  simp only [Bool.and_eq_true, decide_eq_true_eq] at x
  obtain ⟨x1, x2, x3, x4, x5⟩ := x
  unfold GX.isB at x5
  simp only [Bool.and_eq_true, decide_eq_true_eq] at x5
  obtain ⟨y1, y2, y3, y4⟩ := x5
  have IC : IsC K (He.ga K "Share") := ⟨He.eqO_ok y1, He.eqO_ok y2, y3, y4, by unfold PySem.W.kitOne; rw [if_pos (beq_self_eq_true _)]⟩
  have gl : ∀ (i : Nat) (x : Str), fa[i]? = some (.glo x) → mg x = some (.ref (He.ga K x)) := fun i x e => He.glo_ok X G (d.fact i e)
  have fr : ∀ (i : Nat) (x : Str), fa[i]? = some (.free x) → mg x = none := fun i x e => He.free_ok X G (d.fact i e)
  have me : ∀ (i : Nat) (C m : Str), fa[i]? = some (.meth C m) → Meth K (He.ga K C) m (He.ma K (He.ga K C) m) := fun i C m e => He.meth_ok (d.fact i e)
  have B : Bl mg := ⟨fr 16 _ rfl, fr 17 _ rfl, fr 18 _ rfl, fr 15 _ rfl, fr 19 _ rfl, fr 20 _ rfl, fr 21 _ rfl⟩
  have T : Cl K mg (He.ga K "Share") := ⟨He.cls_ok (d.fact 24 rfl), He.noat_ok (d.fact 25 rfl), He.noat_ok (d.fact 26 rfl), gl 4 _ rfl⟩
  have mN := me 34 "Nought" "__init__" rfl
  have NG : Ng K mg (He.ga K "Nought") (He.ma K (He.ga K "Nought") "__init__") := ⟨GX.gxB_ok x1, mN.1, eq_of_beq mN.2, GX.vvB_ok x2, He.noat_ok (d.fact 35 rfl), gl 1 _ rfl, fr 23 _ rfl, xfB_ok x3, x4⟩
  obtain ⟨fdN, DN⟩ := d.def_ 1 (d := d_Nought_init) rfl
  obtain ⟨fd2, D2⟩ := d.def_ 2 (d := d_is_whole) rfl
  obtain ⟨fd3, D3⟩ := d.def_ 3 (d := d_common_part) rfl
  obtain ⟨fd4, D4⟩ := d.def_ 4 (d := d_Share_init) rfl
  obtain ⟨fd8, D8⟩ := d.def_ 8 (d := d_Share_plus) rfl
  obtain ⟨fd9, D9⟩ := d.def_ 9 (d := d_Share_less) rfl
  obtain ⟨fd10, D10⟩ := d.def_ 10 (d := d_Share_times) rfl
  obtain ⟨fd11, D11⟩ := d.def_ 11 (d := d_Share_over) rfl
  obtain ⟨fd12, D12⟩ := d.def_ 12 (d := d_Share_below) rfl
  obtain ⟨fd13, D13⟩ := d.def_ 13 (d := d_Share_whole) rfl
  obtain ⟨fd14, D14⟩ := d.def_ 14 (d := d_l_held) rfl
  obtain ⟨fd15, D15⟩ := d.def_ 15 (d := d_l_draw) rfl
  obtain ⟨fd16, D16⟩ := d.def_ 16 (d := d_l_great) rfl
  obtain ⟨fd17, D17⟩ := d.def_ 17 (d := d_l_low) rfl
  obtain ⟨fd18, D18⟩ := d.def_ 18 (d := d_l_add) rfl
  obtain ⟨fd19, D19⟩ := d.def_ 19 (d := d_l_pair) rfl
  obtain ⟨fd20, D20⟩ := d.def_ 20 (d := d_l_number) rfl
  obtain ⟨fd21, D21⟩ := d.def_ 21 (d := d_l_over_nought) rfl
  obtain ⟨fd22, D22⟩ := d.def_ 22 (d := d_l_both_right) rfl
  obtain ⟨fd23, D23⟩ := d.def_ 23 (d := d_law) rfl
  have e := hfa.symm.trans (gl 14 "law" rfl)
  cases e
  have bL := FunD.bindsA (ps := ["_law_script"]) D23 fun _ _ _ _ _ _ us hl => match us, hl with | [_], _ => rfl
  refine ⟨fd23, fun s v => bL s [v] rfl, fun base _ _ => ?_⟩
  have bN : Binds K fdN ["self", "top"] [] := DN.bindsN fun _ _ _ _ _ _ us hl => match us, hl with | [_, _], _ => rfl
  have b2 : Binds K fd2 ["thing"] [] := D2.bindsN fun _ _ _ _ _ _ us hl => match us, hl with | [_], _ => rfl
  have b3 : Binds K fd3 ["one", "other"] [] := D3.bindsN fun _ _ _ _ _ _ us hl => match us, hl with | [_, _], _ => rfl
  have b4 : Binds K fd4 ["self", "top", "bottom"] [] := by
    obtain ⟨ds, h1, h2⟩ := D4.binds1 (ps := ["self", "top", "bottom"]) 3 1 (List.cons_ne_nil _ _) rfl (fun T kV doc pm an cdv ct us its hl h1 => match us, hl, its, h1 with | [_, _, _], _, [_], _ => ⟨_, rfl, rfl⟩)
    cases h1
    exact h2
  have b8 : Binds K fd8 ["self", "other"] [] := D8.bindsN fun _ _ _ _ _ _ us hl => match us, hl with | [_, _], _ => rfl
  have b9 : Binds K fd9 ["self", "other"] [] := D9.bindsN fun _ _ _ _ _ _ us hl => match us, hl with | [_, _], _ => rfl
  have b10 : Binds K fd10 ["self", "many"] [] := D10.bindsN fun _ _ _ _ _ _ us hl => match us, hl with | [_, _], _ => rfl
  have b11 : Binds K fd11 ["self", "many"] [] := D11.bindsN fun _ _ _ _ _ _ us hl => match us, hl with | [_, _], _ => rfl
  have b12 : Binds K fd12 ["self", "other"] [] := D12.bindsN fun _ _ _ _ _ _ us hl => match us, hl with | [_, _], _ => rfl
  have b13 : Binds K fd13 ["self"] [] := D13.bindsN fun _ _ _ _ _ _ us hl => match us, hl with | [_], _ => rfl
  have b14 : Binds K fd14 ["_law_script"] [] := D14.bindsN fun _ _ _ _ _ _ us hl => match us, hl with | [_], _ => rfl
  have b15 : Binds K fd15 ["_law_held_here", "_law_many"] [] := D15.bindsN fun _ _ _ _ _ _ us hl => match us, hl with | [_, _], _ => rfl
  have b16 : Binds K fd16 ["_law_held_here", "_law_many"] [] := D16.bindsN fun _ _ _ _ _ _ us hl => match us, hl with | [_, _], _ => rfl
  have b17 : Binds K fd17 ["_law_top", "_law_bottom"] [] := D17.bindsN fun _ _ _ _ _ _ us hl => match us, hl with | [_, _], _ => rfl
  have b18 : Binds K fd18 ["_law_one", "_law_other"] [] := D18.bindsN fun _ _ _ _ _ _ us hl => match us, hl with | [_, _], _ => rfl
  have b19 : Binds K fd19 ["_law_share"] [] := D19.bindsN fun _ _ _ _ _ _ us hl => match us, hl with | [_], _ => rfl
  have b20 : Binds K fd20 ["_law_held_here"] [] := D20.bindsN fun _ _ _ _ _ _ us hl => match us, hl with | [_], _ => rfl
  have b21 : Binds K fd21 ["_law_share"] [] := D21.bindsN fun _ _ _ _ _ _ us hl => match us, hl with | [_], _ => rfl
  have b22 : Binds K fd22 ["_law_one", "_law_other", "_law_first", "_law_second", "_law_many"] [] := D22.bindsN fun _ _ _ _ _ _ us hl => match us, hl with | [_, _, _, _, _], _ => rfl
  have cW : CalW P w K mg base := cal_of (ok_whole D2 B) (gl 2 "is_whole" rfl) D2.kp b2
  have cG : CalG P w K mg base := cal_of (ok_gcd D3 B) (gl 3 "common_part" rfl) D3.kp b3
  have MK := He.mkr_ok (d.fact 33 (f := .mkr "Share") rfl)
  have MS : MakS P w K mg base (He.ga K "Share") := ⟨_, _, _, _, MK, ok_init D4 cW cG T, T.g, b4, .nil⟩
  have M : Ms P w K mg base (He.ga K "Share") := ⟨met_of T.cl (me 27 "Share" "plus" rfl) (ok_plus D8 MS T) b8, met_of T.cl (me 28 "Share" "less" rfl) (ok_less D9 MS T) b9, met_of T.cl (me 29 "Share" "times" rfl) (ok_times D10 MS T) b10,
    met_of T.cl (me 30 "Share" "over" rfl) (ok_over D11 MS T) b11, met_of T.cl (me 31 "Share" "below" rfl) (ok_below D12 T) b12, met_of T.cl (me 32 "Share" "whole" rfl) (ok_wholeM D13 T) b13⟩
  have cH := cal_of (P := P) (w := w) (base := base) (ok_held D14 B) (gl 5 "_law_held" rfl) D14.kp b14
  have cD : CalD P w K mg base := cal_of (ok_draw D15 B) (gl 6 "_law_draw" rfl) D15.kp b15
  have cGr : CalGr P w K mg base := cal_of (ok_great D16 cD) (gl 7 "_law_great" rfl) D16.kp b16
  have cL : CalL P w K mg base := cal_of (ok_low D17 B) (gl 8 "_law_low" rfl) D17.kp b17
  have cA := cal_of (ok_add D18 cL) (gl 9 "_law_add" rfl) D18.kp b18
  have cP := cal_of (P := P) (w := w) (base := base) (ok_pair D19 B T IC) (gl 10 "_law_pair" rfl) D19.kp b19
  have cN := cal_of (ok_number D20 cD cGr) (gl 11 "_law_number" rfl) D20.kp b20
  have FN := ok_NI (P := P) (w := w) (base := base) DN NG
  have FI := ok_initX (C := He.ga K "Share") D4 cW NG FN bN
  have FO := ok_overX D11 MK FI b4 T
  have cO := cal_of (ok_on D21 T NG (me 30 "Share" "over" rfl) FO b11) (gl 12 "_law_over_nought" rfl) D21.kp b21
  have cB := cal_of (ok_both D22 B M cP cA cL cO) (gl 13 "_law_both_right" rfl) D22.kp b22
  exact ok_law D23 B cH cD cN cL MS cP cB
end K02
open PySem PySem.W PySem.Calls PyProof.Rows
set_option maxRecDepth 100000 in
set_option maxHeartbeats 0 in
theorem PySem.Challenge.cw_rideturns_k02_sums_of_shares_holds : PySem.Challenge.rw_rideturns_k02_sums_of_shares.Holds := by
  w_on; o_law
  refine HandSHeadRun.head_any (r := OpenLaw.row PySem.Challenge.rw_rideturns_k02_sums_of_shares) (q := view (OpenLaw.row PySem.Challenge.rw_rideturns_k02_sums_of_shares).prog [18]) (H := K02.hk) (ob := K02.ob) (M := 3000) (loose := K02.loose) (d := HandSHeadRun.topDef (OpenLaw.row PySem.Challenge.rw_rideturns_k02_sums_of_shares).prog 18) (kwd := []) K02.ob_eq
    (by kernel_rfl) (fun s => by kernel_rfl) K02.run (by kernel_rfl) (by kernel_rfl) (by kernel_rfl) (by rfl) (by first | assumption | decide +kernel) (by decide +kernel) ⟨rfl, rfl, rfl, rfl, rfl, by decide +kernel⟩ ?hw ?hc
  case hw => w_witness2
  case hc =>
    refine L2.walk_ofE (l := PySem.Challenge.rw_rideturns_k02_sums_of_shares) (n := 63) (k := 8) (x := "_law_script") (CX := L2.CX0) rfl (by decide) (by kernel_rfl) ⟨rfl, by decide, by decide⟩ ?F (fun _ _ _ _ z => z)
    intro w mg fa h Y G hmg0
    obtain ⟨K, KX, c⟩ := Y
    have hmg : mg ("law" : PySem.Str) = some (.ref fa) := by
      have e : (HandSHeadRun.topDef (OpenLaw.row PySem.Challenge.rw_rideturns_k02_sums_of_shares).prog 18).name = ("law" : PySem.Str) := by kernel_rfl
      rw [← e]
      exact hmg0
    obtain ⟨fd, hb, hF⟩ := K02.facts (P := (PySem.Challenge.rw_rideturns_k02_sums_of_shares).prog) (w := w) KX G hmg c
    exact ⟨K, fd, K02.spLaw K, KX, hb, fun H a ns hl _ hS => ⟨a, ns, rfl, hS, hl, fun _ => rfl⟩, hF⟩
