import PyProof.Rows.All
import Wide.All
import OpenK.AllK
import Wide.FinOn
import HandS.ForMost
import HandS.ForExc
import HandS.Defaults
import HandS.Codes
import HandS.IsInst
import HandS.Wide
import HandS.Flow
import HandS.Evl
import HandS.Steps
import HandS.ExcField
import HandS.Head0
import HandS.Head1
import HandS.Head2
import HandS.HeadEnd
import HandS.HeadHook1
import HandS.HeadHook2
import HandS.HeadHook3
import HandS.HeadHook4
import KE.KExcInit
import HandS.ExcInit
import KE.KEqSeq
import KE.KCallOwn
import KE.IntTextLaws
import PyProof.StrLawsAffix
import HandS.FStr
import HandS.StrMore
import HandS.Walk
import PyProof.EqKinds
import KE.KDictZip
import KE.KTurns
import HandS.More
import HandS.Style
import HandS.DeepEq
import PySem.Challenge.RW_rideturns_k05_whole_shares_there_and_bac
set_option Elab.async false
set_option linter.all false
set_option maxRecDepth 100000
set_option maxHeartbeats 4000000
namespace K05
open PySem PySem.Spec PyProof.Rows L2
def top (i : Nat) : Stmt := PySem.Challenge.pw_rideturns_k05_whole_shares_there_and_bac.main.body.getD i (.Pass ⟨0, 0, 0, 0⟩)
abbrev s_NoKind_init : Stmt := inClass (top 1) 0
abbrev N_NoKind_init : List Str := ["self", "thing"]
theorem sc_NoKind_init : FnScope N_NoKind_init ["self", "thing"] (defScope s_NoKind_init) := ⟨rfl, rfl, rfl, by decide +kernel, rfl, by decide +kernel, by decide +kernel⟩
def d_NoKind_init : He.DefD := ⟨("NoKind", some "__init__"), "__init__", "NoKind.__init__", defArgs s_NoKind_init, defBody s_NoKind_init, defScope s_NoKind_init, [], []⟩
abbrev s_Nought_init : Stmt := inClass (top 2) 0
abbrev N_Nought_init : List Str := ["self", "top"]
theorem sc_Nought_init : FnScope N_Nought_init ["self", "top"] (defScope s_Nought_init) := ⟨rfl, rfl, rfl, by decide +kernel, rfl, by decide +kernel, by decide +kernel⟩
def d_Nought_init : He.DefD := ⟨("Nought", some "__init__"), "__init__", "Nought.__init__", defArgs s_Nought_init, defBody s_Nought_init, defScope s_Nought_init, [], []⟩
abbrev s_NoShare_init : Stmt := inClass (top 3) 0
abbrev N_NoShare_init : List Str := ["self", "text"]
theorem sc_NoShare_init : FnScope N_NoShare_init ["self", "text"] (defScope s_NoShare_init) := ⟨rfl, rfl, rfl, by decide +kernel, rfl, by decide +kernel, by decide +kernel⟩
def d_NoShare_init : He.DefD := ⟨("NoShare", some "__init__"), "__init__", "NoShare.__init__", defArgs s_NoShare_init, defBody s_NoShare_init, defScope s_NoShare_init, [], []⟩
abbrev s_is_whole : Stmt := top 5
abbrev N_is_whole : List Str := ["thing"]
theorem sc_is_whole : FnScope N_is_whole ["thing"] (defScope s_is_whole) := ⟨rfl, rfl, rfl, by decide +kernel, rfl, by decide +kernel, by decide +kernel⟩
def d_is_whole : He.DefD := ⟨("is_whole", none), "is_whole", "is_whole", defArgs s_is_whole, defBody s_is_whole, defScope s_is_whole, [], []⟩
abbrev s_common_part : Stmt := top 8
abbrev N_common_part : List Str := ["one", "other"]
theorem sc_common_part : FnScope N_common_part ["one", "other"] (defScope s_common_part) := ⟨rfl, rfl, rfl, by decide +kernel, rfl, by decide +kernel, by decide +kernel⟩
def d_common_part : He.DefD := ⟨("common_part", none), "common_part", "common_part", defArgs s_common_part, defBody s_common_part, defScope s_common_part, [], []⟩
abbrev s_Share_init : Stmt := inClass (top 9) 0
abbrev N_Share_init : List Str := ["self", "top", "bottom", "thing", "common"]
theorem sc_Share_init : FnScope N_Share_init ["self", "top", "bottom"] (defScope s_Share_init) := ⟨rfl, rfl, rfl, by decide +kernel, rfl, by decide +kernel, by decide +kernel⟩
def d_Share_init : He.DefD := ⟨("Share", some "__init__"), "__init__", "Share.__init__", defArgs s_Share_init, defBody s_Share_init, defScope s_Share_init, [.int 1], []⟩
abbrev s_Share_eq : Stmt := inClass (top 9) 1
abbrev N_Share_eq : List Str := ["self", "other"]
theorem sc_Share_eq : FnScope N_Share_eq ["self", "other"] (defScope s_Share_eq) := ⟨rfl, rfl, rfl, by decide +kernel, rfl, by decide +kernel, by decide +kernel⟩
def d_Share_eq : He.DefD := ⟨("Share", some "__eq__"), "__eq__", "Share.__eq__", defArgs s_Share_eq, defBody s_Share_eq, defScope s_Share_eq, [], []⟩
abbrev s_Share_str : Stmt := inClass (top 9) 2
abbrev N_Share_str : List Str := ["self"]
theorem sc_Share_str : FnScope N_Share_str ["self"] (defScope s_Share_str) := ⟨rfl, rfl, rfl, by decide +kernel, rfl, by decide +kernel, by decide +kernel⟩
def d_Share_str : He.DefD := ⟨("Share", some "__str__"), "__str__", "Share.__str__", defArgs s_Share_str, defBody s_Share_str, defScope s_Share_str, [], []⟩
abbrev s_Share_repr : Stmt := inClass (top 9) 3
abbrev N_Share_repr : List Str := ["self"]
theorem sc_Share_repr : FnScope N_Share_repr ["self"] (defScope s_Share_repr) := ⟨rfl, rfl, rfl, by decide +kernel, rfl, by decide +kernel, by decide +kernel⟩
def d_Share_repr : He.DefD := ⟨("Share", some "__repr__"), "__repr__", "Share.__repr__", defArgs s_Share_repr, defBody s_Share_repr, defScope s_Share_repr, [], []⟩
abbrev s_Share_plus : Stmt := inClass (top 9) 4
abbrev N_Share_plus : List Str := ["self", "other"]
theorem sc_Share_plus : FnScope N_Share_plus ["self", "other"] (defScope s_Share_plus) := ⟨rfl, rfl, rfl, by decide +kernel, rfl, by decide +kernel, by decide +kernel⟩
def d_Share_plus : He.DefD := ⟨("Share", some "plus"), "plus", "Share.plus", defArgs s_Share_plus, defBody s_Share_plus, defScope s_Share_plus, [], []⟩
abbrev s_Share_less : Stmt := inClass (top 9) 5
abbrev N_Share_less : List Str := ["self", "other"]
theorem sc_Share_less : FnScope N_Share_less ["self", "other"] (defScope s_Share_less) := ⟨rfl, rfl, rfl, by decide +kernel, rfl, by decide +kernel, by decide +kernel⟩
def d_Share_less : He.DefD := ⟨("Share", some "less"), "less", "Share.less", defArgs s_Share_less, defBody s_Share_less, defScope s_Share_less, [], []⟩
abbrev s_Share_times : Stmt := inClass (top 9) 6
abbrev N_Share_times : List Str := ["self", "many"]
theorem sc_Share_times : FnScope N_Share_times ["self", "many"] (defScope s_Share_times) := ⟨rfl, rfl, rfl, by decide +kernel, rfl, by decide +kernel, by decide +kernel⟩
def d_Share_times : He.DefD := ⟨("Share", some "times"), "times", "Share.times", defArgs s_Share_times, defBody s_Share_times, defScope s_Share_times, [], []⟩
abbrev s_Share_over : Stmt := inClass (top 9) 7
abbrev N_Share_over : List Str := ["self", "many"]
theorem sc_Share_over : FnScope N_Share_over ["self", "many"] (defScope s_Share_over) := ⟨rfl, rfl, rfl, by decide +kernel, rfl, by decide +kernel, by decide +kernel⟩
def d_Share_over : He.DefD := ⟨("Share", some "over"), "over", "Share.over", defArgs s_Share_over, defBody s_Share_over, defScope s_Share_over, [], []⟩
abbrev s_Share_below : Stmt := inClass (top 9) 8
abbrev N_Share_below : List Str := ["self", "other"]
theorem sc_Share_below : FnScope N_Share_below ["self", "other"] (defScope s_Share_below) := ⟨rfl, rfl, rfl, by decide +kernel, rfl, by decide +kernel, by decide +kernel⟩
def d_Share_below : He.DefD := ⟨("Share", some "below"), "below", "Share.below", defArgs s_Share_below, defBody s_Share_below, defScope s_Share_below, [], []⟩
abbrev s_Share_whole : Stmt := inClass (top 9) 9
abbrev N_Share_whole : List Str := ["self"]
theorem sc_Share_whole : FnScope N_Share_whole ["self"] (defScope s_Share_whole) := ⟨rfl, rfl, rfl, by decide +kernel, rfl, by decide +kernel, by decide +kernel⟩
def d_Share_whole : He.DefD := ⟨("Share", some "whole"), "whole", "Share.whole", defArgs s_Share_whole, defBody s_Share_whole, defScope s_Share_whole, [], []⟩
abbrev s_total : Stmt := top 10
abbrev N_total : List Str := ["shares", "start", "summed", "share"]
theorem sc_total : FnScope N_total ["shares", "start"] (defScope s_total) := ⟨rfl, rfl, rfl, by decide +kernel, rfl, by decide +kernel, by decide +kernel⟩
def d_total : He.DefD := ⟨("total", none), "total", "total", defArgs s_total, defBody s_total, defScope s_total, [.int 0], []⟩
abbrev s_in_order : Stmt := top 11
abbrev N_in_order : List Str := ["names", "shares", "nought", "ordered", "name", "share", "at"]
theorem sc_in_order : FnScope N_in_order ["names", "shares"] (defScope s_in_order) := ⟨rfl, rfl, rfl, by decide +kernel, rfl, by decide +kernel, by decide +kernel⟩
def d_in_order : He.DefD := ⟨("in_order", none), "in_order", "in_order", defArgs s_in_order, defBody s_in_order, defScope s_in_order, [], []⟩
abbrev s_is_number_text : Stmt := top 12
abbrev N_is_number_text : List Str := ["text", "sign"]
theorem sc_is_number_text : FnScope N_is_number_text ["text"] (defScope s_is_number_text) := ⟨rfl, rfl, rfl, by decide +kernel, rfl, by decide +kernel, by decide +kernel⟩
def d_is_number_text : He.DefD := ⟨("is_number_text", none), "is_number_text", "is_number_text", defArgs s_is_number_text, defBody s_is_number_text, defScope s_is_number_text, [], []⟩
abbrev s_share_of : Stmt := top 13
abbrev N_share_of : List Str := ["text", "top", "stroke", "bottom", "share"]
theorem sc_share_of : FnScope N_share_of ["text"] (defScope s_share_of) := ⟨rfl, rfl, rfl, by decide +kernel, rfl, by decide +kernel, by decide +kernel⟩
def d_share_of : He.DefD := ⟨("share_of", none), "share_of", "share_of", defArgs s_share_of, defBody s_share_of, defScope s_share_of, [], []⟩
abbrev s_l_held : Stmt := top 15
abbrev N_l_held : List Str := ["_law_script"]
theorem sc_l_held : FnScope N_l_held ["_law_script"] (defScope s_l_held) := ⟨rfl, rfl, rfl, by decide +kernel, rfl, by decide +kernel, by decide +kernel⟩
def d_l_held : He.DefD := ⟨("_law_held", none), "_law_held", "_law_held", defArgs s_l_held, defBody s_l_held, defScope s_l_held, [], []⟩
abbrev s_l_draw : Stmt := top 16
abbrev N_l_draw : List Str := ["_law_held_here", "_law_many", "_law_found", "_law_at", "_law_cell", "_law_number"]
theorem sc_l_draw : FnScope N_l_draw ["_law_held_here", "_law_many"] (defScope s_l_draw) := ⟨rfl, rfl, rfl, by decide +kernel, rfl, by decide +kernel, by decide +kernel⟩
def d_l_draw : He.DefD := ⟨("_law_draw", none), "_law_draw", "_law_draw", defArgs s_l_draw, defBody s_l_draw, defScope s_l_draw, [], []⟩
abbrev s_l_share : Stmt := top 17
abbrev N_l_share : List Str := ["_law_held_here", "_law_top", "_law_bottom"]
theorem sc_l_share : FnScope N_l_share ["_law_held_here"] (defScope s_l_share) := ⟨rfl, rfl, rfl, by decide +kernel, rfl, by decide +kernel, by decide +kernel⟩
def d_l_share : He.DefD := ⟨("_law_share", none), "_law_share", "_law_share", defArgs s_l_share, defBody s_l_share, defScope s_l_share, [], []⟩
abbrev s_l_stepped : Stmt := top 18
abbrev N_l_stepped : List Str := ["_law_share_here", "_law_way", "_law_other", "_law_many"]
theorem sc_l_stepped : FnScope N_l_stepped ["_law_share_here", "_law_way", "_law_other", "_law_many"] (defScope s_l_stepped) := ⟨rfl, rfl, rfl, by decide +kernel, rfl, by decide +kernel, by decide +kernel⟩
def d_l_stepped : He.DefD := ⟨("_law_stepped", none), "_law_stepped", "_law_stepped", defArgs s_l_stepped, defBody s_l_stepped, defScope s_l_stepped, [], []⟩
abbrev s_l_back_right : Stmt := top 19
abbrev N_l_back_right : List Str := ["_law_held_here", "_law_some", "_law_first", "_law_steps", "_law_turn", "_law_many", "_law_share_here", "_law_way", "_law_other"]
theorem sc_l_back_right : FnScope N_l_back_right ["_law_held_here", "_law_some"] (defScope s_l_back_right) := ⟨rfl, rfl, rfl, by decide +kernel, rfl, by decide +kernel, by decide +kernel⟩
def d_l_back_right : He.DefD := ⟨("_law_back_right", none), "_law_back_right", "_law_back_right", defArgs s_l_back_right, defBody s_l_back_right, defScope s_l_back_right, [], []⟩
abbrev s_l_order_right : Stmt := top 20
abbrev N_l_order_right : List Str := ["_law_some", "_law_one", "_law_other", "_law_k", "_law_names", "_law_table", "_law_found"]
theorem sc_l_order_right : FnScope N_l_order_right ["_law_some"] (defScope s_l_order_right) := ⟨rfl, rfl, rfl, by decide +kernel, rfl, by decide +kernel, by decide +kernel⟩
def d_l_order_right : He.DefD := ⟨("_law_order_right", none), "_law_order_right", "_law_order_right", defArgs s_l_order_right, defBody s_l_order_right, defScope s_l_order_right, [], []⟩
abbrev s_law : Stmt := top 21
abbrev N_law : List Str := ["_law_script", "_law_held_here", "_law_some", "_law_whole", "_law_at", "_law_other", "_law_rest", "_law_share_here", "_law_k", "_law_turn"]
theorem sc_law : FnScope N_law ["_law_script"] (defScope s_law) := ⟨rfl, rfl, rfl, by decide +kernel, rfl, by decide +kernel, by decide +kernel⟩
def d_law : He.DefD := ⟨("law", none), "law", "law", defArgs s_law, defBody s_law, defScope s_law, [], []⟩
def fn : List He.DefD := [d_NoKind_init, d_Nought_init, d_NoShare_init, d_is_whole, d_common_part, d_Share_init, d_Share_eq, d_Share_str, d_Share_repr, d_Share_plus, d_Share_less, d_Share_times, d_Share_over, d_Share_below, d_Share_whole, d_total, d_in_order, d_is_number_text, d_share_of, d_l_held, d_l_draw, d_l_share, d_l_stepped, d_l_back_right, d_l_order_right, d_law]
end K05
set_option Elab.async false
set_option linter.all false
set_option maxRecDepth 100000
set_option maxHeartbeats 4000000
/-! GX: own exceptions over any built-in base, whose own __init__ calls the base's and stores a field. -/
namespace GX
open PySem PySem.Spec PyProof.Rows L2

/-- what the written part tells of the class -/
structure Gx (K : PySem.W.Frag) (C : Addr) (bmB : List Value) (nid : String) : Prop where
  over : PySem.W.excOver K C bmB = true
  made : PySem.W.excInitIn K C bmB nid = true
  hasd : ∃ cd, PySem.W.clsIn K C = some cd ∧ cd.hasDict = true
  sets : PySem.W.findIn K (.ref C) "__setattr__" = some (some (.builtin "object.__setattr__"))
  base : PySem.W.subIn K (.ref C) (.type "BaseException") = some true
  typ : PySem.W.typeIn K (.ref C) = some (.type "type")
  keep : PySem.W.keepIn K (.ref C) = true

section
open Builtin Builtin.ObjectAttr
variable {prog : Program} {w : World} {A : Around} {R : Result → Shared → Prop} {hp : Heap} {g : Array GenState} {d : Drawn} {t : Nat} {os : OsState} {B : String} {bmB : List Value}
theorem first_store {K : PySem.W.Frag} {name : Str} {tk : Tok} {v : Value} {x C : Addr} {fv : Array Value} {cd : ClassData} (SF : StoreFacts B bmB "object.__setattr__" "object")
    (X : K.In hp) (hx : hp.get? x = some { cls := .ref C, data := .fields fv }) (ho : PySem.W.excOver K C bmB = true) (hc : PySem.W.clsIn K C = some cd) (hd : cd.hasDict = true)
    (hf : PySem.W.findIn K (.ref C) name = some none)
    (post : ∀ h' tk' dx, (∀ b o, b ≠ x → hp.get? b = some o → h'.get? b = some o) → hp.objs.size ≤ dx → dx ≠ x →
      h'.get? x = some { cls := .ref C, dict := some dx, data := .fields fv } → h'.Ns1 dx (fun y => if y = name then some v else none) → R (.ok (.ret .none)) ⟨h', g, d, tk', os⟩) :
    codeAny (model prog w) A (.call (.builtin "object.__setattr__") ⟨[.ref x, .str name tk, v], []⟩) R ⟨hp, g, d, t, os⟩ := by
  have inst : PySem.W.InstAt hp x { cls := .ref C, data := .fields fv } C none := ⟨hx, rfl, rfl, trivial⟩
  have far : x ≠ hp.objs.size := Nat.ne_of_lt (Heap.lt_size hx)
  have lc : PySem.W.Looks (model prog w) hp (classData C) cd := PySem.W.looks_clsIn X hc
  refine PySem.W.osa_openX (r := none) SF X inst ho (by unfold PySem.W.takerIn; rw [hf]; rfl) fun b => ?_
  dsimp only
  obtain ⟨n1, n2, n3, n4, n5, n6, n7, n8, n9, n10, n11⟩ := cd
  dsimp only at hd
  subst hd
  unfold storeInOwnDict ownDictForStores
  repeat (first | with_reducible refine PySem.HandSPX.store_in_new ?_ ?_ | with_reducible refine wpAny_loadPart_at hx ?_ | with_reducible refine lc.at ?_ | wp_step)
  · exact ⟨_, #[], _, (Heap.get?_update_ne _ _ _ _ far.symm).trans (Heap.get?_push_at rfl rfl), rfl, fun e he => absurd he (by simp), fun _ => rfl⟩
  · intro h' tk' hn hs
    have hx1 : (hp.push { cls := .type "dict", data := .dict #[] }).get? x = some { cls := .ref C, data := .fields fv } := Heap.get?_push_of_some _ hx
    refine post h' tk' hp.objs.size (fun b o hb hob => ?_) (Nat.le_refl _) far.symm ?_ hn
    · have e1 := hs.2 b (Nat.ne_of_lt (Heap.lt_size hob))
      rw [e1, Heap.get?_update_ne _ _ _ _ hb]
      exact Heap.get?_push_of_some _ hob
    · rw [hs.2 x far]
      exact Heap.get?_update_self _ hx1 rfl
end

section
variable {X : Cx} {pins : List (Addr × Obj)} {σ : L2.St} {H : Hp} {s : Shared} {a C dx : Addr} {f : Str} {y : V} {u : Value} {Q : Unit → Shared → Prop} {E : Value → Shared → Prop} {A : Around} {B : String} {bmB : List Value} {nid iid : String}
/-- self.f = y, the first store -/
theorem put_first (SF : StoreFacts B bmB "object.__setattr__" "object") (T : Gx X.K C bmB nid) (I : Inv X pins σ H s) (e : H a = some (exo a C none)) (hno : PySem.W.findIn X.K (.ref C) f = some none) (ry : RelV y u)
    (post : ∀ dx s', H dx = none → dx ≠ a → Inv X pins σ (upd (upd H dx (exd dx [(f, y)])) a (exo a C (some dx))) s' → Q () s') : wpAny (model X.prog X.w) A (setAttr (.ref a) f u) Q E s := by
  obtain ⟨cd, hcd, hdd⟩ := T.hasd
  obtain ⟨t1, at1⟩ := exo_at I.hok e
  obtain ⟨hp, g, d, t, os⟩ := s
  refine PySem.W.set_plain I.kIn (ox := { cls := .ref C, dict := none, data := .fields #[.ref t1, .none, .none, .none, .bool false, .none] }) (od := none) ⟨at1, rfl, rfl, trivial⟩ T.sets ?_
  refine first_store SF I.kIn at1 T.over hcd hdd hno (fun h' tk' dx kp dn dne hx hn => ?_)
  have fresh : H dx = none := I.hok.fresh dn
  have old : ∀ {b : Addr} {o : Obj}, hp.get? b = some o → b ≠ dx := fun {b o} q => Nat.ne_of_lt (Nat.lt_of_lt_of_le (Heap.lt_size q) dn)
  have other : ∀ {b : Addr}, H b = none → b ≠ a := fun {b} n z => by
    rw [z, e] at n
    cases n
  have un : Un X.fs [] H (upd (upd H dx (exd dx [(f, y)])) a (exo a C (some dx))) hp h' := {
    keep := fun b o q n _ _ => kp b o (other n) q
    slot := fun b o q n _ _ => ⟨o.slots, kp b o (other n) q⟩
    free := fun b o q n _ => by rw [upd_ne (other n), upd_ne (old q)]; exact n
    there := fun b o q _ => by
      by_cases hb : b = a
      · exact ⟨_, hb ▸ hx⟩
      · exact ⟨o, kp b o hb q⟩
    tups := fun b xs q => by rw [upd_ne (at_ne e q exo_tup), upd_ne (ne_of_none q fresh)]; exact q
    frzs := fun b o v q => by rw [upd_ne (at_ne e q exo_frz), upd_ne (ne_of_none q fresh)]; exact q
    tbls := fun b ps q => ⟨#[], by rw [upd_ne (at_ne e q exo_tbl), upd_ne (ne_of_none q fresh), q]; simp⟩ }
  refine post dx _ fresh dne (I.un (t' := tk') un fun b o q => ?_)
  by_cases hb : b = a
  · subst hb
    rw [upd_same] at q
    cases q
    exact exo_ok hx
  · rw [upd_ne hb] at q
    by_cases hd : b = dx
    · subst hd
      rw [upd_same] at q
      cases q
      exact exd_ok hn (relO_put (fs := []) ry fun g => True.intro)
    · rw [upd_ne hd] at q
      refine (I.hok b o q).stay (fun c v hc z => kp c v ?_ z) (fun c hc => ?_) (fun c xs hc => ?_)
      · rcases hc with hc | hc
        · exact hc ▸ hb
        · exact at_ne e hc exo_own
      · rw [upd_ne (at_ne e hc exo_own), upd_ne (ne_of_none hc fresh)]; exact hc
      · rw [upd_ne (at_ne e hc exo_tup), upd_ne (ne_of_none hc fresh)]; exact hc
/-- Base.__init__(self, ..) -/
theorem base_init {us : List Value} {Q : Value → Shared → Prop} (FB : ExcBaseFacts B nid iid bmB) (T : Gx X.K C bmB nid) (I : Inv X pins σ H s) (e : H a = some (exo a C none)) (hl : us.length ≤ sizeLine) (post : ∀ s', Inv X pins σ H s' → Q .none s') :
    wpAny (model X.prog X.w) A (call (.builtin iid) (.ref a :: us)) Q E s := by
  obtain ⟨nm, N, qn, bs, bm, hdct, sn, sub, ab, col, dd, k0, k1, k2, k3, k5, hC, hT⟩ := PySem.W.excInit_of I.kIn T.made
  obtain ⟨t1, at1⟩ := exo_at I.hok e
  obtain ⟨hp, g, d, t, os⟩ := s
  refine wpAny_call (PySem.HandSPX.init_base FB hT hC at1 hl fun h' t2 kp hx => ?_)
  have J := I.write (t' := t) (x := a) (e := a) (o := exo a C none) (by rw [e]; exact True.intro) (.inl rfl) kp ⟨_, hx⟩ (exo_ok hx)
  have same : upd H a (exo a C none) = H := funext fun b => by
    by_cases hb : b = a
    · rw [hb, upd_same, e]
    · rw [upd_ne hb]
  rw [same] at J
  exact post _ J
end

/-! ### readings and rules -/
/-- Base.__init__(self, ..) -/
def tBi (K : PySem.W.Frag) (bmB : List Value) (nid : String) (ta : TA) : TE := fun σ H Q => ta σ H fun vs H1 => ∃ (a C : Addr) (ws : List V), vs = .ref a :: ws ∧ ws.length ≤ 1000 ∧ Gx K C bmB nid ∧ H1 a = some (exo a C none) ∧ Q .non H1
/-- self.f = e, the first one -/
def tPf (K : PySem.W.Frag) (bmB : List Value) (nid : String) (f : Str) (to te : TE) : TS := fun D σ H => te σ H fun y H1 => to σ H1 fun x H2 => ∃ a C : Addr, x = .ref a ∧ Gx K C bmB nid ∧ PySem.W.findIn K (.ref C) f = some none ∧
  H2 a = some (exo a C none) ∧ ∀ dx, H2 dx = none → dx ≠ a → D.nx σ (upd (upd H2 dx (exd dx [(f, y)])) a (exo a C (some dx)))
section
variable {X : Cx} {o e : Expr} {es : List Expr} {to te : TE} {ta : TA} {f : Str} {p p' p1 p2 pos : Pos} {B nid iid : String} {bmB : List Value} {x : Str}
theorem pe_bi {pl : Sem Bool} (FB : ExcBaseFacts B nid iid bmB) (hg : Gl X x) (hm : X.mg x = none) (hv : bootBuiltins x = some (.type B)) (ty : typeOf (.type B) = pure (.type "type"))
    (vV : PySem.W.findCls X.K (.type B) (.type "type") "__init__" = some (.val (.builtin iid))) (hb : PySem.W.handedIn (.builtin iid) = true) (hst : Manifest.isStub B = false) (ha : PA X (e :: es) ta)
    (hc : eval (.Call (.Attribute (.Name x p1) "__init__" p2) (e :: es) [] pos) X.env = (do
      let ov ← eval (.Name x p1) X.env
      standAt p2.atName
      let (f, first) ← holding [ov] (getMethod ov "__init__" pl)
      callWith pos f first (backTo pos (starEach (e :: es) X.env)) (backToKw pos (keywordEach [] X.env))) := by rfl)
    (hn : x ≠ "__name__" := by decide) (hd : (x == ("__debug__" : Str)) = false := by decide)
    (he : starEach (e :: es) X.env = (false, eval e X.env) :: starEach es X.env := by rfl) (hpl : (backTo pos (starEach es X.env)).any (·.1) = false := by rfl) :
    PE X (.Call (.Attribute (.Name x p1) "__init__" p2) (e :: es) [] pos) (tBi X.K bmB nid ta) := by
  refine ⟨fun pins s σ H Q I h => ?_⟩
  refine PySem.W.methodCall_KW (ld_blt I hg hm hv ?_ hn hd) hc
  obtain ⟨m, fr⟩ := I.fr
  refine PySem.W.method_type fr I.ok.mod.kin ty hst vV hb ?_
  show wpAny _ _ (callWith pos (Value.builtin iid) [] (backTo pos (starEach (e :: es) X.env)) []) _ _ _
  refine PyProof.Rows.callWith_method1 (thn (ha.run pos pins _ σ H _ (I.tok _) h) fun us s1 hh => ?_) he hpl
  obtain ⟨vs, H1, I1, r1, a, C, ws, ev, hl, T, ea, q⟩ := hh
  subst ev
  cases r1 with
  | @cons _ u0 _ ur ra rw' =>
    obtain rfl : u0 = Value.ref a := ra
    have hlen : ur.length ≤ sizeLine := by
      have := Paired.length rw'
      rw [sizeLine_eq]
      omega
    exact base_init FB T I1 ea hlen fun s' J => ⟨.non, H1, J, rfl, q⟩
theorem ps_pf (SF : StoreFacts B bmB "object.__setattr__" "object") (ho : PE X o to) (he : PE X e te) (hs : swapsWith e (some (.Attribute o f p')) pos.line X.env = pure false := by rfl) : PS X (.Assign [.Attribute o f p'] e pos) (tPf X.K bmB nid f to te) := by
  refine ⟨fun pins s σ H D I h => ?_⟩
  refine plainObj_wpAny_Assign_Attribute (thn (he.run pins s σ H _ I h) fun v s1 h1 => ?_) hs
  obtain ⟨y, H1, I1, r1, q1⟩ := h1
  refine thn (ho.run pins s1 σ H1 _ I1 q1) fun u s2 h2 => ?_
  obtain ⟨z, H2, I2, r2, a, C, ex, T, hno, ea, q⟩ := h2
  subst ex
  obtain rfl : u = Value.ref a := r2
  exact put_first SF T I2 ea hno r1 fun dx s' n ne J => ⟨σ, _, J, q dx n ne⟩
/-- C(e, ..) as what is raised, C's own __init__ keeping sp -/
theorem pmk_gx {CX : CXT} {C fI : Addr} {k : Nat} {fd : FuncData} {ps : List Str} {sp : Sp} {ds : List Value} {dvs : List V} (FB : ExcBaseFacts B nid iid bmB) (T : Gx X.K C bmB nid) (iC : PySem.W.findIn X.K (.ref C) "__init__" = some (some (.ref fI)))
    (tI : PySem.W.typeIn X.K (.ref fI) = some (.type "function"))
    (F1 : FnOk X.prog X.w X.K X.mg X.base CX k fI fd ps sp) (hr : Room (k + 1) X.A) (hb : Binds X.K fd ps ds) (hd : Vals dvs ds) (hx : Passes CX X (fun _ _ _ => False)) (hg : Gl X x) (hm : X.mg x = some (.ref C)) (ha : PA X (e :: es) ta)
    (hdb : (x == ("__debug__" : Str)) = false := by decide) (he : starEach (e :: es) X.env = (false, eval e X.env) :: starEach es X.env := by rfl) (hpl : (backTo pos (starEach es X.env)).any (·.1) = false := by rfl) :
    PMk X (.Call (.Name x p) (e :: es) [] pos) (tMkO C sp dvs ta) := by
  intro pins s σ H Q I h
  refine wpAny_Call_Name_kw (ld_glob I hg hm ?_ hdb)
  refine PySem.W.callWith_K (h₀ := X.base) I.ok.mod.kin T.keep (thn (ha.run pos pins s σ H _ I h) fun us s1 hh => ?_) he hpl
  obtain ⟨vs, H1, I1, r1, hz, q1⟩ := hh
  refine ⟨I1.kIn, ?_⟩
  show wpAny _ _ (call (.ref C) us) _ _ _
  obtain ⟨nm, N, qn, bs, bm, hdct, sn, sub, ab, col, dd, k0, k1, k2, k3, k5, hC, hT⟩ := PySem.W.excInit_of I1.kIn T.made
  obtain ⟨hp, g, dr, tk, os⟩ := s1
  have big : hp.objs.size ≤ hp.objs.size + 1 := Nat.le_succ _
  have hq := q1 (hp.objs.size + 1) (I1.hok.fresh big)
  have kk : ∀ b o, hp.get? b = some o → ((hp.push (PySem.W.kdv_tup us)).push (PySem.HandSPX.excO C hp.objs.size)).get? b = some o := fun b o z =>
    Heap.get?_push_of_some _ (Heap.get?_push_of_some _ z)
  have there : ((hp.push (PySem.W.kdv_tup us)).push (PySem.HandSPX.excO C hp.objs.size)).get? (hp.objs.size + 1) = some (PySem.HandSPX.excO C hp.objs.size) := by heap_get
  have I2 := I1.laid (t' := tk) (a := hp.objs.size + 1) (o := exo (hp.objs.size + 1) C none) (h' := (hp.push (PySem.W.kdv_tup us)).push (PySem.HandSPX.excO C hp.objs.size)) kk big (exo_ok there)
  have r2 : Vals (V.ref (hp.objs.size + 1) :: (vs ++ dvs)) (Value.ref (hp.objs.size + 1) :: (us ++ ds)) := .cons rfl (r1.append hd)
  have hl : (Value.ref (hp.objs.size + 1) :: us ++ ds).length = ps.length := by
    have e1 := r2.length
    rw [F1.len _ _ _ _ hq] at e1
    exact e1.symm
  have few : us.length ≤ sizeLine := by
    have := Paired.length r1
    rw [sizeLine_eq]
    omega
  refine wpAny_call (PySem.HandSPX.call_own FB hT hC (PySem.W.looks_findIn I1.kIn iC) (fun self => PySem.W.bind_fn I1.kIn self tI) few (codeAny_mono
    (F1.run _ X.stack _ _ ⟨Value.ref (hp.objs.size + 1) :: us, []⟩ (Value.ref (hp.objs.size + 1) :: (us ++ ds)) _ _ (fun _ _ _ => False) (hr.make C us []) (I2.env0.make C us []) (hb _ (Value.ref (hp.objs.size + 1) :: us) I2.kIn hl) r2 hq) fun r s' hq' => ?_))
  cases r with
  | error er => exact hx pins σ _ _ er s' I2 hq'
  | ok fl =>
    cases fl with
    | ret u =>
      obtain ⟨v, H2, os2, bare2, un2, hok2, rv, ev, d, fs, ea, ed, hd1, q2⟩ := hq'
      subst ev
      obtain ⟨h2, g2, d2, t2, os'⟩ := s'
      exact ⟨rv, mk_end (raises_own T.base T.typ) I1 big kk un2 hok2 os2 bare2 ea ed hd1 q2⟩
    | next => exact False.elim hq'
    | brk => exact False.elim hq'
    | cont => exact False.elim hq'
end
/-! ### the head's look at such a class -/
def hasDB (K : PySem.W.Frag) (C : Addr) : Bool := match PySem.W.clsIn K C with
  | some cd => cd.hasDict
  | none => false
/-- Base.__init__, read off the class Base -/
def vvB (K : PySem.W.Frag) (B iid : String) : Bool := match PySem.W.findCls K (.type B) (.type "type") "__init__" with
  | some (.val (.builtin n)) => n == iid
  | _ => false
theorem vvB_ok {K : PySem.W.Frag} {B iid : String} (h : vvB K B iid = true) : PySem.W.findCls K (.type B) (.type "type") "__init__" = some (.val (.builtin iid)) := by
  unfold vvB at h
  split at h
  · rename_i n e
    rw [e, eq_of_beq h]
  · cases h
/-- what isinstance asks of an own class -/
def isB (K : PySem.W.Frag) (C : Addr) : Bool := He.eqO (PySem.W.findIn K (.ref C) "__class__") (some (some (.builtin "object.__class__"))) && (He.eqO (PySem.W.specialIn K (.builtin "object.__class__") "__get__") (some (some (.builtin "getset_descriptor.__get__"))) &&
  (decide (PySem.W.takesIn K (.builtin "object.__class__") = some true) && decide (PySem.W.mroIn K C (.type "object") = some true)))
def gxB (K : PySem.W.Frag) (C : Addr) (bmB : List Value) (nid : String) : Bool := PySem.W.excOver K C bmB && (PySem.W.excInitIn K C bmB nid && (hasDB K C &&
  (He.eqO (PySem.W.findIn K (.ref C) "__setattr__") (some (some (.builtin "object.__setattr__"))) && (decide (PySem.W.subIn K (.ref C) (.type "BaseException") = some true) &&
  (decide (PySem.W.typeIn K (.ref C) = some (.type "type")) && PySem.W.keepIn K (.ref C))))))
theorem gxB_ok {K : PySem.W.Frag} {C : Addr} {bmB : List Value} {nid : String} (h : gxB K C bmB nid = true) : Gx K C bmB nid := by
  unfold gxB at h
  simp only [Bool.and_eq_true, decide_eq_true_eq] at h
  obtain ⟨h1, h2, h3, h4, h5, h6, h7⟩ := h
  refine ⟨h1, h2, ?_, He.eqO_ok h4, h5, h6, h7⟩
  unfold hasDB at h3
  split at h3
  · rename_i cd e
    exact ⟨cd, e, h3⟩
  · cases h3
end GX
set_option linter.all false
namespace KM
/-- the signed common part -/
def sg (t b : Int) : Int := if b < 0 then -(Int.gcd t b : Int) else (Int.gcd t b : Int)
/-- a fraction in lowest terms -/
def low (t b : Int) : Int × Int := (t.fdiv (sg t b), b.fdiv (sg t b))
theorem gcd_pos {t b : Int} (h : b ≠ 0) : 0 < Int.gcd t b := Int.gcd_pos_of_ne_zero_right t h
theorem sg_ne {t b : Int} (h : b ≠ 0) : sg t b ≠ 0 := by
  have := gcd_pos (t := t) h
  unfold sg
  split <;> omega
theorem sg_dvd_left (t b : Int) : sg t b ∣ t := by
  unfold sg
  split
  · exact Int.neg_dvd.mpr (Int.gcd_dvd_left ..)
  · exact Int.gcd_dvd_left ..
theorem sg_dvd_right (t b : Int) : sg t b ∣ b := by
  unfold sg
  split
  · exact Int.neg_dvd.mpr (Int.gcd_dvd_right ..)
  · exact Int.gcd_dvd_right ..
theorem low_top {t b : Int} : sg t b * (low t b).1 = t := by
  show sg t b * t.fdiv (sg t b) = t
  rw [Int.fdiv_eq_ediv_of_dvd (sg_dvd_left t b)]
  exact Int.mul_ediv_cancel' (sg_dvd_left t b)
theorem low_bot {t b : Int} : sg t b * (low t b).2 = b := by
  show sg t b * b.fdiv (sg t b) = b
  rw [Int.fdiv_eq_ediv_of_dvd (sg_dvd_right t b)]
  exact Int.mul_ediv_cancel' (sg_dvd_right t b)
theorem sg_abs (t b : Int) : (sg t b).natAbs = Int.gcd t b := by
  unfold sg
  split <;> simp
theorem low_pos {t b : Int} (h : b ≠ 0) : 0 < (low t b).2 := by
  have e := low_bot (t := t) (b := b)
  have g := gcd_pos (t := t) h
  by_cases hb : b < 0
  · have hs : sg t b < 0 := by unfold sg; rw [if_pos hb]; omega
    refine Int.lt_of_not_ge fun hc => ?_
    have := Int.mul_nonneg_of_nonpos_of_nonpos (Int.le_of_lt hs) hc
    omega
  · have hs : 0 < sg t b := by unfold sg; rw [if_neg hb]; omega
    refine Int.lt_of_not_ge fun hc => ?_
    have := Int.mul_nonpos_of_nonneg_of_nonpos (Int.le_of_lt hs) hc
    omega
theorem low_cop {t b : Int} (h : b ≠ 0) : Int.gcd (low t b).1 (low t b).2 = 1 := by
  have e : Int.gcd (sg t b * (low t b).1) (sg t b * (low t b).2) = (sg t b).natAbs * Int.gcd (low t b).1 (low t b).2 := Int.gcd_mul_left ..
  rw [low_top, low_bot, sg_abs] at e
  have g := gcd_pos (t := t) h
  have : Int.gcd t b * Int.gcd (low t b).1 (low t b).2 = Int.gcd t b * 1 := by omega
  exact Nat.eq_of_mul_eq_mul_left g this
theorem low_id {t b : Int} (hb : 0 < b) (h : Int.gcd t b = 1) : low t b = (t, b) := by
  have e : sg t b = 1 := by unfold sg; rw [if_neg (by omega), h]; rfl
  unfold low
  rw [e]
  simp
theorem low_low {t b : Int} (h : b ≠ 0) : low (low t b).1 (low t b).2 = low t b := low_id (low_pos h) (low_cop h)
/-- the bottom stays: nothing is taken out -/
theorem low_same {t b : Int} (hb : 0 < b) (h : (low t b).2 = b) : low t b = (t, b) := by
  have e := low_bot (t := t) (b := b)
  rw [h] at e
  have e1 : sg t b * b = 1 * b := by omega
  have e2 := Int.eq_of_mul_eq_mul_right (Int.ne_of_gt hb) e1
  have e3 := low_top (t := t) (b := b)
  rw [e2] at e3
  refine Prod.ext ?_ h
  show (low t b).1 = t
  omega
theorem dvd_le {x y : Int} (h : x * y ≠ 0) : y.natAbs ≤ (x * y).natAbs := by
  rw [Int.natAbs_mul]
  have : x ≠ 0 := fun z => h (by rw [z, Int.zero_mul])
  exact Nat.le_mul_of_pos_left _ (by omega)
theorem low_top_le {t b : Int} (h : b ≠ 0) : (low t b).1.natAbs ≤ t.natAbs := by
  by_cases ht : t = 0
  · subst ht
    have e := low_top (t := 0) (b := b)
    rcases Int.mul_eq_zero.mp e with z | z
    · exact absurd z (sg_ne h)
    · rw [z]; exact Nat.le_refl _
  · have e := low_top (t := t) (b := b)
    have := dvd_le (x := sg t b) (y := (low t b).1) (by omega)
    rw [e] at this
    exact this
theorem low_bot_le {t b : Int} (h : b ≠ 0) : (low t b).2.natAbs ≤ b.natAbs := by
  have e := low_bot (t := t) (b := b)
  have := dvd_le (x := sg t b) (y := (low t b).2) (by omega)
  rw [e] at this
  exact this
theorem sg_le {t b : Int} (h : b ≠ 0) : (sg t b).natAbs ≤ b.natAbs := by
  have e := low_bot (t := t) (b := b)
  have := dvd_le (x := (low t b).2) (y := sg t b) (by rw [Int.mul_comm]; omega)
  rw [Int.mul_comm, e] at this
  exact this
/-- Euclid's turn over whole numbers from 0 on -/
theorem gcd_turn {a b : Int} (ha : 0 ≤ a) (hb : 0 < b) : Int.gcd b (a % b) = Int.gcd a b := by
  obtain ⟨m, rfl⟩ := Int.eq_ofNat_of_zero_le ha
  obtain ⟨n, rfl⟩ := Int.eq_ofNat_of_zero_le (Int.le_of_lt hb)
  show Nat.gcd (Int.natAbs (n : Int)) (Int.natAbs ((m : Int) % (n : Int))) = Nat.gcd (Int.natAbs (m : Int)) (Int.natAbs (n : Int))
  rw [← Int.natCast_emod, Int.natAbs_natCast, Int.natAbs_natCast, Int.natAbs_natCast, Nat.gcd_comm n, Nat.gcd_comm m n]
  exact (Nat.gcd_rec n m).symm
theorem gcd_succ (a : Int) : Int.gcd a (a + 1) = 1 := by
  have : Int.gcd (a + 1) a = Int.gcd 1 a := by
    rw [Int.add_comm, Int.gcd_add_self_left]
  rw [Int.gcd_comm, this, Int.gcd_comm]
  simp
end KM
set_option linter.all false
namespace KM
/-- top and bottom of a rational number -/
def pr (r : Rat) : Int × Int := (r.num, (r.den : Int))
theorem pr_inj {r s : Rat} (h : pr r = pr s) : r = s := by
  have h1 : r.num = s.num := congrArg Prod.fst h
  have h2 : (r.den : Int) = (s.den : Int) := congrArg Prod.snd h
  rw [← Rat.num_divInt_den r, ← Rat.num_divInt_den s, h1, h2]
theorem den_ne (r : Rat) : (r.den : Int) ≠ 0 := by
  have := r.den_nz
  omega
theorem den_pos (r : Rat) : 0 < (r.den : Int) := by
  have := r.den_nz
  omega
theorem low_eq {t b : Int} (h : b ≠ 0) : low t b = pr (Rat.divInt t b) := by
  have hp := low_pos (t := t) h
  have hc := low_cop (t := t) h
  obtain ⟨d, hd⟩ := Int.eq_ofNat_of_zero_le (Int.le_of_lt hp)
  have hd0 : d ≠ 0 := by
    intro z
    rw [z] at hd
    omega
  have hcop : (low t b).1.natAbs.Coprime d := by
    have : Int.gcd (low t b).1 (low t b).2 = 1 := hc
    rw [hd] at this
    exact this
  have e1 : Rat.divInt (low t b).1 (d : Int) = Rat.divInt t b := by
    rw [Rat.divInt_eq_divInt_iff (by omega) h, ← hd]
    have h1 := low_top (t := t) (b := b)
    have h2 := low_bot (t := t) (b := b)
    calc (low t b).1 * b = (low t b).1 * (sg t b * (low t b).2) := by rw [h2]
      _ = sg t b * (low t b).1 * (low t b).2 := by rw [← Int.mul_assoc, Int.mul_comm (low t b).1]
      _ = t * (low t b).2 := by rw [h1]
  have e2 : ({ num := (low t b).1, den := d, den_nz := hd0, reduced := hcop } : Rat) = Rat.divInt t b := by rw [Rat.mk_eq_divInt, e1]
  rw [← e2]
  exact Prod.ext rfl hd
theorem pr_plus (r s : Rat) : low ((pr r).1 * (pr s).2 + (pr s).1 * (pr r).2) ((pr r).2 * (pr s).2) = pr (r + s) := by
  show low (r.num * s.den + s.num * r.den) (r.den * s.den) = _
  rw [low_eq (Int.mul_ne_zero (den_ne r) (den_ne s)), ← Rat.divInt_add_divInt _ _ (den_ne r) (den_ne s), Rat.num_divInt_den, Rat.num_divInt_den]
theorem pr_less (r s : Rat) : low ((pr r).1 * (pr s).2 - (pr s).1 * (pr r).2) ((pr r).2 * (pr s).2) = pr (r - s) := by
  show low (r.num * s.den - s.num * r.den) (r.den * s.den) = _
  rw [low_eq (Int.mul_ne_zero (den_ne r) (den_ne s)), ← Rat.divInt_sub_divInt _ _ (den_ne r) (den_ne s), Rat.num_divInt_den, Rat.num_divInt_den]
theorem pr_times (r : Rat) (k : Int) : low ((pr r).1 * k) (pr r).2 = pr (r * (Rat.divInt k 1)) := by
  show low (r.num * k) r.den = _
  have e : Rat.divInt (r.num * k) (r.den : Int) = Rat.divInt r.num r.den * Rat.divInt k 1 := by rw [Rat.divInt_mul_divInt, Int.mul_one]
  rw [low_eq (den_ne r), e, Rat.num_divInt_den]
theorem pr_over (r : Rat) {k : Int} (h : k ≠ 0) : low (pr r).1 ((pr r).2 * k) = pr (r * (Rat.divInt 1 k)) := by
  show low r.num (r.den * k) = _
  have e : Rat.divInt r.num (r.den * k : Int) = Rat.divInt r.num r.den * Rat.divInt 1 k := by rw [Rat.divInt_mul_divInt, Int.mul_one]
  rw [low_eq (Int.mul_ne_zero (den_ne r) h), e, Rat.num_divInt_den]
theorem inv_k {k : Int} (h : k ≠ 0) : Rat.divInt k 1 * Rat.divInt 1 k = 1 := by
  rw [Rat.divInt_mul_divInt, Int.mul_one, Int.one_mul]
  exact Rat.divInt_self' h
theorem pr_lt (r s : Rat) : ((pr r).1 * (pr s).2 < (pr s).1 * (pr r).2) ↔ r < s := (Rat.lt_iff r s).symm
theorem pr_bot (r : Rat) : 0 < (pr r).2 := den_pos r
theorem add_back (r s : Rat) : r + s - s = r := by
  rw [Rat.sub_eq_add_neg, Rat.add_assoc, Rat.add_neg_cancel, Rat.add_zero]
theorem sub_back (r s : Rat) : r - s + s = r := by
  rw [Rat.sub_eq_add_neg, Rat.add_assoc, Rat.neg_add_cancel, Rat.add_zero]
theorem mul_back (r : Rat) {k : Int} (h : k ≠ 0) : r * Rat.divInt k 1 * Rat.divInt 1 k = r := by
  rw [Rat.mul_assoc, inv_k h, Rat.mul_one]
theorem div_back (r : Rat) {k : Int} (h : k ≠ 0) : r * Rat.divInt 1 k * Rat.divInt k 1 = r := by
  rw [Rat.mul_assoc, Rat.mul_comm (Rat.divInt 1 k), inv_k h, Rat.mul_one]
/-- small -/
def Sz (n : Nat) (r : Rat) : Prop := r.num.natAbs < 2 ^ n ∧ r.den < 2 ^ n
theorem Sz.mono {n m : Nat} {r : Rat} (h : Sz n r) (hm : n ≤ m) : Sz m r := ⟨Nat.lt_of_lt_of_le h.1 (Nat.pow_le_pow_right (by decide) hm), Nat.lt_of_lt_of_le h.2 (Nat.pow_le_pow_right (by decide) hm)⟩
theorem sz_of_low {t b : Int} {n : Nat} (hb : b ≠ 0) (h1 : t.natAbs < 2 ^ n) (h2 : b.natAbs < 2 ^ n) : Sz n (Rat.divInt t b) := by
  have e := low_eq (t := t) hb
  have e1 : (low t b).1 = (Rat.divInt t b).num := congrArg Prod.fst e
  have e2 : (low t b).2 = ((Rat.divInt t b).den : Int) := congrArg Prod.snd e
  have l1 := low_top_le (t := t) hb
  have l2 := low_bot_le (t := t) hb
  constructor
  · rw [← e1]; omega
  · have : ((low t b).2).natAbs < 2 ^ n := by omega
    rw [e2] at this
    simpa using this
theorem two_lt {x y n m : Nat} (h1 : x < 2 ^ n) (h2 : y < 2 ^ m) : x * y < 2 ^ (n + m) := by
  rw [Nat.pow_add]
  exact Nat.mul_lt_mul'' h1 h2
theorem sz_sum {a b c d : Int} {n m : Nat} (h1 : a.natAbs < 2 ^ n) (h2 : d.natAbs < 2 ^ m) (h3 : c.natAbs < 2 ^ m) (h4 : b.natAbs < 2 ^ n) : (a * d + c * b).natAbs < 2 ^ (n + m + 1) ∧ (a * d - c * b).natAbs < 2 ^ (n + m + 1) := by
  have e1 : (a * d).natAbs < 2 ^ (n + m) := by rw [Int.natAbs_mul]; exact two_lt h1 h2
  have e2 : (c * b).natAbs < 2 ^ (n + m) := by rw [Int.natAbs_mul, Nat.add_comm]; exact two_lt h3 h4
  have e3 : 2 ^ (n + m + 1) = 2 * 2 ^ (n + m) := by rw [Nat.pow_succ, Nat.mul_comm]
  omega
theorem sz_plus {n m : Nat} {r s : Rat} (hr : Sz n r) (hs : Sz m s) : Sz (n + m + 1) (r + s) ∧ Sz (n + m + 1) (r - s) := by
  have d1 : ((r.den : Int)).natAbs < 2 ^ n := by simpa using hr.2
  have d2 : ((s.den : Int)).natAbs < 2 ^ m := by simpa using hs.2
  have hd : ((r.den : Int) * s.den).natAbs < 2 ^ (n + m + 1) := by
    have : ((r.den : Int) * s.den).natAbs < 2 ^ (n + m) := by rw [Int.natAbs_mul]; exact two_lt d1 d2
    exact Nat.lt_of_lt_of_le this (Nat.pow_le_pow_right (by decide) (by omega))
  have hn := sz_sum hr.1 d2 hs.1 d1
  have ne := Int.mul_ne_zero (den_ne r) (den_ne s)
  constructor
  · have := sz_of_low ne hn.1 hd
    rw [← Rat.divInt_add_divInt _ _ (den_ne r) (den_ne s), Rat.num_divInt_den, Rat.num_divInt_den] at this
    exact this
  · have := sz_of_low ne hn.2 hd
    rw [← Rat.divInt_sub_divInt _ _ (den_ne r) (den_ne s), Rat.num_divInt_den, Rat.num_divInt_den] at this
    exact this
theorem sz_times {n m : Nat} {r : Rat} {k : Int} (hr : Sz n r) (hk : k.natAbs < 2 ^ m) : Sz (n + m) (r * Rat.divInt k 1) := by
  have e : r * Rat.divInt k 1 = Rat.divInt (r.num * k) r.den := by
    have : Rat.divInt (r.num * k) (r.den : Int) = Rat.divInt r.num r.den * Rat.divInt k 1 := by rw [Rat.divInt_mul_divInt, Int.mul_one]
    rw [this, Rat.num_divInt_den]
  rw [e]
  refine sz_of_low (den_ne r) (by rw [Int.natAbs_mul]; exact two_lt hr.1 hk) ?_
  have d1 : ((r.den : Int)).natAbs < 2 ^ n := by simpa using hr.2
  exact Nat.lt_of_lt_of_le d1 (Nat.pow_le_pow_right (by decide) (by omega))
theorem sz_over {n m : Nat} {r : Rat} {k : Int} (hr : Sz n r) (h : k ≠ 0) (hk : k.natAbs < 2 ^ m) : Sz (n + m) (r * Rat.divInt 1 k) := by
  have e : r * Rat.divInt 1 k = Rat.divInt r.num (r.den * k) := by
    have : Rat.divInt r.num (r.den * k : Int) = Rat.divInt r.num r.den * Rat.divInt 1 k := by rw [Rat.divInt_mul_divInt, Int.mul_one]
    rw [this, Rat.num_divInt_den]
  rw [e]
  have d1 : ((r.den : Int)).natAbs < 2 ^ n := by simpa using hr.2
  refine sz_of_low (Int.mul_ne_zero (den_ne r) h) (Nat.lt_of_lt_of_le hr.1 (Nat.pow_le_pow_right (by decide) (by omega))) ?_
  rw [Int.natAbs_mul]
  exact two_lt d1 hk
end KM
set_option Elab.async false
set_option linter.all false
set_option maxRecDepth 100000
set_option maxHeartbeats 4000000
namespace K05
open PySem PySem.Spec PyProof.Rows L2
/-- a def of the text -/
abbrev Dn (K : PySem.W.Frag) (d : He.DefD) (f : Addr) (fd : FuncData) : Prop := FunD K d.name d.qual d.params d.body d.scope (d.dvs K) (d.kws K) f fd
/-- what the module's names are -/
structure Bl (mg : Str → Option Value) : Prop where
  isi : mg "isinstance" = none
  int : mg "int" = none
  bool : mg "bool" = none
  abs : mg "abs" = none
  list : mg "list" = none
  range : mg "range" = none
  len : mg "len" = none
theorem op_fdW {X : Cx} : OpR X (binaryOp .FloorDiv) (rI (fun _ j => j ≠ 0 ∧ j.natAbs.log2 < 9000) fun i j => .int (i.fdiv j)) := opI fun _ _ _ _ _ _ _ hc q => floordiv_int hc.1 q (.inl (PyProof.noPylong_of_log2 hc.2))
/-- the fields of a Share -/
def shF (q : Int × Int) : List (Str × V) := putF "bottom" (.int q.2) (putF "top" (.int q.1) [])
theorem tb : ¬ (("top" : Str) = "bottom") := by decide +kernel
theorem shF_top (q : Int × Int) : (shF q).lookup ("top" : Str) = some (.int q.1) := by
  unfold shF
  rw [lookup_putF, if_neg tb, lookup_putF, if_pos rfl]
theorem shF_bot (q : Int × Int) : (shF q).lookup ("bottom" : Str) = some (.int q.2) := by
  unfold shF
  rw [lookup_putF, if_pos rfl]
theorem shF_no (q : Int × Int) {m : Str} (h1 : ¬ m = "bottom") (h2 : ¬ m = "top") : (shF q).lookup m = none := by
  unfold shF
  rw [lookup_putF, if_neg h1, lookup_putF, if_neg h2]
  all_goals rfl
/-- a Share stands at p -/
def Sh (C : Addr) (H : Hp) (p : Addr) (q : Int × Int) : Prop := ∃ dx, H p = some (.ins C dx (shF q))
/-- small enough, the bottom above nought -/
def Bd (n : Nat) (q : Int × Int) : Prop := q.1.natAbs < 2 ^ n ∧ 0 < q.2 ∧ q.2.natAbs < 2 ^ n
theorem Sh.keep {C : Addr} {H H' : Hp} {p : Addr} {q : Int × Int} (s : Same H H') (h : Sh C H p q) : Sh C H' p q := let ⟨dx, e⟩ := h; ⟨dx, s _ _ e⟩
theorem log_lt {j : Int} {n : Nat} (h : j.natAbs < 2 ^ n) (h0 : 0 < n) (h9 : n ≤ 9000) : j.natAbs.log2 < 9000 := Nat.lt_of_lt_of_le (PySem.Flt.log2_lt_of h0 h) h9
/-- what is known of the class -/
structure Cl (K : PySem.W.Frag) (mg : Str → Option Value) (C : Addr) : Prop where
  cl : Cls K C
  nt : NoAttr K C "top"
  nb : NoAttr K C "bottom"
  g : mg "Share" = some (.ref C)
section
variable {P : Program} {w : World} {K : PySem.W.Frag} {mg : Str → Option Value} {base : Heap} {f C : Addr} {fd : FuncData}

def spWhole : Sp := fun vs H Q _ => ∃ n : Int, vs = [.int n] ∧ Q (.bl true) H
theorem ok_whole (F : Dn K d_is_whole f fd) (b : Bl mg) : FnOk P w K mg base CX0 1 f fd ["thing"] spWhole := by
  refine F.ok sc_is_whole (fun vs H Q E h => ?_) (fun cdv A outer s H vs Q E hr h => ?_)
  · obtain ⟨n, rfl, _⟩ := h
    rfl
  · obtain ⟨n, rfl, hQ⟩ := h
    refine ⟨_, PSs.nox (pss_one (ps_ret (pe_and
      (pe_callB call_isi rfl b.isi boot_isinstance (pa_cons (pv 0) (pa_cons (pe_bltn (v := .ty "int") rfl b.int boot_int rfl) pa_nil)))
      (pe_one (pe_not (pe_callB call_isi rfl b.isi boot_isinstance (pa_cons (pv 0) (pa_cons (pe_bltn (v := .ty "bool") rfl b.bool boot_bool rfl) pa_nil)))))))), ?_⟩
    refine ⟨_, rfl, _, _, _, _, true, rfl, ClsV.ty _, TyX.base (TyOf.int n), kit_ty (by decide +kernel), true, rfl, ?_⟩
    refine iteT ?_
    exact ⟨_, rfl, _, _, _, _, false, rfl, ClsV.ty _, TyX.base (TyOf.int n), kit_ty (by decide +kernel), false, rfl, hQ⟩
def spGcd : Sp := fun vs H Q _ => ∃ x y : Int, vs = [.int x, .int y] ∧ Q (.int (Int.gcd x y : Int)) H
theorem abs_eq (x : Int) : (if x < 0 then -x else x) = (x.natAbs : Int) := by split <;> omega
theorem ok_gcd (F : Dn K d_common_part f fd) (b : Bl mg) : FnOk P w K mg base CX0 1 f fd ["one", "other"] spGcd := by
  refine F.ok sc_common_part (fun vs H Q E h => ?_) (fun cdv A outer s H vs Q E hr h => ?_)
  · obtain ⟨x, y, rfl, _⟩ := h
    rfl
  · obtain ⟨x, y, rfl, hQ⟩ := h
    refine ⟨_, PSs.nox (pss_cons (ps_set (i := 0) sc_common_part.nd rfl (.inl rfl) (pe_callB call_abs rfl b.abs boot_abs (pa_cons (pv 0) pa_nil)))
      (pss_cons (ps_set (i := 1) sc_common_part.nd rfl (.inl rfl) (pe_callB call_abs rfl b.abs boot_abs (pa_cons (pv 1) pa_nil)))
      (pss_cons (ps_while PassesOwn.never (pt_cmpR op_ne (pv 1) pe_int (nomark _)) (pss_one (ps_par (i := 0) (j := 1) rfl sc_common_part.nd rfl rfl (by decide) rfl rfl (pa_cons (pv 1) (pa_cons (pe_op op_mod (pv 0) (pv 1)) pa_nil)) rfl)))
      (pss_one (ps_ret (pv 0)))))), ?_⟩
    refine ⟨_, rfl, _, rfl, _, rfl, _, rfl, while_by (fun σ H2 => H2 = H ∧ ∃ a c : Int, σ = [some (.int a), some (.int c)] ∧ 0 ≤ a ∧ 0 ≤ c ∧ Int.gcd a c = Int.gcd x y)
      (fun σ _ => match σ with | [_, some (.int c)] => c.toNat | _ => 0) ⟨rfl, _, _, rfl, ?_, ?_, ?_⟩ ?_ ?_⟩
    · split <;> omega
    · split <;> omega
    · rw [abs_eq, abs_eq]
      rfl
    · rintro σ H2 ⟨rfl, a, c, rfl, ha, hc, hg⟩
      refine ⟨_, rfl, rfl, _, rfl, ?_⟩
      by_cases h0 : c = 0
      · subst h0
        refine iteNS rfl ?_
        refine ⟨_, rfl, ?_⟩
        have e : Int.gcd x y = a.natAbs := by rw [← hg]; simp
        have e2 : (Int.gcd x y : Int) = a := by omega
        rw [e2] at hQ
        exact hQ
      · have hne : (!decide (V.int c = V.int 0)) = true := by simp [h0]
        rw [hne]
        refine iteT ?_
        have hp : 0 < c := by omega
        refine ⟨_, rfl, _, rfl, _, rfl, _, _, rfl, rfl, hp, _, _, rfl, ⟨rfl, _, _, rfl, hc, Int.emod_nonneg _ h0, ?_⟩, ?_⟩
        · rw [KM.gcd_turn ha hp, hg]
        · show (a % c).toNat < c.toNat
          have h1 := Int.emod_nonneg a h0
          have h2 := Int.emod_lt_of_pos a hp
          omega
    · rintro σ H2 Q1 Q2 hm ⟨v, hv, h1, k, hk, q⟩
      exact ⟨v, hv, h1, k, hk, hm _ _ q⟩
end
end K05
set_option Elab.async false
set_option linter.all false
set_option maxRecDepth 100000
set_option maxHeartbeats 4000000
namespace K05
open PySem PySem.Spec PyProof.Rows L2
open C8 (Cal Mak Met pe_c pe_mk pe_mt pe_mt0)
section
variable {P : Program} {w : World} {K : PySem.W.Frag} {mg : Str → Option Value} {base : Heap} {f C : Addr} {fd : FuncData}
abbrev CalW (P : Program) (w : World) (K : PySem.W.Frag) (mg : Str → Option Value) (base : Heap) : Prop := Cal P w K mg base 1 "is_whole" spWhole []
abbrev CalG (P : Program) (w : World) (K : PySem.W.Frag) (mg : Str → Option Value) (base : Heap) : Prop := Cal P w K mg base 1 "common_part" spGcd []
/-- __init__: a Share in lowest terms -/
def spInit (C : Addr) : Sp := fun vs H Q _ => ∃ (p dx : Addr) (t b : Int) (n : Nat), vs = [.ref p, .int t, .int b] ∧ b ≠ 0 ∧ b.natAbs < 2 ^ n ∧ 0 < n ∧ n ≤ 9000 ∧ H p = some (.ins C dx []) ∧
  ∀ H', (∀ a o, a ≠ p → H a = some o → H' a = some o) → H' p = some (.ins C dx (shF (KM.low t b))) → Q .non H'
theorem ok_init (F : Dn K d_Share_init f fd) (cW : CalW P w K mg base) (cG : CalG P w K mg base) (T : Cl K mg C) : FnOk P w K mg base CX0 2 f fd ["self", "top", "bottom"] (spInit C) := by
  refine F.ok sc_Share_init (fun vs H Q E h => ?_) (fun cdv A outer s H vs Q E hr h => ?_)
  · obtain ⟨p, dx, t, b, n, rfl, _⟩ := h
    rfl
  · obtain ⟨p, dx, t, b, n, rfl, hb, hn, hn0, hn9, hp, hQ⟩ := h
    refine ⟨_, PSs.nox (pss_cons (ps_for PassesOwn.never rfl (pi_tup (pe_tup (pa_cons (pv 1) (pa_cons (pv 2) pa_nil)))) (pg_name (i := 3) sc_Share_init.nd rfl (.inl rfl))
        (pss_one (ps_if (pt_not (pt_val (pe_c cW hr (by decide) rfl (pa_cons (pv 3) pa_nil)))) pss_never pss_nil)))
      (pss_cons (ps_if (pt_cmpR op_eq (pv 2) pe_int (nomark _)) pss_never pss_nil)
      (pss_cons (ps_set (i := 4) sc_Share_init.nd rfl (.inl rfl) (pe_c cG hr (by decide) rfl (pa_cons (pv 1) (pa_cons (pv 2) pa_nil))))
      (pss_cons (ps_if (pt_cmpR op_lt (pv 2) pe_int (nomark _)) (pss_one (ps_set (i := 4) sc_Share_init.nd rfl (.inl rfl) (pe_un un_neg (pv 4)))) pss_nil)
      (pss_cons (ps_fld (pv 0) (pe_op op_fdW (pv 1) (pv 4)) rfl)
      (pss_one (ps_fld (pv 0) (pe_op op_fdW (pv 2) (pv 4)) rfl))))))), ?_⟩
    refine ⟨_, rfl, _, rfl, by show 2 ≤ sizeLine; decide, fun u hu => ?_⟩
    have npu : p ≠ u := ne_of_none hp hu
    refine ⟨u, rfl, ⟨_, SqT.of upd_same⟩, for_tup (K := K) (xs := [.int t, .int b]) (fun i σ H2 => H2 = upd H u (.tup [.int t, .int b]) ∧ ∃ v, σ = [some (.ref p), some (.int t), some (.int b), v, none])
      ⟨rfl, none, rfl⟩ (fun i σ H2 _ h => by rw [h.1]; exact SqT.of upd_same) ?_ ?_⟩
    · rintro i y σ H2 hi ⟨rfl, v, rfl⟩
      have hy : ∃ n : Int, y = .int n := by
        match i, hi with
        | 0, e => exact ⟨t, (Option.some.inj e).symm⟩
        | 1, e => exact ⟨b, (Option.some.inj e).symm⟩
      obtain ⟨n, rfl⟩ := hy
      refine ⟨_, rfl, n, rfl, true, rfl, ?_⟩
      refine iteF ?_
      exact ⟨rfl, _, rfl⟩
    · rintro σ H2 ⟨rfl, v, rfl⟩
      refine ⟨_, rfl, rfl, _, rfl, ?_⟩
      have hb0 : decide (V.int b = V.int 0) = false := by simp [hb]
      rw [hb0]
      refine iteF ?_
      refine ⟨_, rfl, _, rfl, t, b, rfl, ?_⟩
      refine ⟨_, rfl, _, _, rfl, rfl, _, rfl, ?_⟩
      have hs9 : (KM.sg t b).natAbs.log2 < 9000 := log_lt (Nat.lt_of_le_of_lt (KM.sg_le hb) hn) hn0 hn9
      have fin : ∀ c : Int, c = KM.sg t b → ∀ v, tSeq (sFld K (tVar 0) (tOp (rI (fun _ j => j ≠ 0 ∧ j.natAbs.log2 < 9000) fun i j => .int (i.fdiv j)) (tVar 1) (tVar 4)) "top") (sFld K (tVar 0) (tOp (rI (fun _ j => j ≠ 0 ∧ j.natAbs.log2 < 9000) fun i j => .int (i.fdiv j)) (tVar 2) (tVar 4)) "bottom")
          { nx := fun _ H' => Q .non H', rt := Q } [some (.ref p), some (.int t), some (.int b), v, some (.int c)] (upd H u (.tup [.int t, .int b])) := by
        rintro c rfl v
        refine ⟨_, rfl, _, rfl, _, _, rfl, rfl, ⟨KM.sg_ne hb, hs9⟩, _, rfl, p, C, dx, _, rfl, (by rw [upd_ne npu]; exact hp), T.cl, T.nt, (by show 0 < 1000; decide), ?_⟩
        refine ⟨_, rfl, _, rfl, _, _, rfl, rfl, ⟨KM.sg_ne hb, hs9⟩, _, rfl, p, C, dx, _, rfl, upd_same, T.cl, T.nb, (by show 1 < 1000; decide), ?_⟩
        refine hQ _ (fun a o ha e => ?_) upd_same
        rw [upd_ne ha, upd_ne ha, upd_ne (ne_of_none e hu)]
        exact e
      refine ite2 (fun h => ?_) (fun h => ?_)
      · have h' : b < 0 := of_decide_eq_true h
        refine ⟨_, rfl, _, rfl, ?_⟩
        exact fin _ (by unfold KM.sg; rw [if_pos h']) _
      · have h' : ¬ b < 0 := fun z => h (decide_eq_true z)
        exact fin _ (by unfold KM.sg; rw [if_neg h']) _
end
end K05
set_option Elab.async false
set_option linter.all false
set_option maxRecDepth 100000
set_option maxHeartbeats 4000000
namespace K05
open PySem PySem.Spec PyProof.Rows L2
open C8 (Cal Mak Met pe_c pe_mk pe_mt pe_mt0)
section
variable {P : Program} {w : World} {K : PySem.W.Frag} {mg : Str → Option Value} {base : Heap} {f C : Addr} {fd : FuncData}
abbrev MakS (P : Program) (w : World) (K : PySem.W.Frag) (mg : Str → Option Value) (base : Heap) (C : Addr) : Prop := Mak P w K mg base 2 "Share" C (spInit C) []
/-- Share(t, b): what is left to show -/
theorem mk_at {H1 : Hp} {t b : Int} {n : Nat} {Q : VK} (hb : b ≠ 0) (hn : b.natAbs < 2 ^ n) (hn0 : 0 < n) (hn9 : n ≤ 9000)
    (hQ : ∀ r H', Same H1 H' → H1 r = none → Sh C H' r (KM.low t b) → Q (.ref r) H') :
    ∀ x dx, H1 x = none → H1 dx = none → dx ≠ x → spInit C (.ref x :: ([V.int t, V.int b] ++ [])) (upd (upd H1 dx (.own x)) x (.ins C dx [])) (fun v H2 => v = .non ∧ Q (.ref x) H2) E0 := by
  intro x dx nx nd ne
  refine ⟨x, dx, t, b, n, rfl, hb, hn, hn0, hn9, upd_same, fun H' kp hp => ⟨rfl, hQ x H' (fun a o e => ?_) nx ⟨dx, hp⟩⟩⟩
  refine kp a o (ne_of_none e nx) ?_
  rw [upd_ne (ne_of_none e nx), upd_ne (ne_of_none e nd)]
  exact e
theorem mul_pos_ne {a b : Int} (ha : 0 < a) (hb : 0 < b) : a * b ≠ 0 := fun z => by
  have := Int.mul_pos ha hb
  omega
def two (n : Nat) (a b : Int × Int) : Prop := Bd n a ∧ Bd n b ∧ 0 < n ∧ n ≤ 4000

def sp_plus (C : Addr) : Sp := fun vs H Q _ => ∃ (p q : Addr) (a b : Int × Int) (n : Nat), vs = [.ref p, .ref q] ∧ Sh C H p a ∧ Sh C H q b ∧ two n a b ∧
  ∀ r H', Same H H' → H r = none → Sh C H' r (KM.low (a.1 * b.2 + b.1 * a.2) (a.2 * b.2)) → Q (.ref r) H'
theorem ok_plus (F : Dn K d_Share_plus f fd) (M : MakS P w K mg base C) (T : Cl K mg C) : FnOk P w K mg base CX0 4 f fd ["self", "other"] (sp_plus C) := by
  refine F.ok sc_Share_plus (fun vs H Q E h => ?_) (fun cdv A outer s H vs Q E hr h => ?_)
  · obtain ⟨p, q, a, b, n, rfl, _⟩ := h
    rfl
  · obtain ⟨p, q, a, b, n, rfl, ⟨dp, hp⟩, ⟨dq, hq⟩, ⟨ba, bb, hn0, hn9⟩, hQ⟩ := h
    refine ⟨_, PSs.nox (pss_one (ps_ret (pe_mk M hr (by decide) rfl (pa_cons (pe_op op_add (pe_op op_mulW (pe_fld (pv 0) rfl) (pe_fld (pv 1) rfl)) (pe_op op_mulW (pe_fld (pv 1) rfl) (pe_fld (pv 0) rfl)))
      (pa_cons (pe_op op_mulW (pe_fld (pv 0) rfl) (pe_fld (pv 1) rfl)) pa_nil))))), ?_⟩
    refine ⟨_, rfl, p, C, dp, _, _, rfl, hp, T.cl, T.nt, shF_top a, _, rfl, q, C, dq, _, _, rfl, hq, T.cl, T.nb, shF_bot b, _, _, rfl, rfl, wide_mul ba.1 bb.2.2 hn0 hn0 (by omega), ?_⟩
    refine ⟨_, rfl, q, C, dq, _, _, rfl, hq, T.cl, T.nt, shF_top b, _, rfl, p, C, dp, _, _, rfl, hp, T.cl, T.nb, shF_bot a, _, _, rfl, rfl, wide_mul bb.1 ba.2.2 hn0 hn0 (by omega), _, _, rfl, rfl, ?_⟩
    refine ⟨_, rfl, p, C, dp, _, _, rfl, hp, T.cl, T.nb, shF_bot a, _, rfl, q, C, dq, _, _, rfl, hq, T.cl, T.nb, shF_bot b, _, _, rfl, rfl, wide_mul ba.2.2 bb.2.2 hn0 hn0 (by omega), ?_⟩
    exact mk_at (n := n + n) (mul_pos_ne ba.2.1 bb.2.1) (wide_lt ba.2.2 bb.2.2) (by omega) (by omega) hQ

def sp_less (C : Addr) : Sp := fun vs H Q _ => ∃ (p q : Addr) (a b : Int × Int) (n : Nat), vs = [.ref p, .ref q] ∧ Sh C H p a ∧ Sh C H q b ∧ two n a b ∧
  ∀ r H', Same H H' → H r = none → Sh C H' r (KM.low (a.1 * b.2 - b.1 * a.2) (a.2 * b.2)) → Q (.ref r) H'
theorem ok_less (F : Dn K d_Share_less f fd) (M : MakS P w K mg base C) (T : Cl K mg C) : FnOk P w K mg base CX0 4 f fd ["self", "other"] (sp_less C) := by
  refine F.ok sc_Share_less (fun vs H Q E h => ?_) (fun cdv A outer s H vs Q E hr h => ?_)
  · obtain ⟨p, q, a, b, n, rfl, _⟩ := h
    rfl
  · obtain ⟨p, q, a, b, n, rfl, ⟨dp, hp⟩, ⟨dq, hq⟩, ⟨ba, bb, hn0, hn9⟩, hQ⟩ := h
    refine ⟨_, PSs.nox (pss_one (ps_ret (pe_mk M hr (by decide) rfl (pa_cons (pe_op op_sub (pe_op op_mulW (pe_fld (pv 0) rfl) (pe_fld (pv 1) rfl)) (pe_op op_mulW (pe_fld (pv 1) rfl) (pe_fld (pv 0) rfl)))
      (pa_cons (pe_op op_mulW (pe_fld (pv 0) rfl) (pe_fld (pv 1) rfl)) pa_nil))))), ?_⟩
    refine ⟨_, rfl, p, C, dp, _, _, rfl, hp, T.cl, T.nt, shF_top a, _, rfl, q, C, dq, _, _, rfl, hq, T.cl, T.nb, shF_bot b, _, _, rfl, rfl, wide_mul ba.1 bb.2.2 hn0 hn0 (by omega), ?_⟩
    refine ⟨_, rfl, q, C, dq, _, _, rfl, hq, T.cl, T.nt, shF_top b, _, rfl, p, C, dp, _, _, rfl, hp, T.cl, T.nb, shF_bot a, _, _, rfl, rfl, wide_mul bb.1 ba.2.2 hn0 hn0 (by omega), _, _, rfl, rfl, ?_⟩
    refine ⟨_, rfl, p, C, dp, _, _, rfl, hp, T.cl, T.nb, shF_bot a, _, rfl, q, C, dq, _, _, rfl, hq, T.cl, T.nb, shF_bot b, _, _, rfl, rfl, wide_mul ba.2.2 bb.2.2 hn0 hn0 (by omega), ?_⟩
    exact mk_at (n := n + n) (mul_pos_ne ba.2.1 bb.2.1) (wide_lt ba.2.2 bb.2.2) (by omega) (by omega) hQ

def sp_times (C : Addr) : Sp := fun vs H Q _ => ∃ (p : Addr) (a : Int × Int) (k : Int) (n : Nat), vs = [.ref p, .int k] ∧ Sh C H p a ∧ Bd n a ∧ k.natAbs < 2 ^ n ∧ 0 < n ∧ n ≤ 4000 ∧
  ∀ r H', Same H H' → H r = none → Sh C H' r (KM.low (a.1 * k) a.2) → Q (.ref r) H'
theorem ok_times (F : Dn K d_Share_times f fd) (M : MakS P w K mg base C) (T : Cl K mg C) : FnOk P w K mg base CX0 4 f fd ["self", "many"] (sp_times C) := by
  refine F.ok sc_Share_times (fun vs H Q E h => ?_) (fun cdv A outer s H vs Q E hr h => ?_)
  · obtain ⟨p, a, k, n, rfl, _⟩ := h
    rfl
  · obtain ⟨p, a, k, n, rfl, ⟨dp, hp⟩, ba, hk, hn0, hn9, hQ⟩ := h
    refine ⟨_, PSs.nox (pss_one (ps_ret (pe_mk M hr (by decide) rfl (pa_cons (pe_op op_mulW (pe_fld (pv 0) rfl) (pv 1)) (pa_cons (pe_fld (pv 0) rfl) pa_nil))))), ?_⟩
    refine ⟨_, rfl, p, C, dp, _, _, rfl, hp, T.cl, T.nt, shF_top a, _, rfl, _, _, rfl, rfl, wide_mul ba.1 hk hn0 hn0 (by omega), ?_⟩
    refine ⟨_, rfl, p, C, dp, _, _, rfl, hp, T.cl, T.nb, shF_bot a, ?_⟩
    exact mk_at (n := n) (by have := ba.2.1; omega) ba.2.2 hn0 (by omega) hQ
def sp_over (C : Addr) : Sp := fun vs H Q _ => ∃ (p : Addr) (a : Int × Int) (k : Int) (n : Nat), vs = [.ref p, .int k] ∧ Sh C H p a ∧ Bd n a ∧ k ≠ 0 ∧ k.natAbs < 2 ^ n ∧ 0 < n ∧ n ≤ 4000 ∧
  ∀ r H', Same H H' → H r = none → Sh C H' r (KM.low a.1 (a.2 * k)) → Q (.ref r) H'
theorem ok_over (F : Dn K d_Share_over f fd) (M : MakS P w K mg base C) (T : Cl K mg C) : FnOk P w K mg base CX0 4 f fd ["self", "many"] (sp_over C) := by
  refine F.ok sc_Share_over (fun vs H Q E h => ?_) (fun cdv A outer s H vs Q E hr h => ?_)
  · obtain ⟨p, a, k, n, rfl, _⟩ := h
    rfl
  · obtain ⟨p, a, k, n, rfl, ⟨dp, hp⟩, ba, hk0, hk, hn0, hn9, hQ⟩ := h
    refine ⟨_, PSs.nox (pss_one (ps_ret (pe_mk M hr (by decide) rfl (pa_cons (pe_fld (pv 0) rfl) (pa_cons (pe_op op_mulW (pe_fld (pv 0) rfl) (pv 1)) pa_nil))))), ?_⟩
    refine ⟨_, rfl, p, C, dp, _, _, rfl, hp, T.cl, T.nt, shF_top a, ?_⟩
    refine ⟨_, rfl, p, C, dp, _, _, rfl, hp, T.cl, T.nb, shF_bot a, _, rfl, _, _, rfl, rfl, wide_mul ba.2.2 hk hn0 hn0 (by omega), ?_⟩
    exact mk_at (n := n + n) (Int.mul_ne_zero (by have := ba.2.1; omega) hk0) (wide_lt ba.2.2 hk) (by omega) (by omega) hQ
def sp_below (C : Addr) : Sp := fun vs H Q _ => ∃ (p q : Addr) (a b : Int × Int) (n : Nat), vs = [.ref p, .ref q] ∧ Sh C H p a ∧ Sh C H q b ∧ two n a b ∧ Q (.bl (decide (a.1 * b.2 < b.1 * a.2))) H
theorem ok_below (F : Dn K d_Share_below f fd) (T : Cl K mg C) : FnOk P w K mg base CX0 1 f fd ["self", "other"] (sp_below C) := by
  refine F.ok sc_Share_below (fun vs H Q E h => ?_) (fun cdv A outer s H vs Q E hr h => ?_)
  · obtain ⟨p, q, a, b, n, rfl, _⟩ := h
    rfl
  · obtain ⟨p, q, a, b, n, rfl, ⟨dp, hp⟩, ⟨dq, hq⟩, ⟨ba, bb, hn0, hn9⟩, hQ⟩ := h
    refine ⟨_, PSs.nox (pss_one (ps_ret (pe_cmpR op_lt (pe_op op_mulW (pe_fld (pv 0) rfl) (pe_fld (pv 1) rfl)) (pe_op op_mulW (pe_fld (pv 1) rfl) (pe_fld (pv 0) rfl)) (nomark _)))), ?_⟩
    refine ⟨_, rfl, p, C, dp, _, _, rfl, hp, T.cl, T.nt, shF_top a, _, rfl, q, C, dq, _, _, rfl, hq, T.cl, T.nb, shF_bot b, _, _, rfl, rfl, wide_mul ba.1 bb.2.2 hn0 hn0 (by omega), ?_⟩
    exact ⟨_, rfl, q, C, dq, _, _, rfl, hq, T.cl, T.nt, shF_top b, _, rfl, p, C, dp, _, _, rfl, hp, T.cl, T.nb, shF_bot a, _, _, rfl, rfl, wide_mul bb.1 ba.2.2 hn0 hn0 (by omega), _, _, rfl, rfl, hQ⟩
def sp_whole (C : Addr) : Sp := fun vs H Q _ => ∃ (p : Addr) (a : Int × Int) (n : Nat), vs = [.ref p] ∧ Sh C H p a ∧ Bd n a ∧ 0 < n ∧ n ≤ 4000 ∧ Q (.int (a.1.fdiv a.2)) H
theorem ok_wholeM (F : Dn K d_Share_whole f fd) (T : Cl K mg C) : FnOk P w K mg base CX0 1 f fd ["self"] (sp_whole C) := by
  refine F.ok sc_Share_whole (fun vs H Q E h => ?_) (fun cdv A outer s H vs Q E hr h => ?_)
  · obtain ⟨p, a, n, rfl, _⟩ := h
    rfl
  · obtain ⟨p, a, n, rfl, ⟨dp, hp⟩, ba, hn0, hn9, hQ⟩ := h
    refine ⟨_, PSs.nox (pss_one (ps_ret (pe_op op_fdW (pe_fld (pv 0) rfl) (pe_fld (pv 0) rfl)))), ?_⟩
    refine ⟨_, rfl, p, C, dp, _, _, rfl, hp, T.cl, T.nt, shF_top a, _, rfl, p, C, dp, _, _, rfl, hp, T.cl, T.nb, shF_bot a, _, _, rfl, rfl, ⟨by have := ba.2.1; omega, log_lt ba.2.2 hn0 (by omega)⟩, hQ⟩
end
end K05
set_option Elab.async false
set_option linter.all false
set_option maxRecDepth 100000
set_option maxHeartbeats 4000000
namespace K05
open PySem PySem.Spec PyProof.Rows L2
open C8 (Cal Mak Met pe_c pe_mk pe_mt pe_mt0)
/-- the held dict's pairs -/
def hd0 (l : Addr) (n m : Int) : List (Key × V) := [(Sum.inr "cells", .ref l), (Sum.inr "at", .int n), (Sum.inr "left", .int m)]
theorem hd_cells (l : Addr) (n m : Int) : valV (hd0 l n m) (Sum.inr "cells") = some (.ref l) := valV_pos rfl
theorem k1 : ¬ (("cells" : Str) = "at") := by decide +kernel
theorem k2 : ¬ (("cells" : Str) = "left") := by decide +kernel
theorem k3 : ¬ (("at" : Str) = "left") := by decide +kernel
theorem k1' : ¬ (("at" : Str) = "cells") := by decide +kernel
theorem k3' : ¬ (("left" : Str) = "at") := by decide +kernel
theorem inr_ne {x y : Str} (h : ¬ x = y) : ¬ ((Sum.inr x : Key) = Sum.inr y) := fun z => h (Sum.inr.inj z)
theorem hd_at (l : Addr) (n m : Int) : valV (hd0 l n m) (Sum.inr "at") = some (.int n) := (valV_neg (inr_ne k1)).trans (valV_pos rfl)
theorem hd_left (l : Addr) (n m : Int) : valV (hd0 l n m) (Sum.inr "left") = some (.int m) := (valV_neg (inr_ne k2)).trans ((valV_neg (inr_ne k3)).trans (valV_pos rfl))
theorem put_at (l : Addr) (n m k : Int) : putK (hd0 l n m) (Sum.inr "at") (.int k) = hd0 l k m := by
  unfold putK hd0
  simp [k1, k3']
theorem put_left (l : Addr) (n m k : Int) : putK (hd0 l n m) (Sum.inr "left") (.int k) = hd0 l n k := by
  unfold putK hd0
  simp [k2, k3]
theorem hd_merge (l : Addr) (n m : Int) : mergeK [] (hd0 l n m) = hd0 l n m := by
  simp [mergeK, hd0, putK, k1, k2, k3]
/-- the held dict at h, good for c draws more -/
def Held (H : Hp) (h : Addr) (c : Nat) : Prop := ∃ (l : Addr) (ns : List Int) (n m : Int), H h = some (.dK (hd0 l n m)) ∧ H l = some (.lst (ns.map V.int)) ∧ 0 ≤ n ∧ n + c ≤ 1000000000
theorem Held.weak {H : Hp} {h : Addr} {c c' : Nat} (hc : c' ≤ c) (x : Held H h c) : Held H h c' := by
  obtain ⟨l, ns, n, m, h1, h2, h3, h4⟩ := x
  exact ⟨l, ns, n, m, h1, h2, h3, by omega⟩
/-- all but h is kept -/
def Kp (h : Addr) (H H' : Hp) : Prop := (∀ b o, H b = some o → b ≠ h → H' b = some o) ∧ ∀ l n m, H h = some (.dK (hd0 l n m)) → ∃ n' m', H' h = some (.dK (hd0 l n' m'))
theorem Kp.refl (h : Addr) (H : Hp) : Kp h H H := ⟨fun _ _ e _ => e, fun _ n m e => ⟨n, m, e⟩⟩
theorem Kp.trans {h : Addr} {H H1 H2 : Hp} (a : Kp h H H1) (b : Kp h H1 H2) : Kp h H H2 := ⟨fun c o e n => b.1 c o (a.1 c o e n) n, fun l n m e => let ⟨n', m', e'⟩ := a.2 l n m e; b.2 l n' m' e'⟩
theorem Kp.same {h : Addr} {H H1 : Hp} (a : Same H H1) : Kp h H H1 := ⟨fun c o e _ => a c o e, fun _ n m e => ⟨n, m, a _ _ e⟩⟩
theorem hd_inj {l l' : Addr} {n m n' m' : Int} (h : HO.dK (hd0 l n m) = HO.dK (hd0 l' n' m')) : l = l' := by
  injection h with h
  injection h with h _
  injection h with _ h
  injection h
/-- the held dict put anew -/
theorem Kp.put {h l : Addr} {H : Hp} {n m : Int} (n' m' : Int) (e : H h = some (.dK (hd0 l n m))) : Kp h H (upd H h (.dK (hd0 l n' m'))) := by
  refine ⟨fun c o z ne => by rw [upd_ne ne]; exact z, fun l' n1 m1 z => ⟨n', m', ?_⟩⟩
  rw [upd_same, hd_inj (Option.some.inj (z.symm.trans e))]
theorem Held.same {H H' : Hp} {h : Addr} {c : Nat} (s : Same H H') (x : Held H h c) : Held H' h c := by
  obtain ⟨l, ns, n, m, h1, h2, h3, h4⟩ := x
  exact ⟨l, ns, n, m, s _ _ h1, s _ _ h2, h3, h4⟩
theorem same_new {H : Hp} {p : Addr} {o : HO} (h : H p = none) : Same H (upd H p o) := fun a u e => by
  rw [upd_ne (ne_of_none e h)]
  exact e
theorem dpInts {K : PySem.W.Frag} {H : Hp} : ∀ ns : List Int, DpAll K H (ns.map V.int) (ns.map PyData.int)
  | [] => .nil
  | n :: ns => .cons (.int n) (dpInts ns)
section
variable {P : Program} {w : World} {K : PySem.W.Frag} {mg : Str → Option Value} {base : Heap} {f C : Addr} {fd : FuncData}
def spHeld (K : PySem.W.Frag) : Sp := fun vs H Q _ => ∃ (a : Addr) (ns : List Int), vs = [.ref a] ∧ SqL K H a (ns.map V.int) ∧ ns.length ≤ 63 ∧ ∀ h H', Same H H' → H h = none → Held H' h 900000000 → Q (.ref h) H'
theorem ok_held (F : Dn K d_l_held f fd) (b : Bl mg) : FnOk P w K mg base CX0 1 f fd ["_law_script"] (spHeld K) := by
  refine F.ok sc_l_held (fun vs H Q E h => ?_) (fun cdv A outer s H vs Q E hr h => ?_)
  · obtain ⟨a, ns, rfl, _⟩ := h
    rfl
  · obtain ⟨a, ns, rfl, hS, hlen, hQ⟩ := h
    refine ⟨_, PSs.nox (pss_one (ps_ret (pe_disp (pps_cons pe_str (pe_callTy call_list_of rfl b.list boot_list (pa_cons (pe_slice sl_list (pv 0) po_none (po_some pe_int)) pa_nil)) (pps_cons pe_str pe_int (pps_cons pe_str pe_int pps_nil))) rfl rfl (by simp) (by decide)))), ?_⟩
    intro h hh
    have sS : SqL K (upd H h (.dK [])) a (ns.map V.int) := (same_new hh).seq hS
    refine ⟨_, rfl, 63, rfl, a, _, rfl, sS, fun p hp => ⟨p, _, rfl, Or.inl (SqL.of upd_same), fun l hl => ?_⟩⟩
    have nhp : h ≠ p := ne_of_none upd_same hp
    have nhl : h ≠ l := ne_of_none (by rw [upd_ne nhp]; exact upd_same) hl
    refine ⟨by rw [upd_ne nhl, upd_ne nhp, upd_same], hd0 l 0 0, rfl, by show 3 ≤ 15; decide, ?_⟩
    have e : cutV (ns.map V.int) none (some 63) = (ns.take 63).map V.int := by
      unfold cutV
      simp [HT.sIx, List.map_take]
    refine hQ h _ (fun c o z => ?_) hh ⟨l, ns.take 63, 0, 0, ?_, ?_, by decide, by decide⟩
    · have z1 : c ≠ h := ne_of_none z hh
      have z2 : (upd H h (.dK [])) c = some o := by rw [upd_ne z1]; exact z
      have z3 : c ≠ p := ne_of_none z2 hp
      have z4 : c ≠ l := ne_of_none (by rw [upd_ne z3]; exact z2) hl
      rw [upd_ne z1, upd_ne z4, upd_ne z3]
      exact z2
    · rw [upd_same, hd_merge]
    · rw [upd_ne nhl.symm, upd_same, ← e]

def spDraw : Sp := fun vs H Q _ => ∃ (h : Addr) (c : Nat) (k : Int), vs = [.ref h, .int k] ∧ Held H h (c + 1) ∧ 0 < k ∧ k < 1073741824 ∧
  ∀ r H', 0 ≤ r → r < k → Held H' h c → Kp h H H' → Q (.int r) H'
theorem cb_l {i j : Int} (h1 : -(2 ^ 64) < i) (h2 : i < 2 ^ 64) : CMul i j := .inl ⟨h1, h2⟩
theorem cb_r {i j : Int} (h1 : -(2 ^ 64) < j) (h2 : j < 2 ^ 64) : CMul i j := .inr ⟨h1, h2⟩
theorem ok_draw (F : Dn K d_l_draw f fd) (b : Bl mg) : FnOk P w K mg base CX0 1 f fd ["_law_held_here", "_law_many"] spDraw := by
  refine F.ok sc_l_draw (fun vs H Q E h => ?_) (fun cdv A outer s H vs Q E hr h => ?_)
  · obtain ⟨h, c, k, rfl, _⟩ := h
    rfl
  · obtain ⟨h, c, k, rfl, ⟨l, ns, n, m, hh, hl, hn, hc⟩, hk0, hk1, hQ⟩ := h
    have hu := hu_of hr
    have hu64 : (A.deeper (envOfC d_l_draw.qual d_l_draw.scope s.heap.objs.size f cdv)).units + 64 < cLine := by have := hr.un; omega
    have nlh : l ≠ h := ne_of hl hh (by intro z; cases z)
    refine ⟨_, PSs.nox (pss_cons (ps_if (pt_cmpR op_gt (pe_dget hu (pv 0) pe_str (fun _ _ => rfl)) pe_int (nomark _))
         (pss_cons (ps_set (i := 2) sc_l_draw.nd rfl (.inl rfl) (pe_op op_mod (pe_dget hu (pv 0) pe_str (fun _ _ => rfl)) (pv 1)))
         (pss_cons (ps_dput hu (pv 0) pe_str (pe_op op_fdiv (pe_dget hu (pv 0) pe_str (fun _ _ => rfl)) (pv 1)) rfl)
         (pss_one (ps_ret (pv 2))))) pss_nil)
      (pss_cons (ps_set (i := 3) sc_l_draw.nd rfl (.inl rfl) (pe_dget hu (pv 0) pe_str (fun _ _ => rfl)))
      (pss_cons (ps_dput hu (pv 0) pe_str (pe_op op_add (pv 3) pe_int) rfl)
      (C8.pss_cut (ps_set (i := 4) sc_l_draw.nd rfl (.inl rfl) (pe_ifExp (pt_cmpR (op_neD hu64) (pe_dget hu (pv 0) pe_str (fun _ _ => rfl)) (pe_lst pa_nil) (nomark _))
        (pe_ix ix_list (pe_dget hu (pv 0) pe_str (fun _ _ => rfl)) (pe_op op_mod (pv 3) (pe_callB call_len_seq rfl b.len boot_len (pa_cons (pe_dget hu (pv 0) pe_str (fun _ _ => rfl)) pa_nil))) (fun _ _ => rfl)) pe_int))
      (pss_cons (ps_if (PW.pt (pw_and (pt_cmpR op_ge (pv 4) (pe_op op_pow pe_int pe_int) (nomark _)) (pw_and1 (pt_cmpR op_lt (pv 3) (pe_callB call_len_seq rfl b.len boot_len (pa_cons (pe_dget hu (pv 0) pe_str (fun _ _ => rfl)) pa_nil)) (nomark _)))))
         (pss_cons (ps_dput hu (pv 0) pe_str (pe_op op_fdiv (pe_op op_sub (pv 4) (pe_op op_pow pe_int pe_int)) (pv 1)) rfl)
         (pss_one (ps_ret (pe_op op_mod (pe_op op_sub (pv 4) (pe_op op_pow pe_int pe_int)) (pv 1))))) pss_nil)
      (pss_cons (ps_set (i := 5) sc_l_draw.nd rfl (.inl rfl) (pe_op op_mod (pe_op op_add (pe_op op_add (pe_op op_add (pe_op op_mul (pe_op op_mod (pv 4) pe_int) pe_int) (pe_op op_mul (pe_op op_mul pe_int (pv 3)) (pv 3))) (pe_op op_mul pe_int (pv 3))) pe_int) pe_int))
      (pss_cons (ps_set (i := 5) sc_l_draw.nd rfl (.inl rfl) (pe_op op_mod (pe_op op_add (pe_op op_add (pe_op op_mul (pv 5) pe_int) (pe_op op_fdiv (pv 5) pe_int)) pe_int) pe_int))
      (pss_one (ps_ret (pe_op op_mod (pe_op op_fdiv (pv 5) pe_int) (pv 1))))))))))), ?_⟩
    have cM : ∀ x y : Int, 0 < y → (0 ≤ x % y ∧ x % y < y) := fun x y hy => ⟨Int.emod_nonneg _ (by omega), Int.emod_lt_of_pos _ hy⟩
    refine ⟨_, rfl, h, _, rfl, hd_left l n m ▸ DGet.k (k := Sum.inr "left") hh, _, _, rfl, rfl, _, rfl, ?_⟩
    refine ite2 (fun h1 => ?_) (fun h1 => ?_)
    · refine ⟨_, rfl, h, _, rfl, hd_left l n m ▸ DGet.k (k := Sum.inr "left") hh, _, rfl, _, _, rfl, rfl, hk0, ?_⟩
      refine ⟨_, rfl, h, _, rfl, hd_left l n m ▸ DGet.k (k := Sum.inr "left") hh, _, rfl, _, _, rfl, rfl, ⟨hk0, hk1⟩, _, rfl, h, _, rfl, DPut.k (k := Sum.inr "left") hh (by show 3 < sizeLine; decide), ?_⟩
      refine ⟨_, rfl, hQ _ _ (cM _ _ hk0).1 (cM _ _ hk0).2 ⟨l, ns, n, m / k, ?_, ?_, hn, by omega⟩ ?_⟩
      · rw [upd_same, put_left]
      · rw [upd_ne nlh]; exact hl
      · rw [put_left]; exact Kp.put _ _ hh
    · refine ⟨_, rfl, h, _, rfl, hd_at l n m ▸ DGet.k (k := Sum.inr "at") hh, ?_⟩
      refine ⟨_, rfl, _, _, rfl, rfl, _, rfl, h, _, rfl, DPut.k (k := Sum.inr "at") hh (by show 3 < sizeLine; decide), ?_⟩
      rw [put_at]
      have hh1 : (upd H h (.dK (hd0 l (n + 1) m))) h = some (.dK (hd0 l (n + 1) m)) := upd_same
      have hl1 : (upd H h (.dK (hd0 l (n + 1) m))) l = some (.lst (ns.map V.int)) := by rw [upd_ne nlh]; exact hl
      have kp1 : Kp h H (upd H h (.dK (hd0 l (n + 1) m))) := Kp.put _ _ hh
      refine ⟨fun σ' H' => ∃ (cell : Int), σ' = [some (.ref h), some (.int k), none, some (.int n), some (.int cell), none] ∧ H' h = some (.dK (hd0 l (n + 1) m)) ∧ H' l = some (.lst (ns.map V.int)) ∧ Kp h H H', ?_, ?_⟩
      · refine ⟨_, rfl, h, _, rfl, hd_cells l (n + 1) m ▸ DGet.k (k := Sum.inr "cells") hh1, (by show 0 ≤ sizeLine; decide), fun e he => ?_⟩
        have nhe : h ≠ e := ne_of_none hh1 he
        have nle : l ≠ e := ne_of_none hl1 he
        have hh2 : (upd (upd H h (.dK (hd0 l (n + 1) m))) e (.lst [])) h = some (.dK (hd0 l (n + 1) m)) := by rw [upd_ne nhe]; exact hh1
        have hl2 : (upd (upd H h (.dK (hd0 l (n + 1) m))) e (.lst [])) l = some (.lst (ns.map V.int)) := by rw [upd_ne nle]; exact hl1
        have kp2 : Kp h H (upd (upd H h (.dK (hd0 l (n + 1) m))) e (.lst [])) := kp1.trans (Kp.same (same_new he))
        refine ⟨.list (ns.map .int), .list [], Dp.lst (SqL.of hl2) (dpInts ns), Dp.lst (SqL.of upd_same) .nil, PySem.W.ke_shaped_ints ns, by decide, _, rfl, ?_⟩
        cases ns with
        | nil => exact iteF ⟨0, rfl, hh2, hl2, kp2⟩
        | cons z zs =>
          refine iteT ?_
          have hlen : (0 : Int) < (((z :: zs).map V.int).length : Int) := by simp
          refine ⟨_, rfl, h, _, rfl, hd_cells l (n + 1) m ▸ DGet.k (k := Sum.inr "cells") hh2, _, rfl, _, rfl, h, _, rfl, hd_cells l (n + 1) m ▸ DGet.k (k := Sum.inr "cells") hh2, l, _, rfl, Or.inl (SqL.of hl2), _, _, rfl, rfl, hlen, ?_⟩
          obtain ⟨q, hq⟩ := Int.eq_ofNat_of_zero_le (cM n _ hlen).1
          have hq2 := (cM n _ hlen).2
          rw [hq] at hq2
          have hq3 : q < (z :: zs).length := by rw [List.length_map] at hq2; omega
          refine ⟨l, _, _, .int ((z :: zs)[q]), rfl, rfl, SqL.of hl2, (by rw [hq]; exact atI_nat (by rw [List.getElem?_map, List.getElem?_eq_getElem hq3]; rfl)), ?_⟩
          exact ⟨_, rfl, hh2, hl2, kp2⟩
      · rintro σ' H' ⟨cell, rfl, hh2, hl2, kp2⟩
        have stay : ∀ m', Held (upd H' h (.dK (hd0 l (n + 1) m'))) h c := fun m' => ⟨l, ns, n + 1, m', upd_same, by rw [upd_ne nlh]; exact hl2, by omega, by omega⟩
        have stay0 : Held H' h c := ⟨l, ns, n + 1, m, hh2, hl2, by omega, by omega⟩
        have last : ∀ D : Ends, D.rt = Q → tSeq (tAsg (tOp (rI (fun _ j => 0 < j) fun i j => .int (i % j)) (tOp (rI0 fun i j => .int (i + j)) (tOp (rI0 fun i j => .int (i + j)) (tOp (rI0 fun i j => .int (i + j))
            (tOp (rI CMul fun i j => .int (i * j)) (tOp (rI (fun _ j => 0 < j) fun i j => .int (i % j)) (tVar 4) (tC (.int 2147483587))) (tC (.int 40692))) (tOp (rI CMul fun i j => .int (i * j)) (tOp (rI CMul fun i j => .int (i * j)) (tC (.int 7907)) (tVar 3)) (tVar 3)))
            (tOp (rI CMul fun i j => .int (i * j)) (tC (.int 104729)) (tVar 3))) (tC (.int 17))) (tC (.int 2147483629))) (gName 5))
          (tSeq (tAsg (tOp (rI (fun _ j => 0 < j) fun i j => .int (i % j)) (tOp (rI0 fun i j => .int (i + j)) (tOp (rI0 fun i j => .int (i + j)) (tOp (rI CMul fun i j => .int (i * j)) (tVar 5) (tC (.int 48271))) (tOp (rI CDiv fun i j => .int (i / j)) (tVar 5) (tC (.int 127)))) (tC (.int 31))) (tC (.int 2147483647))) (gName 5))
          (tRet (tOp (rI (fun _ j => 0 < j) fun i j => .int (i % j)) (tOp (rI CDiv fun i j => .int (i / j)) (tVar 5) (tC (.int 89))) (tVar 1)))) D [some (.ref h), some (.int k), none, some (.int n), some (.int cell), none] H' := by
          intro D hD
          refine ⟨_, rfl, _, _, rfl, rfl, (by decide : (0 : Int) < 2147483587), _, _, rfl, rfl, cb_r (by decide) (by decide), _, rfl, _, _, rfl, rfl, cb_l (by decide) (by decide), _, rfl, _, _, rfl, rfl, cb_r (by omega) (by omega), _, _, rfl, rfl, ?_⟩
          refine ⟨_, rfl, _, _, rfl, rfl, cb_l (by decide) (by decide), _, _, rfl, rfl, _, _, rfl, rfl, _, _, rfl, rfl, (by decide : (0 : Int) < 2147483629), ?_⟩
          refine ⟨_, rfl, _, _, rfl, rfl, cb_r (by decide) (by decide), _, rfl, _, _, rfl, rfl, ⟨by decide, by decide⟩, _, _, rfl, rfl, _, _, rfl, rfl, _, _, rfl, rfl, (by decide : (0 : Int) < 2147483647), ?_⟩
          refine ⟨_, rfl, _, _, rfl, rfl, ⟨by decide, by decide⟩, _, rfl, _, _, rfl, rfl, hk0, ?_⟩
          rw [hD]
          exact hQ _ _ (cM _ _ hk0).1 (cM _ _ hk0).2 stay0 kp2
        refine ⟨_, rfl, _, _, rfl, rfl, ⟨by decide, by decide, by decide⟩, _, _, rfl, rfl, _, rfl, ?_⟩
        refine ite2 (fun g1 => ?_) (fun g1 => iteF (last _ rfl))
        refine ⟨_, rfl, _, rfl, h, _, rfl, hd_cells l (n + 1) m ▸ DGet.k (k := Sum.inr "cells") hh2, l, _, rfl, Or.inl (SqL.of hl2), _, _, rfl, rfl, _, rfl, ?_⟩
        refine ite2 (fun g2 => ?_) (fun g2 => last _ rfl)
        refine ⟨_, rfl, _, _, rfl, rfl, ⟨by decide, by decide, by decide⟩, _, _, rfl, rfl, _, rfl, _, _, rfl, rfl, ⟨hk0, hk1⟩, _, rfl, h, _, rfl, DPut.k (k := Sum.inr "left") hh2 (by show 3 < sizeLine; decide), ?_⟩
        refine ⟨_, rfl, _, _, rfl, rfl, ⟨by decide, by decide, by decide⟩, _, _, rfl, rfl, _, rfl, _, _, rfl, rfl, hk0, ?_⟩
        rw [put_left]
        refine hQ _ _ (cM _ _ hk0).1 (cM _ _ hk0).2 (stay _) (kp2.trans (Kp.put _ _ hh2))
end
end K05
set_option Elab.async false
set_option linter.all false
set_option maxRecDepth 100000
set_option maxHeartbeats 4000000
/-! OW: ==, !=, str and repr of instances of an own class by its own __eq__, __str__, __repr__. -/
namespace OW
open PySem PySem.Spec PyProof.Rows L2
/-- what is known of a special def of the class: where it stands, that it keeps its promise -/
structure Spc (P : Program) (w : World) (K : PySem.W.Frag) (mg : Str → Option Value) (base : Heap) (k : Nat) (C : Addr) (m : Str) (sp : Sp) : Prop where
  ex : ∃ (f : Addr) (fd : FuncData) (ps : List Str), PySem.W.findIn K (.ref C) m = some (some (.ref f)) ∧ PySem.W.isFn K (.ref f) = true ∧ FnOk P w K mg base CX0 k f fd ps sp ∧ Binds K fd ps []
section
variable {X : Cx} {pins : List (Addr × Obj)} {σ : L2.St} {H : Hp} {s : Shared} {Q : VK} {k : Nat} {C a b : Addr} {sp : Sp}
/-- a def called at any around with room -/
theorem run_at {f : Addr} {fd : FuncData} {ps : List Str} {A : Around} {us : List Value} {vs : List V} {E' : Value → Shared → Prop} (F : FnOk X.prog X.w X.K X.mg X.base CX0 k f fd ps sp) (hb : Binds X.K fd ps []) (hr : Room k A) (I : Inv X pins σ H s)
    (he : Env0 X.prog X.w X.K X.mg X.base A X.stack s H) (r : Vals vs us) (h : sp vs H Q E0) : wpAny (model X.prog X.w) A (call (.ref f) us) (EP X pins σ Q) E' s := by
  have hl : us.length = ps.length := by rw [← r.length]; exact F.len _ _ _ _ h
  have b := hb s us I.kIn (by rw [List.append_nil]; exact hl)
  rw [List.append_nil] at b
  refine wpAny_call (codeAny_mono (F.run A X.stack s H ⟨us, []⟩ us vs Q E0 hr he b r h) fun r s' hq => ?_)
  cases r with
  | error e => exact False.elim hq
  | ok fl =>
    cases fl with
    | ret u => exact I.after hq
    | next => exact False.elim hq
    | brk => exact False.elim hq
    | cont => exact False.elim hq
theorem same_first : PySem.W.notFirst X.K C (.ref C) = true := by
  unfold PySem.W.notFirst
  rw [beq_self_eq_true, Bool.true_or]
/-- x == y, both of the class -/
def rEqO (C : Addr) (sp : Sp) : R2 := fun x y H Q => ∃ a dx fs b dy gs, x = .ref a ∧ y = .ref b ∧ H a = some (.ins C dx fs) ∧ H b = some (.ins C dy gs) ∧ sp [x, y] H (fun v H' => ∃ z, v = .bl z ∧ Q (.bl z) H') E0
def rNeO (C : Addr) (sp : Sp) : R2 := fun x y H Q => ∃ a dx fs b dy gs, x = .ref a ∧ y = .ref b ∧ H a = some (.ins C dx fs) ∧ H b = some (.ins C dy gs) ∧ sp [x, y] H (fun v H' => ∃ z, v = .bl z ∧ Q (.bl (!z)) H') E0
theorem op_eqO (S : Spc X.prog X.w X.K X.mg X.base k C "__eq__" sp) (hr : Room k X.A) : OpR X (compareOp .Eq) (rEqO C sp) := by
  obtain ⟨f, fd, ps, h1, h2, F, hb⟩ := S.ex
  intro pins s σ H x y v u Q I rx ry h
  obtain ⟨a, dx, fs, b, dy, gs, rfl, rfl, ea, eb, q⟩ := h
  cases (show v = Value.ref a from rx)
  cases (show u = Value.ref b from ry)
  obtain ⟨mA, O, _⟩ := ins_get I.hok ea
  obtain ⟨od, J, _⟩ := O.look
  obtain ⟨mB, O', _⟩ := ins_get I.hok eb
  obtain ⟨od', J', _⟩ := O'.look
  obtain ⟨m, hF⟩ := I.fr
  show wpAny _ _ (richCompare .Eq (.ref a) (.ref b)) _ _ _
  refine PySem.W.cmp_K (op := .Eq) (tb := .ref C) hr.units0 hF I.ok.mod.kin J J'.type same_first h1 h2 ?_
  refine wpAny_mono (run_at (E' := X.xe) (vs := [.ref a, .ref b]) F hb hr I I.env0 (.cons rfl (.cons rfl .nil)) q) (fun w s' z => ?_) fun _ _ x => x
  obtain ⟨z', H', I', rz, z, rfl, qz⟩ := z
  cases (show w = Value.bool z from rz)
  exact ⟨.bl z, H', I', rfl, qz⟩
open Builtin in
theorem op_neO (S : Spc X.prog X.w X.K X.mg X.base (k + 1) C "__eq__" sp) (hn : PySem.W.findIn X.K (.ref C) "__ne__" = some (some (.builtin "object.__ne__"))) (hm : PySem.W.mroIn X.K C (.type "object") = some true) (hr : Room (k + 2) X.A) : OpR X (compareOp .NotEq) (rNeO C sp) := by
  obtain ⟨f, fd, ps, h1, h2, F, hb⟩ := S.ex
  intro pins s σ H x y v u Q I rx ry h
  obtain ⟨a, dx, fs, b, dy, gs, rfl, rfl, ea, eb, q⟩ := h
  cases (show v = Value.ref a from rx)
  cases (show u = Value.ref b from ry)
  obtain ⟨mA, O, _⟩ := ins_get I.hok ea
  obtain ⟨od, J, _⟩ := O.look
  obtain ⟨mB, O', _⟩ := ins_get I.hok eb
  obtain ⟨od', J', _⟩ := O'.look
  have KI := I.kIn
  have callEq : wpAny (model X.prog X.w) X.A.in1 (call (.ref f) [.ref a, .ref b]) (fun v s' => ∃ z, v = .bool z ∧ EP X pins σ Q (.bool (!z)) s') X.xe s := by
    refine wpAny_mono (run_at (E' := X.xe) (vs := [.ref a, .ref b]) F hb hr.in1 I I.env0.in1 (.cons rfl (.cons rfl .nil)) q) (fun w s' z => ?_) fun _ _ x => x
    obtain ⟨z', H', I', rz, z, rfl, qz⟩ := z
    exact ⟨z, rz, .bl (!z), H', I', rfl, qz⟩
  have slot := PySem.F.cmp_object.ne
  have sub : PySem.W.Looks (model X.prog X.w) s.heap (isInstance (.ref a) (.type "object")) true := J.type.andThen (PySem.W.looks_mroIn KI hm)
  have uu : X.A.in1.units < cLine := hr.in1.units0
  have body : wpAny (model X.prog X.w) X.A.in1 (Builtin.«object.__ne__» ⟨[.ref a, .ref b], []⟩) (fun fin s' => match fin with | .done f => (match f with | .ret v => EP X pins σ Q v s' ∧ ∃ z, v = .bool z | _ => False) | .again _ => False) X.xe s := by
    unfold Builtin.«object.__ne__»
    repeat (first
      | with_reducible refine wpAny_cRoomFor uu ?_
      | (refine wpAny_bind (m := callSpecialIfBound? (.ref a) (Str.ofString "__eq__") [.ref b]) (PySem.W.ifBound_K KI J h1 h2 (wpAny_mono callEq (fun r s' hr => by
          obtain ⟨z, rfl, hq⟩ := hr
          repeat (first | exact ⟨hq, _, rfl⟩ | exact wpAny_pure ⟨hq, _, rfl⟩ | (refine wpAny_bind (m := truthy (.bool _)) (wpAny_truthy_bool ?_)) | wp_step)) fun _ _ e => e)))
      | wp_step)
  have callNe : wpAny (model X.prog X.w) X.A (call (.builtin "object.__ne__") [.ref a, .ref b]) (fun v s' => EP X pins σ Q v s' ∧ ∃ z, v = .bool z) X.xe s := by
    refine wpAny_call (codeAny_call_builtin slot.plain PySem.F.cmpEntry_ne (PySem.W.check_slot PySem.F.cmpKind_ne PySem.F.cmpSplit_ne sub (PySem.F.cmpArgs_ne _ _) ?_))
    refine wpAny_mono body (fun fin s' z => ?_) fun _ _ x => x
    cases fin with
    | done fl =>
      cases fl with
      | ret v => exact z
      | next => exact z.elim
      | brk => exact z.elim
      | cont => exact z.elim
    | again c => exact z.elim
  show wpAny _ _ (richCompare .NotEq (.ref a) (.ref b)) _ _ _
  unfold richCompare
  simp only [oneThing_ref]
  refine wpAny_holding (wpAny_bind (wpAny_cRoomFor hr.units0 ?_))
  rw [cmpInfo_NotEq]
  dsimp only
  refine wpAny_bind (J.type.here (wpAny_bind (J'.type.here ?_)))
  rw [show (Value.ref C != Value.ref C) = false from by simp]
  simp only [Bool.false_eq_true, if_false]
  refine wpAny_bind (wpAny_pure ?_)
  simp only [Bool.false_eq_true, if_false, tryCompare]
  have fin : wpAny (model X.prog X.w) X.A (call (.builtin "object.__ne__") ([.ref a] ++ [.ref b]) >>= fun v => pure (some v)) (fun r s' => ∃ v, r = some v ∧ EP X pins σ Q v s' ∧ ∃ z, v = .bool z) X.xe s :=
    wpAny_bind (wpAny_mono callNe (fun v s' h' => wpAny_pure ⟨v, rfl, h'⟩) fun _ _ h' => h')
  have bound : wpAny (model X.prog X.w) X.A (callSpecialIfBound? (.ref a) "__ne__" [.ref b]) (fun r s' => ∃ v, r = some v ∧ EP X pins σ Q v s' ∧ ∃ z, v = .bool z) X.xe s := by
    simp only [callSpecialIfBound?, bindSpecialIfBound?]
    refine wpAny_holding (wpAny_bind (wpAny_bind (wpAny_bind (J.type.here ((PySem.W.looks_findIn KI hn).here ?_)))))
    simp only [slot.bind]
    refine wpAny_bind (wpAny_askSetting (wpAny_ite ?_))
    split
    · exact wpAny_bind (wpAny_pure (wpAny_pure fin))
    · exact wpAny_tryCatch (wpAny_bind (wpAny_pure (wpAny_pure fin)))
  refine wpAny_bind (wpAny_bind (wpAny_mono bound (fun r s' z => ?_) fun _ _ h => h))
  obtain ⟨v, rfl, hq, z, rfl⟩ := z
  first | exact wpAny_pure (wpAny_pure hq) | exact wpAny_pure hq
/-- str(x), repr(x) -/
def rStrO (C : Addr) (sp : Sp) : List V → Hp → VK → Prop := fun xs H Q => ∃ a dx fs, xs = [.ref a] ∧ H a = some (.ins C dx fs) ∧ sp [.ref a] H (fun v H' => ∃ z, v = .str z ∧ Q (.str z) H') E0
theorem call_strO (S : Spc X.prog X.w X.K X.mg X.base k C "__str__" sp) (hr : Room (k + 2) X.A) : CallR X (.type "str") (rStrO C sp) := by
  obtain ⟨f, fd, ps, h1, h2, F, hb⟩ := S.ex
  intro pins s σ H xs us Q I r h
  obtain ⟨a, dx, fs, rfl, ea, q⟩ := h
  obtain ⟨u, rfl, ru⟩ := vals1 r
  cases (show u = Value.ref a from ru)
  obtain ⟨mA, O, _⟩ := ins_get I.hok ea
  obtain ⟨od, J, _⟩ := O.look
  refine PySem.W.kso_call hr.in1.in1.units0 I.kIn J h1 h2 ?_
  refine wpAny_mono (run_at (E' := X.xe) (vs := [.ref a]) F hb hr.in1.in1 I I.env0.in1.in1 (.cons rfl .nil) q) (fun w s' z => ?_) fun _ _ x => x
  obtain ⟨z', H', I', rz, z, rfl, qz⟩ := z
  obtain ⟨t, rfl⟩ := rz
  exact ⟨.str z, H', I', ⟨t, rfl⟩, qz⟩
theorem call_reprO (S : Spc X.prog X.w X.K X.mg X.base k C "__repr__" sp) (hr : Room (k + 1) X.A) : CallR X (.builtin "repr") (rStrO C sp) := by
  obtain ⟨f, fd, ps, h1, h2, F, hb⟩ := S.ex
  intro pins s σ H xs us Q I r h
  obtain ⟨a, dx, fs, rfl, ea, q⟩ := h
  obtain ⟨u, rfl, ru⟩ := vals1 r
  cases (show u = Value.ref a from ru)
  obtain ⟨mA, O, _⟩ := ins_get I.hok ea
  obtain ⟨od, J, _⟩ := O.look
  obtain ⟨m, hF⟩ := I.fr
  refine PySem.W.repr_K hr.in1.units0 hF I.ok.mod.kin J h1 h2 ?_
  refine wpAny_mono (run_at (E' := X.xe) (vs := [.ref a]) F hb hr.in1 I I.env0.in1 (.cons rfl .nil) q) (fun w s' z => ?_) fun _ _ x => x
  obtain ⟨z', H', I', rz, z, rfl, qz⟩ := z
  obtain ⟨t, rfl⟩ := rz
  exact ⟨.str z, H', I', ⟨t, rfl⟩, qz⟩
end
end OW
set_option linter.all false
set_option Elab.async false
set_option maxRecDepth 100000
/-! TX: the texts of whole numbers and of fractions, sign by sign. -/
namespace TX
open PySem SX TL NumText
/-- the signs of a whole number -/
def intL (i : Int) : List Nat := if i < 0 then 45 :: numL i.natAbs else numL i.natAbs
theorem tl_int (i : Int) : Str.ofString (toString i) = S (intL i) := by
  by_cases h : i < 0
  · obtain ⟨n, rfl⟩ : ∃ n : Nat, i = -((n + 1 : Nat) : Int) := ⟨i.natAbs - 1, by omega⟩
    have e : toString (-((n + 1 : Nat) : Int)) = "-" ++ toString ((n + 1 : Nat) : Int) := by rfl
    unfold intL
    rw [if_pos h, e]
    have e2 : (-((n + 1 : Nat) : Int)).natAbs = n + 1 := by omega
    rw [e2]
    refine TL.ext_tl ?_
    have e3 : (Str.ofString (toString ((n + 1 : Nat) : Int))).cps.toList = numL (n + 1) := tl_num (n + 1)
    show (Str.ofString ("-" ++ toString ((n + 1 : Nat) : Int))).cps.toList = 45 :: numL (n + 1)
    rw [← e3]
    rw [Str.ofString_eq_toList, Str.ofString_eq_toList, String.toList_append]
    rfl
  · obtain ⟨n, rfl⟩ := Int.eq_ofNat_of_zero_le (by omega : 0 ≤ i)
    unfold intL
    rw [if_neg h]
    exact num_S n
theorem no_minus (n : Nat) : 45 ∉ numL n := numL_free (.inl (by decide))
theorem no_stroke_int (i : Int) : 47 ∉ intL i := by
  unfold intL
  split
  · intro h
    rcases List.mem_cons.mp h with z | z
    · cases z
    · exact numL_free (.inl (by decide)) z
  · exact numL_free (.inl (by decide))
theorem minus_S : (Str.ofString "-") = S [45] := by decide +kernel
theorem stroke_S : (Str.ofString "/") = S [47] := by decide +kernel
theorem one_S : (Str.ofString "1") = S [49] := by decide +kernel
theorem zero_S : (Str.ofString "0") = S [48] := by decide +kernel
theorem empty_S : (Str.ofString "") = S [] := by decide +kernel
theorem rp_cons (l : List Nat) : Txt.removeprefix (S (45 :: l)) (S [45]) = S l := by
  rw [StrLaws.removeprefix_eq, StrLaws.subAt_eq]
  have h1 : (decide (0 + (S [45]).length ≤ (S (45 :: l)).length)) = true := by
    rw [S_len, S_len]
    simp
  rw [h1]
  have h2 : (((S (45 :: l)).cps.toList.drop 0).take (S [45]).length == (S [45]).cps.toList) = true := by
    rw [S_len]
    simp
  rw [h2]
  simp only [Bool.and_self, if_true]
  rw [S_len, S_len]
  simp
theorem rp_other {c : Nat} {l : List Nat} (h : c ≠ 45) : Txt.removeprefix (S (c :: l)) (S [45]) = S (c :: l) := by
  rw [StrLaws.removeprefix_eq, StrLaws.subAt_eq]
  have h2 : (((S (c :: l)).cps.toList.drop 0).take (S [45]).length == (S [45]).cps.toList) = false := by
    rw [S_len]
    simp [h]
  rw [h2, Bool.and_false]
  simp
theorem rp_int (i : Int) : Txt.removeprefix (S (intL i)) (S [45]) = S (numL i.natAbs) := by
  unfold intL
  split
  · exact rp_cons _
  · have hne := numL_ne i.natAbs
    have hno := no_minus i.natAbs
    cases hl : numL i.natAbs with
    | nil => exact absurd hl hne
    | cons c l =>
      rw [hl] at hno
      exact rp_other fun z => hno (by rw [z]; exact List.mem_cons_self ..)
theorem intL_len {i : Int} {k : Nat} (hk : 0 < k) (h : i.natAbs < 10 ^ k) : (intL i).length ≤ k + 1 := by
  have := numL_len hk h
  unfold intL
  split
  · rw [List.length_cons]; omega
  · omega
theorem int_int {i : Int} (h : (intL i).length ≤ 4300) : intText? (S (intL i)) = some i := by
  unfold intL at h ⊢
  split
  · rename_i hi
    have e := intText_neg (x := S (45 :: numL i.natAbs)) (cs := numL i.natAbs) rfl (numL_digits _) (numL_ne _) (by rw [S_len]; rw [if_pos hi] at h; exact h)
    rw [e, numL_val]
    congr 1
    omega
  · rename_i hi
    have e := intText_digits (x := S (numL i.natAbs)) (numL_digits _) (numL_ne _) (by rw [S_len]; rw [if_neg hi] at h; exact h)
    rw [e]
    show some ((digitsVal (numL i.natAbs) : Nat) : Int) = some i
    rw [numL_val]
    congr 1
    omega
/-- the text of a fraction -/
def txL (r : Rat) : List Nat := if r.den = 1 then intL r.num else intL r.num ++ (47 :: numL r.den)
theorem numL_head : ∀ n : Nat, 0 < n → ∃ c l, numL n = c :: l ∧ c ≠ 48 := by
  intro n
  induction n using Nat.strongRecOn with
  | _ n ih =>
    intro hn
    by_cases h : n < 10
    · rw [numL_lt h]
      exact ⟨48 + n, [], rfl, by omega⟩
    · rw [numL_step (by omega)]
      obtain ⟨c, l, e, hc⟩ := ih (n / 10) (by omega) (by omega)
      exact ⟨c, l ++ [48 + n % 10], by rw [e]; rfl, hc⟩
theorem numL_zero : numL 0 = [48] := numL_lt (by decide)
theorem part_one (i : Int) : Txt.partition (S (intL i)) (S [47]) = (S (intL i), S [], S []) := partition_none (by simp) (par_head_none (no_stroke_int i))
theorem part_two (i : Int) (l : List Nat) : Txt.partition (S (intL i ++ (47 :: l))) (S [47]) = (S (intL i), S [47], S l) := partition_some (by simp) (par_head (sep := []) l (no_stroke_int i))
theorem numL_pow {n k : Nat} (h : n < 2 ^ k) (hk : 0 < k) : (numL n).length ≤ k := numL_len hk (Nat.lt_of_lt_of_le h (Nat.pow_le_pow_left (by decide) k))
theorem intL_pow {i : Int} {k : Nat} (h : i.natAbs < 2 ^ k) (hk : 0 < k) : (intL i).length ≤ k + 1 := intL_len hk (Nat.lt_of_lt_of_le h (Nat.pow_le_pow_left (by decide) k))
theorem txL_len {r : Rat} {k : Nat} (h : KM.Sz k r) (hk : 0 < k) : (txL r).length ≤ 2 * k + 2 := by
  have h1 := intL_pow h.1 hk
  have h2 := numL_pow h.2 hk
  unfold txL
  split
  · omega
  · rw [List.length_append, List.length_cons]; omega
end TX
set_option Elab.async false
set_option linter.all false
set_option maxRecDepth 100000
set_option maxHeartbeats 4000000
namespace K05
open PySem PySem.Spec PyProof.Rows L2
open C8 (Cal Mak Met pe_c pe_mk pe_mt pe_mt0)
open KM (pr Sz)
/-- what isinstance asks of the class -/
structure IsC (K : PySem.W.Frag) (C : Addr) : Prop where
  ha : PySem.W.findIn K (.ref C) "__class__" = some (some (.builtin "object.__class__"))
  hn : PySem.W.specialIn K (.builtin "object.__class__") "__get__" = some (some (.builtin "getset_descriptor.__get__"))
  htk : PySem.W.takesIn K (.builtin "object.__class__") = some true
  hm : PySem.W.mroIn K C (.type "object") = some true
  kit : PySem.W.kitOne K (.ref C) (.ref C) = some true
  ne : PySem.W.findIn K (.ref C) "__ne__" = some (some (.builtin "object.__ne__"))
structure Bm (mg : Str → Option Value) : Prop where
  str : mg "str" = none
  all : mg "all" = none
  repr : mg "repr" = none
  sorted : mg "sorted" = none
  dict : mg "dict" = none
  zip : mg "zip" = none
theorem bd_of {n : Nat} {r : Rat} (h : Sz n r) : Bd n (pr r) := ⟨h.1, KM.den_pos r, by simpa [pr] using h.2⟩
section
variable {P : Program} {w : World} {K : PySem.W.Frag} {mg : Str → Option Value} {base : Heap} {f C : Addr} {fd : FuncData}
/-- two Shares in, a Share out -/
def sp2 (C : Addr) (g : Rat → Rat → Rat) : Sp := fun vs H Q _ => ∃ (p q : Addr) (r s : Rat) (n : Nat), vs = [.ref p, .ref q] ∧ Sh C H p (pr r) ∧ Sh C H q (pr s) ∧ Sz n r ∧ Sz n s ∧ 0 < n ∧ n ≤ 4000 ∧
  ∀ t H', Same H H' → H t = none → Sh C H' t (pr (g r s)) → Q (.ref t) H'
theorem plusR {vs : List V} {H : Hp} {Q : VK} {E : XK} (h : sp2 C (· + ·) vs H Q E) : sp_plus C vs H Q E := by
  obtain ⟨p, q, r, s, n, e, hp, hq, sr, ss, n0, n9, k⟩ := h
  refine ⟨p, q, _, _, n, e, hp, hq, ⟨bd_of sr, bd_of ss, n0, n9⟩, fun t H' a b c => k t H' a b ?_⟩
  rw [KM.pr_plus] at c
  exact c
theorem lessR {vs : List V} {H : Hp} {Q : VK} {E : XK} (h : sp2 C (· - ·) vs H Q E) : sp_less C vs H Q E := by
  obtain ⟨p, q, r, s, n, e, hp, hq, sr, ss, n0, n9, k⟩ := h
  refine ⟨p, q, _, _, n, e, hp, hq, ⟨bd_of sr, bd_of ss, n0, n9⟩, fun t H' a b c => k t H' a b ?_⟩
  rw [KM.pr_less] at c
  exact c
/-- a Share and a whole number in, a Share out -/
def sp1 (C : Addr) (ok : Int → Prop) (g : Rat → Int → Rat) : Sp := fun vs H Q _ => ∃ (p : Addr) (r : Rat) (k : Int) (n : Nat), vs = [.ref p, .int k] ∧ Sh C H p (pr r) ∧ Sz n r ∧ ok k ∧ k.natAbs < 2 ^ n ∧ 0 < n ∧ n ≤ 4000 ∧
  ∀ t H', Same H H' → H t = none → Sh C H' t (pr (g r k)) → Q (.ref t) H'
theorem timesR {vs : List V} {H : Hp} {Q : VK} {E : XK} (h : sp1 C (fun _ => True) (fun r k => r * Rat.divInt k 1) vs H Q E) : sp_times C vs H Q E := by
  obtain ⟨p, r, k, n, e, hp, sr, _, hk, n0, n9, q⟩ := h
  refine ⟨p, _, k, n, e, hp, bd_of sr, hk, n0, n9, fun t H' a b c => q t H' a b ?_⟩
  rw [KM.pr_times] at c
  exact c
theorem overR {vs : List V} {H : Hp} {Q : VK} {E : XK} (h : sp1 C (fun k => k ≠ 0) (fun r k => r * Rat.divInt 1 k) vs H Q E) : sp_over C vs H Q E := by
  obtain ⟨p, r, k, n, e, hp, sr, h0, hk, n0, n9, q⟩ := h
  refine ⟨p, _, k, n, e, hp, bd_of sr, h0, hk, n0, n9, fun t H' a b c => q t H' a b ?_⟩
  rw [KM.pr_over r h0] at c
  exact c
def spLt (C : Addr) : Sp := fun vs H Q _ => ∃ (p q : Addr) (r s : Rat) (n : Nat), vs = [.ref p, .ref q] ∧ Sh C H p (pr r) ∧ Sh C H q (pr s) ∧ Sz n r ∧ Sz n s ∧ 0 < n ∧ n ≤ 4000 ∧ Q (.bl (decide (r < s))) H
theorem belowR {vs : List V} {H : Hp} {Q : VK} {E : XK} (h : spLt C vs H Q E) : sp_below C vs H Q E := by
  obtain ⟨p, q, r, s, n, e, hp, hq, sr, ss, n0, n9, k⟩ := h
  refine ⟨p, q, _, _, n, e, hp, hq, ⟨bd_of sr, bd_of ss, n0, n9⟩, ?_⟩
  have : decide ((pr r).1 * (pr s).2 < (pr s).1 * (pr r).2) = decide (r < s) := decide_eq_decide.mpr (KM.pr_lt r s)
  rw [this]
  exact k
/-! ### __eq__, __str__, __repr__ -/
def spEq (C : Addr) : Sp := fun vs H Q _ => ∃ (p q : Addr) (r s : Rat), vs = [.ref p, .ref q] ∧ Sh C H p (pr r) ∧ Sh C H q (pr s) ∧ Q (.bl (decide (r = s))) H
theorem ok_eq (F : Dn K d_Share_eq f fd) (b : Bl mg) (T : Cl K mg C) (S : IsC K C) : FnOk P w K mg base CX0 1 f fd ["self", "other"] (spEq C) := by
  refine F.ok sc_Share_eq (fun vs H Q E h => ?_) (fun cdv A outer s H vs Q E hr h => ?_)
  · obtain ⟨p, q, r, s, rfl, _⟩ := h
    rfl
  · obtain ⟨p, q, r, t, rfl, ⟨dp, hp⟩, ⟨dq, hq⟩, hQ⟩ := h
    refine ⟨_, PSs.nox (pss_one (ps_ret (pe_and (pe_callB call_isi rfl b.isi boot_isinstance (pa_cons (pv 1) (pa_cons (pe_glob (v := .ref C) rfl T.g rfl) pa_nil)))
      (pe_and (pe_cmpR op_eq (pe_fld (pv 0) rfl) (pe_fld (pv 1) rfl) (nomark _)) (pe_one (pe_cmpR op_eq (pe_fld (pv 0) rfl) (pe_fld (pv 1) rfl) (nomark _))))))), ?_⟩
    refine ⟨_, rfl, _, _, _, _, true, rfl, ClsV.own C, TyX.base (TyOf.ins hq T.cl S.ha S.hn S.htk S.hm), S.kit, true, rfl, iteT ?_⟩
    refine ⟨_, rfl, p, C, dp, _, _, rfl, hp, T.cl, T.nt, shF_top _, _, rfl, q, C, dq, _, _, rfl, hq, T.cl, T.nt, shF_top _, rfl, _, rfl, ?_⟩
    refine ite2 (fun h1 => ?_) (fun h1 => ?_)
    · have e1 : (pr r).1 = (pr t).1 := V.int.inj (of_decide_eq_true h1)
      refine ⟨_, rfl, p, C, dp, _, _, rfl, hp, T.cl, T.nb, shF_bot _, _, rfl, q, C, dq, _, _, rfl, hq, T.cl, T.nb, shF_bot _, rfl, ?_⟩
      have e : decide (V.int (pr r).2 = V.int (pr t).2) = decide (r = t) := by
        refine decide_eq_decide.mpr ⟨fun z => KM.pr_inj (Prod.ext e1 (V.int.inj z)), fun z => by rw [z]⟩
      rw [e]
      exact hQ
    · have e : decide (r = t) = false := decide_eq_false fun z => h1 (by rw [z]; simp)
      rw [e] at hQ
      exact hQ
theorem log_1920 {i : Int} {n : Nat} (h : i.natAbs < 2 ^ n) (h0 : 0 < n) (h9 : n ≤ 1920) : i.natAbs.log2 < 1920 := Nat.lt_of_lt_of_le (PySem.Flt.log2_lt_of h0 h) h9
def spStr (C : Addr) (g : Rat → Str) : Sp := fun vs H Q _ => ∃ (p : Addr) (r : Rat) (n : Nat), vs = [.ref p] ∧ Sh C H p (pr r) ∧ Sz n r ∧ 0 < n ∧ n ≤ 1900 ∧ Q (.str (g r)) H
theorem S_len_le {l : List Nat} {k : Nat} (h : l.length ≤ k) (hk : k ≤ 100000) : (SX.S l).length ≤ sizeLine := by
  rw [SX.S_len]
  exact Nat.le_trans h (Nat.le_trans hk (by decide))
theorem ok_str (F : Dn K d_Share_str f fd) (T : Cl K mg C) : FnOk P w K mg base CX0 1 f fd ["self"] (spStr C fun r => SX.S (TX.txL r)) := by
  refine F.ok sc_Share_str (fun vs H Q E h => ?_) (fun cdv A outer s H vs Q E hr h => ?_)
  · obtain ⟨p, r, n, rfl, _⟩ := h
    rfl
  · obtain ⟨p, r, n, rfl, ⟨dp, hp⟩, sr, n0, n9, hQ⟩ := h
    refine ⟨_, PSs.nox (pss_cons (ps_if (pt_cmpR op_eq (pe_fld (pv 0) rfl) pe_int (nomark _)) (pss_one (ps_ret (pe_joined1 (pe_fmt (pe_fld (pv 0) rfl))))) pss_nil)
      (pss_one (ps_ret (pe_joined (.cons (pe_fmt (pe_fld (pv 0) rfl)) (.cons pe_str (.cons (pe_fmt (pe_fld (pv 0) rfl)) .nil))))))), ?_⟩
    have l1 : (pr r).1.natAbs.log2 < 1920 := log_1920 (bd_of sr).1 n0 (by omega)
    have l2 : (pr r).2.natAbs.log2 < 1920 := log_1920 (bd_of sr).2.2 n0 (by omega)
    refine ⟨_, rfl, p, C, dp, _, _, rfl, hp, T.cl, T.nb, shF_bot _, rfl, _, rfl, ?_⟩
    refine ite2 (fun h1 => ?_) (fun h1 => ?_)
    · have e1 : r.den = 1 := by
        have : (pr r).2 = 1 := V.int.inj (of_decide_eq_true h1)
        have : (r.den : Int) = 1 := this
        omega
      refine ⟨_, rfl, p, C, dp, _, _, rfl, hp, T.cl, T.nt, shF_top _, .inr ⟨_, rfl, l1, ?_⟩⟩
      have e2 : (Str.ofString (toString (pr r).1)) = SX.S (TX.txL r) := by
        rw [TX.tl_int]
        unfold TX.txL
        rw [if_pos e1]
        rfl
      show Q (.str (Str.ofString (toString (pr r).1))) H
      rw [e2]
      exact hQ
    · have e1 : ¬ r.den = 1 := fun z => h1 (by
        have : (pr r).2 = 1 := by show (r.den : Int) = 1; omega
        rw [this]
        rfl)
      have k1 : (TX.intL r.num).length ≤ n + 1 := TX.intL_pow sr.1 n0
      have k2 := TX.numL_pow sr.2 n0
      refine ⟨_, rfl, p, C, dp, _, _, rfl, hp, T.cl, T.nt, shF_top _, .inr ⟨_, rfl, l1, _, rfl, ?_, _, rfl, ?_, _, rfl, p, C, dp, _, _, rfl, hp, T.cl, T.nb, shF_bot _, .inr ⟨_, rfl, l2, _, rfl, ?_, ?_⟩⟩⟩
      · show (Str.empty ++ Str.ofString (toString (pr r).1)).length ≤ sizeLine
        rw [show Str.empty ++ Str.ofString (toString (pr r).1) = SX.S (TX.intL r.num) from by rw [TX.tl_int]; exact SX.S_cat [] _]
        exact S_len_le k1 (by omega)
      · show (Str.empty ++ Str.ofString (toString (pr r).1) ++ Str.ofString "/").length ≤ sizeLine
        rw [show Str.empty ++ Str.ofString (toString (pr r).1) = SX.S (TX.intL r.num) from by rw [TX.tl_int]; exact SX.S_cat [] _, TX.stroke_S, SX.S_cat]
        exact S_len_le (k := n + 2) (by rw [List.length_append]; simp; omega) (by omega)
      · show (Str.empty ++ Str.ofString (toString (pr r).1) ++ Str.ofString "/" ++ Str.ofString (toString (pr r).2)).length ≤ sizeLine
        rw [show Str.empty ++ Str.ofString (toString (pr r).1) = SX.S (TX.intL r.num) from by rw [TX.tl_int]; exact SX.S_cat [] _, TX.stroke_S, SX.S_cat,
          show Str.ofString (toString (pr r).2) = SX.S (TL.numL r.den) from SX.num_S r.den, SX.S_cat]
        exact S_len_le (k := n + 2 + n) (by rw [List.length_append, List.length_append]; simp; omega) (by omega)
      · show Q (.str (Str.empty ++ Str.ofString (toString (pr r).1) ++ Str.ofString "/" ++ Str.ofString (toString (pr r).2))) H
        rw [show Str.empty ++ Str.ofString (toString (pr r).1) = SX.S (TX.intL r.num) from by rw [TX.tl_int]; exact SX.S_cat [] _, TX.stroke_S, SX.S_cat,
          show Str.ofString (toString (pr r).2) = SX.S (TL.numL r.den) from SX.num_S r.den, SX.S_cat,
          show TX.intL r.num ++ [47] ++ TL.numL r.den = TX.txL r from by unfold TX.txL; rw [if_neg e1]; simp]
        exact hQ
/-- the text that repr tells -/
def rpS (r : Rat) : Str := Str.empty ++ Str.ofString "Share(" ++ Str.ofString (toString (pr r).1) ++ Str.ofString ", " ++ Str.ofString (toString (pr r).2) ++ Str.ofString ")"
theorem ok_repr (F : Dn K d_Share_repr f fd) (T : Cl K mg C) : FnOk P w K mg base CX0 1 f fd ["self"] (spStr C rpS) := by
  refine F.ok sc_Share_repr (fun vs H Q E h => ?_) (fun cdv A outer s H vs Q E hr h => ?_)
  · obtain ⟨p, r, n, rfl, _⟩ := h
    rfl
  · obtain ⟨p, r, n, rfl, ⟨dp, hp⟩, sr, n0, n9, hQ⟩ := h
    refine ⟨_, PSs.nox (pss_one (ps_ret (pe_joined (.cons pe_str (.cons (pe_fmt (pe_fld (pv 0) rfl)) (.cons pe_str (.cons (pe_fmt (pe_fld (pv 0) rfl)) (.cons pe_str .nil)))))))), ?_⟩
    have l1 : (pr r).1.natAbs.log2 < 1920 := log_1920 (bd_of sr).1 n0 (by omega)
    have l2 : (pr r).2.natAbs.log2 < 1920 := log_1920 (bd_of sr).2.2 n0 (by omega)
    have k1 : (TX.intL r.num).length ≤ n + 1 := TX.intL_pow sr.1 n0
    have k2 := TX.numL_pow sr.2 n0
    have t1 : Str.ofString (toString (pr r).1) = SX.S (TX.intL r.num) := TX.tl_int r.num
    have t2 : Str.ofString (toString (pr r).2) = SX.S (TL.numL r.den) := SX.num_S r.den
    have c1 : Str.empty ++ Str.ofString "Share(" = SX.S [83, 104, 97, 114, 101, 40] := by decide +kernel
    have c2 : Str.ofString ", " = SX.S [44, 32] := by decide +kernel
    have c3 : Str.ofString ")" = SX.S [41] := by decide +kernel
    refine ⟨_, rfl, ?_, _, rfl, p, C, dp, _, _, rfl, hp, T.cl, T.nt, shF_top _, .inr ⟨_, rfl, l1, _, rfl, ?_, _, rfl, ?_, _, rfl, p, C, dp, _, _, rfl, hp, T.cl, T.nb, shF_bot _, .inr ⟨_, rfl, l2, _, rfl, ?_, _, rfl, ?_, hQ⟩⟩⟩
    · show (Str.empty ++ Str.ofString "Share(").length ≤ sizeLine
      rw [c1]
      exact S_len_le (k := 6) (by decide) (by decide)
    · show (Str.empty ++ Str.ofString "Share(" ++ Str.ofString (toString (pr r).1)).length ≤ sizeLine
      rw [c1, t1, SX.S_cat]
      exact S_len_le (k := n + 7) (by rw [List.length_append]; simp; omega) (by omega)
    · show (Str.empty ++ Str.ofString "Share(" ++ Str.ofString (toString (pr r).1) ++ Str.ofString ", ").length ≤ sizeLine
      rw [c1, t1, c2, SX.S_cat, SX.S_cat]
      exact S_len_le (k := n + 9) (by rw [List.length_append, List.length_append]; simp; omega) (by omega)
    · show (Str.empty ++ Str.ofString "Share(" ++ Str.ofString (toString (pr r).1) ++ Str.ofString ", " ++ Str.ofString (toString (pr r).2)).length ≤ sizeLine
      rw [c1, t1, c2, t2, SX.S_cat, SX.S_cat, SX.S_cat]
      exact S_len_le (k := n + 9 + n) (by rw [List.length_append, List.length_append, List.length_append]; simp; omega) (by omega)
    · show (Str.empty ++ Str.ofString "Share(" ++ Str.ofString (toString (pr r).1) ++ Str.ofString ", " ++ Str.ofString (toString (pr r).2) ++ Str.ofString ")").length ≤ sizeLine
      rw [c1, t1, c2, t2, c3, SX.S_cat, SX.S_cat, SX.S_cat, SX.S_cat]
      exact S_len_le (k := n + 10 + n) (by rw [List.length_append, List.length_append, List.length_append, List.length_append]; simp; omega) (by omega)
end
end K05
set_option Elab.async false
set_option linter.all false
set_option maxRecDepth 100000
set_option maxHeartbeats 4000000
namespace K05
open PySem PySem.Spec PyProof.Rows L2
open C8 (Cal Mak Met pe_c pe_mk pe_mt pe_mt0)
open KM (pr Sz)
section
variable {P : Program} {w : World} {K : PySem.W.Frag} {mg : Str → Option Value} {base : Heap} {f C : Addr} {fd : FuncData}
def spNum : Sp := fun vs H Q _ => ∃ n : Nat, vs = [.str (SX.S (TL.numL n))] ∧ (TL.numL n).length ≤ 4000 ∧ ∀ H', Same H H' → Q (.bl true) H'
theorem fig_S : (Str.ofString "0123456789").cps.toList = [48, 49, 50, 51, 52, 53, 54, 55, 56, 57] := by decide +kernel
theorem ok_num (F : Dn K d_is_number_text f fd) (b : Bm mg) (gF : ∃ t, mg "FIGURES" = some (.str "0123456789" t)) : FnOk P w K mg base CX0 1 f fd ["text"] spNum := by
  refine F.ok sc_is_number_text (fun vs H Q E h => ?_) (fun cdv A outer s H vs Q E hr h => ?_)
  · obtain ⟨n, rfl, _⟩ := h
    rfl
  · obtain ⟨n, rfl, hl, hQ⟩ := h
    obtain ⟨tf, gF⟩ := gF
    refine ⟨_, PSs.nox (pss_cons (ps_if (pt_cmpR op_eq (pv 0) pe_str (nomark _)) (pss_one (ps_ret pe_bl)) pss_nil)
      (pss_one (ps_ret (pe_and (pe_cmpR op_ne (pv 0) pe_str (nomark _)) (pe_and (pe_cmpR op_ne (pe_ix ix_str (pv 0) pe_int (fun _ _ => rfl)) pe_str (nomark _))
        (pe_one (pe_callB (cr_all rfl) rfl b.all boot_all (pa_cons (pe_lc (own := [("sign", 1)]) (g := gName 1) (tt := tYes) rfl sc_is_number_text.nd (pi_str (pv 0)) (blkOk_by (N := N_is_number_text) (sc := defScope s_is_number_text) (by decide +kernel))
          (fun _ _ _ _ _ => pg_name (i := 1) sc_is_number_text.nd rfl (Or.inl rfl)) (fun _ _ _ _ _ => pts_nil) (fun _ _ _ _ _ => pe_cmpR op_in_sign (pv 1) (pe_glob (v := .str "0123456789") rfl gF ⟨tf, rfl⟩) rfl)) pa_nil)))))))), ?_⟩
    refine ⟨_, rfl, rfl, _, rfl, ?_⟩
    refine ite2 (fun h1 => hQ H (Same.refl H)) (fun h1 => ?_)
    have hn : 0 < n := Nat.pos_of_ne_zero fun z => h1 (by
      rw [z, TX.numL_zero, TX.zero_S]
      simp)
    obtain ⟨c, l, e, hc⟩ := TX.numL_head n hn
    refine ⟨_, rfl, rfl, _, rfl, ?_⟩
    have e1 : (!decide (V.str (SX.S (TL.numL n)) = V.str (Str.ofString ""))) = true := by
      rw [TX.empty_S, e]
      simp [SX.S]
    rw [e1]
    refine iteT ?_
    refine ⟨_, rfl, _, _, c, rfl, rfl, ?_, ?_, rfl, _, rfl, ?_⟩
    · rw [SX.S_len]
      exact Nat.le_trans hl (by decide)
    · rw [e]
      exact atI_nat (j := 0) rfl
    have e2 : (!decide (V.str ⟨#[c]⟩ = V.str (Str.ofString "0"))) = true := by
      rw [TX.zero_S]
      simp [SX.S, hc]
    rw [e2]
    refine iteT ?_
    refine ⟨_, rfl, _, rfl, fun D hD => lc_it walk_str (fun i H2 => H2 D = some (.lst ((List.replicate i true).map V.bl)) ∧ Same H H2) ⟨upd_same, same_new hD⟩ (fun _ _ _ _ => trivial) ?_ ?_⟩
    · rintro i x H2 H3 hi ⟨hd, sm⟩ ⟨rfl, c', hc', rfl⟩
      refine ⟨rfl, ?_⟩
      refine ⟨_, rfl, c', _, rfl, rfl, ?_⟩
      have hm : c' ∈ (Str.ofString "0123456789").cps.toList := by
        have hmem : c' ∈ TL.numL n := by
          have : (TL.numL n)[i]? = some c' := by
            have h3 := hc'
            simpa [SX.S] using h3
          exact List.mem_of_getElem? this
        have hd := TL.numL_digits n c' hmem
        rw [fig_S]
        simp only [List.mem_cons, List.not_mem_nil, or_false]
        omega
      rw [decide_eq_true hm]
      have hi' : i < (TL.numL n).length := by simpa [SX.S] using hi
      refine ⟨_, hd, ?_, ?_, ?_⟩
      · rw [List.length_map, List.length_replicate]
        exact Nat.lt_of_lt_of_le hi' (Nat.le_trans hl (by decide))
      · rw [upd_same]
        simp [List.replicate_succ']
      · intro a o e
        rw [upd_ne (ne_of_none e hD)]
        exact sm a o e
    · rintro H2 ⟨hd, sm⟩
      refine ⟨D, _, rfl, SqL.of hd, ?_⟩
      have e3 : (List.replicate (SX.S (TL.numL n)).cps.size true).all id = true := by simp
      rw [e3]
      exact hQ H2 sm
abbrev MakS1 (P : Program) (w : World) (K : PySem.W.Frag) (mg : Str → Option Value) (base : Heap) (C : Addr) : Prop := Mak P w K mg base 2 "Share" C (spInit C) [.int 1]
theorem mk_in {C x dx : Addr} {H1 : Hp} {t b : Int} {n : Nat} {Qv : VK} {E : XK} (nx : H1 x = none) (nd : H1 dx = none) (hb : b ≠ 0) (hn : b.natAbs < 2 ^ n) (hn0 : 0 < n) (hn9 : n ≤ 9000)
    (hQ : ∀ H', Same H1 H' → Sh C H' x (pr (Rat.divInt t b)) → Qv .non H') : spInit C [.ref x, .int t, .int b] (upd (upd H1 dx (.own x)) x (.ins C dx [])) Qv E := by
  refine ⟨x, dx, t, b, n, rfl, hb, hn, hn0, hn9, upd_same, fun H' kp hp => hQ H' (fun a o e => ?_) ⟨dx, KM.low_eq hb ▸ hp⟩⟩
  refine kp a o (ne_of_none e nx) ?_
  rw [upd_ne (ne_of_none e nx), upd_ne (ne_of_none e nd)]
  exact e
def spShareOf (C : Addr) : Sp := fun vs H Q _ => ∃ (r : Rat) (n : Nat), vs = [.str (SX.S (TX.txL r))] ∧ Sz n r ∧ 0 < n ∧ n ≤ 600 ∧ ∀ p H', Same H H' → H p = none → Sh C H' p (pr r) → Q (.ref p) H'
theorem ok_share_of (F : Dn K d_share_of f fd) (bl : Bl mg) (b : Bm mg) (cN : Cal P w K mg base 1 "is_number_text" spNum []) (MS : MakS P w K mg base C) (SS : OW.Spc P w K mg base 1 C "__str__" (spStr C fun r => SX.S (TX.txL r))) :
    FnOk P w K mg base CX0 4 f fd ["text"] (spShareOf C) := by
  refine F.ok sc_share_of (fun vs H Q E h => ?_) (fun cdv A outer s H vs Q E hr h => ?_)
  · obtain ⟨r, n, rfl, _⟩ := h
    rfl
  · obtain ⟨r, n, rfl, sr, n0, n9, hQ⟩ := h
    have k1 : (TX.intL r.num).length ≤ n + 1 := TX.intL_pow sr.1 n0
    have k2 : (TL.numL r.den).length ≤ n := TX.numL_pow sr.2 n0
    have k3 := TX.txL_len sr n0
    refine ⟨_, PSs.nox (pss_cons (ps_if (pt_not (pt_val (pe_callB call_isi rfl bl.isi boot_isinstance (pa_cons (pv 0) (pa_cons (pe_bltn (v := .ty "str") rfl b.str boot_str rfl) pa_nil))))) pss_never pss_nil)
      (C8.pss_cut (ps_asg (pe_partition (pv 0) pe_str) (pg_tup rfl (pgs_cons (pg_name (i := 1) sc_share_of.nd rfl (.inl rfl)) (pgs_cons (pg_name (i := 2) sc_share_of.nd rfl (.inl rfl)) (pgs_cons (pg_name (i := 3) sc_share_of.nd rfl (.inl rfl)) pgs_nil)))))
      (C8.pss_cut (ps_if (pt_cmpR op_eq (pv 2) pe_str (nomark _)) (pss_one (ps_set (i := 3) sc_share_of.nd rfl (.inl rfl) pe_str)) pss_nil)
      (pss_cons (ps_if (PW.pt (pw_or (pt_not (pt_val (pe_c cN hr (by decide) rfl (pa_cons (pe_m1 PySem.F.slot_str_removeprefix PySem.F.type_str_removeprefix mt_removeprefix (pv 1) pe_str) pa_nil))))
          (pw_or (pt_not (pt_val (pe_c cN hr (by decide) rfl (pa_cons (pv 3) pa_nil)))) (pw_or1 (pt_cmpR op_eq (pv 3) pe_str (nomark _)))))) pss_never pss_nil)
      (pss_cons (ps_set (i := 4) sc_share_of.nd rfl (.inl rfl) (pe_mk MS hr (by decide) rfl (pa_cons (pe_callTy call_int_str rfl bl.int boot_int (pa_cons (pv 1) pa_nil)) (pa_cons (pe_callTy call_int_str rfl bl.int boot_int (pa_cons (pv 3) pa_nil)) pa_nil))))
      (pss_cons (ps_if (pt_cmpR op_ne (pe_callTy (OW.call_strO SS hr) rfl b.str boot_str (pa_cons (pv 4) pa_nil)) (pv 0) (nomark _)) pss_never pss_nil)
      (pss_one (ps_ret (pv 4))))))))), ?_⟩
    refine ⟨_, rfl, _, _, _, _, true, rfl, ClsV.ty _, TyX.base (TyOf.str _), kit_ty (by decide +kernel), true, rfl, iteF ?_⟩
    refine ⟨fun σ' H' => Same H H' ∧ ∃ v2 v3, σ' = [some (.str (SX.S (TX.txL r))), some (.str (SX.S (TX.intL r.num))), some (.str v2), some (.str v3), none] ∧ ((r.den = 1 ∧ v2 = SX.S []) ∨ (r.den ≠ 1 ∧ v2 = SX.S [47] ∧ v3 = SX.S (TL.numL r.den))), ?_, ?_⟩
    · refine ⟨_, rfl, ⟨_, rfl⟩, _, _, rfl, rfl, by decide +kernel, ?_, fun u hu => ?_⟩
      · rw [SX.S_len]
        exact Nat.le_trans k3 (Nat.le_trans (by omega : 2 * n + 2 ≤ 100000) (by decide))
      · refine ⟨u, _, rfl, SqT.of upd_same, rfl, _, _, rfl, _, _, rfl, _, _, rfl, rfl, same_new hu, ?_⟩
        by_cases hd : r.den = 1
        · have e : TX.txL r = TX.intL r.num := by unfold TX.txL; rw [if_pos hd]
          rw [e, TX.stroke_S, TX.part_one]
          exact ⟨_, _, rfl, .inl ⟨hd, rfl⟩⟩
        · have e : TX.txL r = TX.intL r.num ++ (47 :: TL.numL r.den) := by unfold TX.txL; rw [if_neg hd]
          rw [TX.stroke_S]
          have e2 : Txt.partition (SX.S (TX.txL r)) (SX.S [47]) = (SX.S (TX.intL r.num), SX.S [47], SX.S (TL.numL r.den)) := by rw [e]; exact TX.part_two _ _
          rw [e2]
          exact ⟨_, _, rfl, .inr ⟨hd, rfl, rfl⟩⟩
    rintro σ' H1 ⟨s1, v2, v3, rfl, hv⟩
    refine ⟨fun σ' H' => H' = H1 ∧ ∃ v2, σ' = [some (.str (SX.S (TX.txL r))), some (.str (SX.S (TX.intL r.num))), v2, some (.str (SX.S (TL.numL r.den))), none], ?_, ?_⟩
    · refine ⟨_, rfl, rfl, _, rfl, ?_⟩
      rcases hv with ⟨hd, rfl⟩ | ⟨hd, rfl, rfl⟩
      · have z : decide (V.str (SX.S []) = V.str (Str.ofString "")) = true := by rw [TX.empty_S]; simp
        rw [z]
        refine iteT ⟨rfl, some (.str (SX.S [])), ?_⟩
        have e : TL.numL r.den = [49] := by rw [hd]; exact TL.numL_lt (by decide)
        rw [e, ← TX.one_S]
        rfl
      · have z : decide (V.str (SX.S [47]) = V.str (Str.ofString "")) = false := by rw [TX.empty_S]; simp [SX.S]
        rw [z]
        exact iteF ⟨rfl, _, rfl⟩
    rintro σ' H2 ⟨rfl, v2, rfl⟩
    have k4 : (TL.numL r.num.natAbs).length ≤ n := TX.numL_pow sr.1 n0
    refine ⟨_, rfl, ⟨_, rfl⟩, _, _, rfl, rfl, S_len_le k1 (by omega), r.num.natAbs, by rw [TX.minus_S, TX.rp_int]; rfl, by omega, fun H3 s3 => ⟨true, rfl, iteF ?_⟩⟩
    refine ⟨_, rfl, r.den, rfl, by omega, fun H4 s4 => ⟨true, rfl, iteF ?_⟩⟩
    refine ⟨_, rfl, rfl, _, rfl, ?_⟩
    have z : decide (V.str (SX.S (TL.numL r.den)) = V.str (Str.ofString "0")) = false := by
      refine decide_eq_false fun z => r.den_nz ?_
      rw [TX.zero_S, ← TX.numL_zero] at z
      exact TL.numL_inj (SX.S_inj (V.str.inj z))
    rw [z]
    refine iteF ?_
    have i2 : intText? (SX.S (TL.numL r.den)) = some (r.den : Int) := by
      have := TL.int_num (n := r.den) (by omega)
      rw [SX.num_S] at this
      exact this
    refine ⟨_, rfl, _, r.num, rfl, TX.int_int (by omega), by rw [SX.S_len]; omega, _, rfl, _, (r.den : Int), rfl, i2, by rw [SX.S_len]; omega, ?_⟩
    intro p pd np nd ne
    refine mk_in (n := n) np nd (KM.den_ne r) (bd_of sr).2.2 n0 (by omega) fun H5 s5 hp => ⟨rfl, ?_⟩
    rw [Rat.num_divInt_den] at hp
    obtain ⟨dp, hp1⟩ := id hp
    have s05 := ((s1.trans s3).trans s4).trans s5
    refine ⟨_, rfl, p, dp, _, rfl, hp1, p, r, n, rfl, hp, sr, n0, by omega, _, rfl, _, rfl, rfl, _, rfl, ?_⟩
    refine iteNS rfl ?_
    exact ⟨_, rfl, hQ p H5 s05 (((s1.trans s3).trans s4).free np) hp⟩
/-! ### total -/
/-- the sum from the left -/
def sumR (rs : List Rat) : Rat := rs.foldl (· + ·) 0
theorem fold_from (a : Rat) : ∀ rs : List Rat, rs.foldl (· + ·) a = a + sumR rs
  | [] => by show a = a + 0; rw [Rat.add_zero]
  | r :: rs => by
    show rs.foldl (· + ·) (a + r) = a + rs.foldl (· + ·) (0 + r)
    rw [fold_from (a + r) rs, fold_from (0 + r) rs, Rat.zero_add, Rat.add_assoc]
theorem sumR_app (xs ys : List Rat) : sumR (xs ++ ys) = sumR xs + sumR ys := by
  unfold sumR
  rw [List.foldl_append]
  exact fold_from _ ys
theorem sumR_cons (r : Rat) (rs : List Rat) : sumR (r :: rs) = r + sumR rs := by
  have := sumR_app [r] rs
  rw [List.singleton_append] at this
  rw [this]
  show (0 + r) + _ = _
  rw [Rat.zero_add]
theorem sumR_rev : ∀ rs : List Rat, sumR rs.reverse = sumR rs
  | [] => rfl
  | r :: rs => by
    rw [List.reverse_cons, sumR_app, sumR_rev rs, sumR_cons r rs, Rat.add_comm]
    show (0 + r) + _ = _
    rw [Rat.zero_add]
theorem sz_sum {k : Nat} : ∀ {rs : List Rat}, (∀ r ∈ rs, Sz k r) → Sz (1 + (k + 1) * rs.length) (sumR rs) := by
  intro rs
  induction rs with
  | nil =>
    intro _
    refine ⟨Nat.two_pow_pos _, ?_⟩
    show 1 < 2 ^ (1 + (k + 1) * 0)
    simp
  | cons r rs ih =>
    intro h
    rw [sumR_cons]
    have h1 := h r (List.mem_cons_self ..)
    have h2 := ih fun x hx => h x (List.mem_cons_of_mem _ hx)
    refine (KM.sz_plus h1 h2).1.mono ?_
    rw [List.length_cons, Nat.mul_add]
    omega
/-- a list of Shares at l -/
def ShL (K : PySem.W.Frag) (C : Addr) (H : Hp) (l : Addr) (L : List (Addr × Rat)) : Prop := SqL K H l (L.map fun x => V.ref x.1) ∧ ∀ x ∈ L, Sh C H x.1 (pr x.2)
theorem ShL.keep {H H' : Hp} {l : Addr} {L : List (Addr × Rat)} (s : Same H H') (h : ShL K C H l L) : ShL K C H' l L := ⟨s.seq h.1, fun x hx => (h.2 x hx).keep s⟩
def ratsOf (L : List (Addr × Rat)) : List Rat := L.map (·.2)
def spTotal (K : PySem.W.Frag) (C : Addr) : Sp := fun vs H Q _ => ∃ (l : Addr) (L : List (Addr × Rat)), vs = [.ref l, .int 0] ∧ ShL K C H l L ∧ (∀ x ∈ L, Sz 21 x.2) ∧ L.length ≤ 20 ∧
  ∀ t H', Same H H' → H t = none → Sh C H' t (pr (sumR (ratsOf L))) → Q (.ref t) H'
theorem ok_total (F : Dn K d_total f fd) (M1 : MakS1 P w K mg base C) (mp : Met P w K mg base 4 C "plus" (sp2 C (· + ·)) []) : FnOk P w K mg base CX0 5 f fd ["shares", "start"] (spTotal K C) := by
  refine F.ok sc_total (fun vs H Q E h => ?_) (fun cdv A outer s H vs Q E hr h => ?_)
  · obtain ⟨l, L, rfl, _⟩ := h
    rfl
  · obtain ⟨l, L, rfl, hL, hS, hlen, hQ⟩ := h
    refine ⟨_, PSs.nox (pss_cons (ps_set (i := 2) sc_total.nd rfl (.inl rfl) (pe_mk M1 hr (by decide) rfl (pa_cons (pv 1) pa_nil)))
      (pss_cons (ps_for PassesOwn.never rfl (pi_list (pv 0)) (pg_name (i := 3) sc_total.nd rfl (.inl rfl))
        (pss_one (ps_set (i := 2) sc_total.nd rfl (.inl rfl) (pe_mt mp hr (by decide) (pv 2) (pa_cons (pv 3) pa_nil)))))
      (pss_one (ps_ret (pv 2))))), ?_⟩
    refine ⟨_, rfl, ?_⟩
    intro p pd np nd ne
    refine mk_in (n := 1) np nd (by decide) (by decide) (by decide) (by decide) fun H1 s1 hp => ⟨rfl, ?_⟩
    have z0 : Rat.divInt 0 1 = 0 := by rfl
    rw [z0] at hp
    refine ⟨_, rfl, l, rfl, ⟨_, s1.seq hL.1⟩, for_list (K := K) (xs := L.map fun x => V.ref x.1) (fun i σ H2 => ∃ (q : Addr) (v : Option V), σ = [some (.ref l), some (.int 0), some (.ref q), v] ∧ Same H H2 ∧ H q = none ∧ Sh C H2 q (pr (sumR (ratsOf (L.take i)))))
      ⟨p, none, rfl, s1, np, hp⟩ (fun i σ H2 _ z => by obtain ⟨q, v, _, s2, _⟩ := z; exact s2.seq hL.1) ?_ ?_⟩
    · rintro i y σ H2 hi ⟨q, v, rfl, s2, fq, hq⟩
      rw [List.getElem?_map] at hi
      cases hx : L[i]? with
      | none =>
        rw [hx] at hi
        cases hi
      | some x =>
        rw [hx] at hi
        cases (Option.some.inj hi : V.ref x.1 = y)
        have hm : x ∈ L := List.mem_of_getElem? hx
        have hil : i < L.length := (List.getElem?_eq_some_iff.mp hx).1
        have et : L.take (i + 1) = L.take i ++ [x] := by rw [List.take_add_one, hx]; rfl
        have szt : Sz 500 (sumR (ratsOf (L.take i))) := by
          refine (sz_sum (k := 21) fun r hr => ?_).mono ?_
          · obtain ⟨x', hx', rfl⟩ := List.mem_map.mp hr
            exact hS x' (List.mem_of_mem_take hx')
          · unfold ratsOf
            rw [List.length_map, List.length_take]
            omega
        obtain ⟨dq, hq1⟩ := id hq
        refine ⟨_, rfl, q, dq, _, rfl, hq1, shF_no _ (by decide +kernel) (by decide +kernel), _, rfl, q, x.1, _, x.2, 500, rfl, hq, (hL.2 x hm).keep s2, szt, (hS x hm).mono (by decide), by decide, by decide, fun t H3 s3 ft ht => ?_⟩
        refine ⟨t, _, rfl, s2.trans s3, s2.free ft, ?_⟩
        have er : sumR (ratsOf (L.take i)) + x.2 = sumR (ratsOf (L.take (i + 1))) := by
          rw [et]
          unfold ratsOf
          rw [List.map_append, sumR_app]
          show _ = _ + (0 + x.2)
          rw [Rat.zero_add]
        rw [← er]
        exact ht
    · rintro σ H2 ⟨q, v, rfl, s2, fq, hq⟩
      rw [List.length_map, List.take_length] at hq
      exact ⟨_, rfl, hQ q H2 s2 fq hq⟩
end
end K05
set_option Elab.async false
set_option linter.all false
set_option maxRecDepth 100000
set_option maxHeartbeats 4000000
/-! R2: dict(zip(keys, values)) of two lists; xs.count(b) of truths. -/
namespace R2
open PySem PySem.Spec PyProof.Rows L2
section
variable {X : Cx}
def eqb (b : Bool) : Value → Bool
  | .bool c => c == b
  | _ => false
theorem vals_bl {bs : List Bool} : ∀ {us : List Value}, Vals (bs.map V.bl) us → us = bs.map Value.bool := by
  induction bs with
  | nil =>
    intro us r
    cases r
    rfl
  | cons b bs ih =>
    intro us r
    rw [List.map_cons] at r
    cases r with
    | cons h t =>
      rw [ih t]
      have : _ = Value.bool b := h
      rw [this]
      rfl
theorem count_b (b : Bool) : ∀ bs : List Bool, (bs.map Value.bool).countP (eqb b) = bs.count b
  | [] => rfl
  | c :: bs => by
    rw [List.map_cons, List.countP_cons, List.count_cons, count_b b bs]
    rfl
theorem mt_bcount : MtR X "list.count" (fun x xs H Q => ∃ (p : Addr) (bs : List Bool) (b : Bool), x = .ref p ∧ xs = [.bl b] ∧ SqL X.K H p (bs.map V.bl) ∧ Q (.int (bs.count b : Nat)) H) := by
  intro pins s σ H x xs v us Q I rx rxs h
  obtain ⟨p, bs, b, rfl, rfl, hs, q⟩ := h
  cases rx
  obtain ⟨u, rfl, ru⟩ := rxs.one
  cases (show u = Value.bool b from ru)
  obtain ⟨its, rv, ⟨⟨cls, dd, data, sl⟩, n, ho, hc, hdn, hd⟩, hlen⟩ := I.list hs
  simp only at hc hd
  subst hc hd
  have hi := vals_bl rv
  subst hi
  refine call_meets PySem.F.slot_list_count ⟨_, ho, rfl⟩ PySem.F.entry_list_count (PySem.F.args_list_count_2 _ _) (SeqAt.list_countAt p _ n dd sl (.bool b) (eqb b)) ⟨ho, fun y hy => ?_, ?_⟩
  · have hy' : y ∈ bs.map Value.bool := by simpa using hy
    obtain ⟨c, _, rfl⟩ := List.mem_map.mp hy'
    exact SeqAt.EqAt.bool_bool c b
  · refine ⟨.int (bs.count b : Nat), H, I.tok _, ⟨s.toks, ?_⟩, q⟩
    show Value.int (((bs.map Value.bool).toArray.toList.countP (eqb b) : Nat) : Int) s.toks = Value.int ((bs.count b : Nat) : Int) s.toks
    rw [show (bs.map Value.bool).toArray.toList = bs.map Value.bool from rfl, count_b]
/-- dict(zip(e, e2)): two lists of one length, the keys ints and texts -/
def tDz (K : PySem.W.Frag) (ta : TA) : TE := fun σ H Q => ta σ H fun vs H1 => ∃ (a b : Addr) (kvs : List (Key × V)), vs = [.ref a, .ref b] ∧ SqL K H1 a (kvs.map fun q => kV q.1) ∧ SqL K H1 b (kvs.map (·.2)) ∧
  ∀ p, H1 p = none → Q (.ref p) (upd H1 p (.dK (mergeK [] kvs)))
theorem key_at (P : Program) (w : World) {kvs : List (Key × V)} : ∀ {us ws : List Value}, Vals (kvs.map fun q => kV q.1) us → Vals (kvs.map (·.2)) ws →
    ∃ prs : List (Key × Value), KV kvs prs ∧ prs.length = us.length ∧ ws.length = us.length ∧ ∀ (i : Nat) (k v : Value), us[i]? = some k → ws[i]? = some v → ∃ q, prs[i]? = some (q, v) ∧ keyIs q k = true := by
  induction kvs with
  | nil =>
    intro us ws r1 r2
    cases r1
    cases r2
    exact ⟨[], .nil, rfl, rfl, fun i k v h => by simp at h⟩
  | cons kv kvs ih =>
    intro us ws r1 r2
    rw [List.map_cons] at r1 r2
    cases r1 with
    | @cons _ u _ us' h1 t1 =>
      cases r2 with
      | @cons _ y _ ws' h2 t2 =>
        obtain ⟨prs, a, b, c, d⟩ := ih t1 t2
        refine ⟨(kv.1, y) :: prs, .cons ⟨rfl, h2⟩ a, by rw [List.length_cons, List.length_cons, b], by rw [List.length_cons, List.length_cons, c], fun i k v e1 e2 => ?_⟩
        cases i with
        | zero =>
          have e1' : u = k := Option.some.inj e1
          have e2' : y = v := Option.some.inj e2
          subst e1' e2'
          exact ⟨kv.1, rfl, kV_is (P := P) (w := w) h1⟩
        | succ i => exact d i k v e1 e2
theorem pe_dz {e e2 : Expr} {ta : TA} {p p2 pos pos2 : Pos} (hc : X.calm = true) (hg : Gl X "dict") (hm : X.mg "dict" = none) (hg2 : Gl X "zip") (hm2 : X.mg "zip" = none) (ha : PA X [e, e2] ta)
    (hs : starEach [e, e2] X.env = (false, eval e X.env) :: starEach [e2] X.env := by rfl) (hpl : (backTo pos2 (starEach [e2] X.env)).any (·.1) = false := by rfl)
    (hs2 : starEach [.Call (.Name "zip" p2) [e, e2] [] pos2] X.env = (false, eval (.Call (.Name "zip" p2) [e, e2] [] pos2) X.env) :: starEach [] X.env := by rfl) :
    PE X (.Call (.Name "dict" p) [.Call (.Name "zip" p2) [e, e2] [] pos2] [] pos) (tDz X.K ta) := by
  refine ⟨fun pins s σ H Q I h => ?_⟩
  refine Call_ (ld_blt I hg hm boot_dict (PyProof.Rows.callWith_type1 (args_cons (Call_ (ld_blt I hg2 hm2 PyProof.Rows.boot_zip (PyProof.Rows.callWith_type1 (thn (ha.run pos2 pins s σ H _ I h) fun us s1 z => ?_) hs hpl))) hs2) hs2 rfl))
  obtain ⟨vs, H1, I1, r1, a, b, kvs, ev, hqa, hqb, q⟩ := z
  subst ev
  cases r1 with
  | cons ra rr =>
    cases rr with
    | cons rb rr =>
      cases rr
      cases ra
      cases rb
      obtain ⟨its, rv, p1, z1⟩ := I1.list hqa
      obtain ⟨its2, rv2, p2', _⟩ := I1.list hqb
      obtain ⟨prs, kv, hl, hl2, hk⟩ := key_at X.prog X.w rv rv2
      have la : a < s1.heap.objs.size := p1.lt
      have lb : b < s1.heap.objs.size := p2'.lt
      have hz : its.length ≤ sizeLine := by rw [← rv.length]; exact z1
      refine call_zip_2 p1.isList p2'.isList fun h' iz iTI iTO i1 i2 hsz hkeep => args_nil ?_
      have Z := PySem.PairArg.zip (prog := X.prog) (w := X.w) (s1.heap.objs.size + 4) (s1.heap.objs.size + 2) (s1.heap.objs.size + 3) s1.heap.objs.size (s1.heap.objs.size + 1) a b (PySem.W.ktu_apart s1.heap.objs.size a b la lb) its.toArray its2.toArray
      have hmin : min its.toArray.size its2.toArray.size = its.length := by
        rw [List.size_toArray, List.size_toArray, hl2]
        exact Nat.min_self _
      have l1' : h'.IsList a its.toArray := p1.isList.at fun o e => hkeep _ o e
      have l2' : h'.IsList b its2.toArray := p2'.isList.at fun o e => hkeep _ o e
      refine call_dict_pairs (knd := mixKind X.prog X.w) (kvs := prs) Z (I1.ok.hd hc) ⟨iz, iTI, ⟨_, _, iTO⟩, i1, i2, l1', l2'⟩ ⟨by rw [hmin, hl], fun i k v hh => ?_⟩ (by rw [hmin]; exact hz) fun h2 tk hd2 k2 => ?_
      · obtain ⟨e1, e2⟩ := hh
        obtain ⟨q0, e3, e4⟩ := hk i k v (by simpa using e1) (by simpa using e2)
        exact ⟨q0, e3, e4⟩
      · have hp : s1.heap.objs.size ≤ h'.objs.size := by rw [hsz]; exact Nat.le_add_right _ _
        have hmain : (h'.objs.size == sysModules) = false := beq_eq_false_iff_ne.mpr (Nat.ne_of_gt (Nat.lt_of_lt_of_le I1.big hp))
        have hlen : (mergeK [] kvs).length ≤ sizeLine := by
          refine Nat.le_trans (length_mergeK kvs []) ?_
          have := kv.length
          rw [List.length_nil, Nat.zero_add, this, hl]
          exact hz
        have keep : ∀ c o, s1.heap.get? c = some o → h2.get? c = some o := fun c o e => by
          refine k2 c o ?_ (hkeep c o e)
          have lt := Heap.lt_size e
          have far : ∀ j, c ≠ s1.heap.objs.size + j := fun j => Nat.ne_of_lt (Nat.lt_of_lt_of_le lt (Nat.le_add_right _ _))
          intro hm
          simp only [List.mem_cons, List.not_mem_nil, or_false] at hm
          rcases hm with z | z | z | z
          · exact far 4 z
          · exact far 3 z
          · exact far 0 z
          · exact far 1 z
        exact ⟨.ref h'.objs.size, upd H1 h'.objs.size (.dK (mergeK [] kvs)), I1.laid (t' := tk) keep hp (show ObjOk X.prog X.w _ _ _ (.dK (mergeK [] kvs)) from ⟨hlen, hmain, merged [] prs, KV.merge kv .nil, hd2⟩), rfl, q _ (I1.hok.fresh hp)⟩
end
end R2
set_option linter.all false
set_option Elab.async false
/-! IO: names put in order by worths, one behind another. -/
namespace IO
open PySem
/-- x is ahead of y, as texts -/
def slt (x y : Str) : Prop := x.cps.toList < y.cps.toList
instance (x y : Str) : Decidable (slt x y) := inferInstanceAs (Decidable (x.cps.toList < y.cps.toList))
theorem slt_trans_not {x y z : Str} (h1 : ¬ slt y x) (h2 : ¬ slt z y) : ¬ slt z x := by
  have a : x.cps.toList ≤ y.cps.toList := h1
  have b : y.cps.toList ≤ z.cps.toList := h2
  exact List.le_trans a b
theorem slt_antisymm {x y : Str} (h1 : ¬ slt y x) (h2 : ¬ slt x y) : x = y := by
  have a : x.cps.toList ≤ y.cps.toList := h1
  have b : y.cps.toList ≤ x.cps.toList := h2
  exact TL.ext_tl (List.le_antisymm a b)
theorem rising : ∀ (l : List Str) (p : Str), PyProof.Rows.risingS p l = true → (p :: l).Pairwise fun a b => ¬ slt b a
  | [], p, _ => List.pairwise_singleton ..
  | x :: r, p, h => by
    have h' : (!PySem.Spec.ltCps x.cps.toList p.cps.toList && PyProof.Rows.risingS x r) = true := h
    rw [Bool.and_eq_true, PyProof.Rows.ltCps_eq] at h'
    have h1 : ¬ slt x p := by
      have := h'.1
      simpa [slt] using this
    have ih := rising r x h'.2
    refine List.pairwise_cons.mpr ⟨fun y hy => ?_, ih⟩
    rcases List.mem_cons.mp hy with e | hy
    · rw [e]; exact h1
    · exact slt_trans_not h1 ((List.pairwise_cons.mp ih).1 y hy)
theorem sorted_pw {l : List Str} (h : PyProof.Rows.sortedS l = true) : l.Pairwise fun a b => ¬ slt b a := by
  cases l with
  | nil => exact List.Pairwise.nil
  | cons x r => exact rising r x h
/-- two lists in order, of the same texts, are one -/
theorem sorted_same {l m : List Str} (h1 : l.Pairwise fun a b => ¬ slt b a) (h2 : m.Pairwise fun a b => ¬ slt b a) (p : l.Perm m) : l = m :=
  List.Perm.eq_of_pairwise (le := fun a b => ¬ slt b a) (fun a b _ _ x y => slt_antisymm x y) h1 h2 p
/-- by worths, alike ones by names -/
def le (ρ : Str → Rat) (x y : Str) : Prop := ρ x < ρ y ∨ (ρ x = ρ y ∧ ¬ slt y x)
theorem le_rat {ρ : Str → Rat} {x y : Str} (h : le ρ x y) : ρ x ≤ ρ y := by
  rcases h with h | h
  · exact Rat.le_of_lt h
  · rw [h.1]; exact Rat.le_refl
theorem put_in {ρ : Str → Rat} {zs : List Str} {x : Str} {j : Nat} (hz : zs.Pairwise (le ρ)) (hx : ∀ z ∈ zs, ¬ slt x z) (hj : j ≤ zs.length) (hi : ∀ z ∈ zs.drop j, ρ x < ρ z) (lo : ∀ z ∈ zs.take j, ρ z ≤ ρ x) :
    (zs.take j ++ [x] ++ zs.drop j).Pairwise (le ρ) := by
  have h0 := hz
  rw [← List.take_append_drop j zs] at h0
  obtain ⟨h1, h2, h3⟩ := List.pairwise_append.mp h0
  rw [List.append_assoc]
  refine List.pairwise_append.mpr ⟨h1, ?_, fun a ha b hb => ?_⟩
  · exact List.pairwise_cons.mpr ⟨fun b hb => .inl (hi b hb), h2⟩
  · rcases List.mem_cons.mp hb with e | hb
    · subst e
      rcases Rat.le_iff_lt_or_eq.mp (lo a ha) with h | h
      · exact .inl h
      · exact .inr ⟨h, hx a (List.mem_of_mem_take ha)⟩
    · exact h3 a ha b hb
theorem put_perm {zs : List Str} {x : Str} (j : Nat) : (zs.take j ++ [x] ++ zs.drop j).Perm (x :: zs) := by
  rw [List.append_assoc]
  have h : (zs.take j ++ ([x] ++ zs.drop j)).Perm (x :: (zs.take j ++ zs.drop j)) := List.perm_middle
  rw [List.take_append_drop] at h
  exact h
end IO
set_option Elab.async false
set_option linter.all false
set_option maxRecDepth 100000
set_option maxHeartbeats 4000000
namespace K05
open PySem PySem.Spec PyProof.Rows L2
open C8 (Cal Mak Met pe_c pe_mk pe_mt pe_mt0)
open KM (pr Sz)
section
variable {P : Program} {w : World} {K : PySem.W.Frag} {mg : Str → Option Value} {base : Heap} {f C : Addr} {fd : FuncData}
/-- a dict from names to Shares: who isn't in it has nought -/
def ShD (C : Addr) (H : Hp) (d : Addr) (kvs : List (Key × V)) (ρ : Str → Rat) : Prop := H d = some (.dK kvs) ∧ (∀ x v, valV kvs (Sum.inr x) = some v → ∃ p, v = .ref p ∧ Sh C H p (pr (ρ x))) ∧ ∀ x, valV kvs (Sum.inr x) = none → ρ x = 0
theorem ShD.keep {H H' : Hp} {d : Addr} {kvs : List (Key × V)} {ρ : Str → Rat} (s : Same H H') (h : ShD C H d kvs ρ) : ShD C H' d kvs ρ :=
  ⟨s _ _ h.1, fun x v e => let ⟨p, e1, e2⟩ := h.2.1 x v e; ⟨p, e1, e2.keep s⟩, h.2.2⟩
/-- what get tells -/
theorem ShD.get {H : Hp} {d n0 : Addr} {kvs : List (Key × V)} {ρ : Str → Rat} (h : ShD C H d kvs ρ) (h0 : Sh C H n0 (pr 0)) (x : Str) : ∃ p, ((valV kvs (Sum.inr x)).getD (.ref n0)) = .ref p ∧ Sh C H p (pr (ρ x)) := by
  cases e : valV kvs (Sum.inr x) with
  | none =>
    rw [h.2.2 x e]
    exact ⟨n0, rfl, h0⟩
  | some v =>
    obtain ⟨p, rfl, hp⟩ := h.2.1 x v e
    exact ⟨p, rfl, hp⟩
def spInOrder (K : PySem.W.Frag) (C : Addr) : Sp := fun vs H Q _ => ∃ (l d : Addr) (xs : List Str) (kvs : List (Key × V)) (ρ : Str → Rat) (n : Nat), vs = [.ref l, .ref d] ∧ SqL K H l (xs.map V.str) ∧ xs.length < 64 ∧ ShD C H d kvs ρ ∧ (∀ x, Sz n (ρ x)) ∧ 0 < n ∧ n ≤ 4000 ∧
  ∀ (o : Addr) (zs : List Str) (H' : Hp), Same H H' → H o = none → H' o = some (.lst (zs.map V.str)) → zs.Perm xs → zs.Pairwise (IO.le ρ) → Q (.ref o) H'
theorem ok_in_order (F : Dn K d_in_order f fd) (bl : Bl mg) (b : Bm mg) (M1 : MakS1 P w K mg base C) (mb : Met P w K mg base 1 C "below" (spLt C) []) : FnOk P w K mg base CX0 4 f fd ["names", "shares"] (spInOrder K C) := by
  refine F.ok sc_in_order (fun vs H Q E h => ?_) (fun cdv A outer s H vs Q E hr h => ?_)
  · obtain ⟨l, d, xs, kvs, ρ, n, rfl, _⟩ := h
    rfl
  · obtain ⟨l, d, xs, kvs, ρ, n, rfl, hl, hlen, hd, hS, n0, n9, hQ⟩ := h
    have hu := hu_of hr
    refine ⟨_, PSs.nox (pss_cons (ps_set (i := 2) sc_in_order.nd rfl (.inl rfl) (pe_mk M1 hr (by decide) rfl (pa_cons pe_int pa_nil)))
      (pss_cons (ps_set (i := 3) sc_in_order.nd rfl (.inl rfl) (pe_lst pa_nil))
      (pss_cons (ps_for PassesOwn.never rfl (pi_list (pe_callB cr_sortedS rfl b.sorted boot_sorted (pa_cons (pv 0) pa_nil))) (pg_name (i := 4) sc_in_order.nd rfl (.inl rfl))
        (pss_cons (ps_set (i := 5) sc_in_order.nd rfl (.inl rfl) (pe_dget2 hu (pv 1) (pv 4) (pv 2) ⟨rfl, rfl, rfl, rfl⟩))
        (pss_cons (ps_set (i := 6) sc_in_order.nd rfl (.inl rfl) (pe_callB call_len_seq rfl bl.len boot_len (pa_cons (pv 3) pa_nil)))
        (pss_cons (ps_while PassesOwn.never (PW.pt (pw_and (pt_cmpR op_gt (pv 6) pe_int (nomark _)) (pw_and1 (pt_val (pe_mt mb hr (by decide) (pv 5) (pa_cons (pe_dget2 hu (pv 1) (pe_ix ix_list (pv 3) (pe_op op_sub (pv 6) pe_int) (fun _ _ => rfl)) (pv 2) ⟨rfl, rfl, rfl, rfl⟩) pa_nil))))))
          (pss_one (ps_aug (i := 6) sc_in_order.nd rfl (.inl rfl) pe_int ip_sub)))
        (pss_one (ps_expr (pe_bm PySem.F.plainAttrs_list PySem.F.slot_list_insert PySem.F.type_list_insert mt_insert (pv 3) (pa_cons (pv 6) (pa_cons (pv 4) pa_nil)))))))))
      (pss_one (ps_ret (pv 3)))))), ?_⟩
    intro p pd np nd ne
    refine mk_in (n := 1) np nd (by decide) (by decide) (by decide) (by decide) fun H1 s1 hp => ⟨rfl, ?_⟩
    have z0 : Rat.divInt 0 1 = 0 := by rfl
    rw [z0] at hp
    refine ⟨by show 0 ≤ sizeLine; decide, fun o ho => ?_⟩
    have so := same_new (o := .lst []) ho
    refine ⟨_, rfl, l, xs, rfl, (s1.trans so).seq hl, hlen, fun ys q hperm hsort hq => ?_⟩
    have sq := same_new (o := .lst (ys.map V.str)) hq
    have noq : o ≠ q := ne_of_none upd_same hq
    have hpw := IO.sorted_pw hsort
    have s3 : Same H1 (upd (upd H1 o (.lst [])) q (.lst (ys.map V.str))) := so.trans sq
    have ho3 : (upd (upd H1 o (.lst [])) q (.lst (ys.map V.str))) o = some (.lst []) := by rw [upd_ne noq]; exact upd_same
    have hq3 : (upd (upd H1 o (.lst [])) q (.lst (ys.map V.str))) q = some (.lst (ys.map V.str)) := upd_same
    generalize upd (upd H1 o (.lst [])) q (.lst (ys.map V.str)) = H3 at s3 ho3 hq3 ⊢
    have ylen : ys.length < 64 := by rw [hperm.length_eq]; exact hlen
    refine ⟨q, rfl, ⟨_, SqL.of hq3⟩, for_list (K := K) (xs := ys.map V.str) (fun i σ H2 => Same H1 H2 ∧ H2 q = some (.lst (ys.map V.str)) ∧ ∃ (zs : List Str) (v4 v5 v6 : Option V), σ = [some (.ref l), some (.ref d), some (.ref p), some (.ref o), v4, v5, v6] ∧ H2 o = some (.lst (zs.map V.str)) ∧ zs.Perm (ys.take i) ∧ zs.Pairwise (IO.le ρ))
      ⟨s3, hq3, [], none, none, none, rfl, ho3, List.Perm.refl _, List.Pairwise.nil⟩ (fun i σ H2 _ z => SqL.of z.2.1) ?_ ?_⟩
    · rintro i y σ H2 hi ⟨s2, hq2, zs, v4, v5, v6, rfl, ho2, zperm, zpw⟩
      rw [List.getElem?_map] at hi
      cases hx : ys[i]? with
      | none =>
        rw [hx] at hi
        cases hi
      | some x =>
        rw [hx] at hi
        cases (Option.some.inj hi : V.str x = y)
        have hd2 := hd.keep (s1.trans s2)
        have hp2 := hp.keep s2
        obtain ⟨px, ex, hpx⟩ := hd2.get hp2 x
        refine ⟨_, rfl, d, rfl, .inl ⟨kvs, .inl hd2.1⟩, _, rfl, _, rfl, _, DGet.k (k := Sum.inr x) hd2.1, ?_⟩
        rw [ex]
        refine ⟨_, rfl, o, _, rfl, Or.inl (SqL.of ho2), ?_⟩
        have hzl : zs.length ≤ i := by rw [zperm.length_eq, List.length_take]; exact Nat.min_le_left _ _
        have hil : i < ys.length := (List.getElem?_eq_some_iff.mp hx).1
        rw [List.length_map]
        refine ⟨fun m σ' H' => H' = H2 ∧ m ≤ zs.length ∧ σ' = [some (.ref l), some (.ref d), some (.ref p), some (.ref o), some (.str x), some (.ref px), some (.int (m : Int))] ∧ ∀ z ∈ zs.drop m, ρ x < ρ z, ⟨zs.length, rfl, Nat.le_refl _, rfl, by simp⟩, ?_⟩
        rintro m σ' H' ⟨rfl, hm, rfl, hgt⟩
        refine ⟨_, rfl, _, _, rfl, rfl, _, rfl, ?_⟩
        have leave : (∀ z ∈ zs.take m, ρ z ≤ ρ x) → tDrop (tBM K "list" (fun x vs H Q => ∃ (l : Addr) (xs : List V) (i : Int) (y : V), x = .ref l ∧ vs = [.int i, y] ∧ H l = some (.lst xs) ∧ xs.length < sizeLine ∧ 0 ≤ i ∧ i < 2 ^ 63 ∧ Q .non (upd H l (.lst (xs.take i.toNat ++ [y] ++ xs.drop i.toNat))))
            (tVar 3) (tCons (tVar 6) (tCons (tVar 4) tNil))) { nx := fun σ' H' => Same H1 H' ∧ H' q = some (.lst (ys.map V.str)) ∧ ∃ (zs : List Str) (v4 v5 v6 : Option V), σ' = [some (.ref l), some (.ref d), some (.ref p), some (.ref o), v4, v5, v6] ∧ H' o = some (.lst (zs.map V.str)) ∧ zs.Perm (ys.take (i + 1)) ∧ zs.Pairwise (IO.le ρ), rt := Q }
            [some (.ref l), some (.ref d), some (.ref p), some (.ref o), some (.str x), some (.ref px), some (.int (m : Int))] H' := by
          intro hlo
          refine ⟨_, rfl, Or.inl ⟨rfl, _, SqL.of ho2⟩, _, rfl, _, rfl, o, _, _, _, rfl, rfl, ho2, ?_, Int.natCast_nonneg m, ?_, ?_⟩
          · rw [List.length_map]
            exact Nat.lt_of_lt_of_le (by omega : zs.length < 64) (by decide)
          · omega
          · refine ⟨fun a u e => ?_, ?_, zs.take m ++ [x] ++ zs.drop m, _, _, _, rfl, ?_, ?_, ?_⟩
            · rw [upd_ne (fun z => by rw [z, ho] at e; cases e)]
              exact s2 a u e
            · rw [upd_ne (Ne.symm noq)]
              exact hq2
            · rw [upd_same, Int.toNat_natCast]
              simp [List.map_append, List.map_take, List.map_drop]
            · refine (IO.put_perm m).trans ?_
              rw [List.take_add_one, hx]
              exact (List.Perm.cons x zperm).trans (List.perm_append_singleton x _).symm
            · refine IO.put_in zpw (fun z hz => ?_) hm hgt hlo
              have hz' : z ∈ ys.take i := zperm.subset hz
              have hsplit : ys = ys.take i ++ x :: ys.drop (i + 1) := by
                have h1 := List.take_append_drop i ys
                rw [List.drop_eq_getElem_cons hil] at h1
                have h2 : ys[i] = x := (List.getElem?_eq_some_iff.mp hx).2
                rw [h2] at h1
                exact h1.symm
              rw [hsplit] at hpw
              exact (List.pairwise_append.mp hpw).2.2 z hz' x (List.mem_cons_self ..)
        cases m with
        | zero =>
          refine ite2 (fun hh => absurd (of_decide_eq_true hh) (by decide)) (fun _ => iteF ?_)
          exact leave (by simp)
        | succ m =>
          have hmm : m < zs.length := hm
          refine ite2 (fun _ => ?_) (fun hh => (hh (decide_eq_true (by omega))).elim)
          have hat : atI (zs.map V.str) (((m + 1 : Nat) : Int) - 1) = some (.str zs[m]) := by
            have e : ((m + 1 : Nat) : Int) - 1 = (m : Int) := by omega
            rw [e]
            exact atI_nat (by rw [List.getElem?_map, List.getElem?_eq_getElem hmm]; rfl)
          obtain ⟨pz, ez, hpz⟩ := hd2.get hp2 zs[m]
          obtain ⟨dx, hpx1⟩ := id hpx
          refine ⟨_, rfl, px, dx, _, rfl, hpx1, shF_no _ (by decide +kernel) (by decide +kernel), _, rfl, d, rfl, .inl ⟨kvs, .inl hd2.1⟩, _, rfl, _, rfl, _, _, rfl, rfl, o, _, _, _, rfl, rfl, SqL.of ho2, hat, _, rfl, _, DGet.k (k := Sum.inr zs[m]) hd2.1, ?_⟩
          rw [ez]
          refine ⟨px, pz, ρ x, ρ zs[m], n, rfl, hpx, hpz, hS x, hS _, n0, n9, _, rfl, ?_⟩
          refine ite2 (fun g => ?_) (fun g => ?_)
          · have g' : ρ x < ρ zs[m] := of_decide_eq_true g
            refine ⟨fun σ' H'' => H'' = H' ∧ σ' = [some (.ref l), some (.ref d), some (.ref p), some (.ref o), some (.str x), some (.ref px), some (.int (m : Int))], ?_, ?_⟩
            · rintro σ' H'' ⟨rfl, rfl⟩
              refine ⟨m, Nat.lt_succ_self m, rfl, Nat.le_of_lt hmm, rfl, fun z hz => ?_⟩
              rw [List.drop_eq_getElem_cons hmm] at hz
              rcases List.mem_cons.mp hz with e | hz
              · rw [e]; exact g'
              · exact hgt z hz
            · refine ⟨_, rfl, _, _, rfl, rfl, rfl, ?_⟩
              show [_, _, _, _, _, _, some (V.int (((m + 1 : Nat) : Int) - 1))] = _
              rw [show ((m + 1 : Nat) : Int) - 1 = (m : Int) by omega]
          · have g' : ¬ ρ x < ρ zs[m] := fun z => g (decide_eq_true z)
            refine leave fun z hz => ?_
            obtain ⟨j, hj, ej⟩ := List.mem_iff_getElem.mp hz
            rw [List.length_take] at hj
            have hjm : j ≤ m := by omega
            have hjz : j < zs.length := by omega
            rw [List.getElem_take] at ej
            have hlast : ρ zs[m] ≤ ρ x := Rat.not_lt.mp g'
            rcases Nat.lt_or_ge j m with hlt | hge
            · have := List.pairwise_iff_getElem.mp zpw j m hjz hmm hlt
              rw [ej] at this
              exact Rat.le_trans (IO.le_rat this) hlast
            · have : j = m := by omega
              subst this
              rw [ej] at hlast
              exact hlast
    · rintro σ H2 ⟨s2, hq2, zs, v4, v5, v6, rfl, ho2, zperm, zpw⟩
      rw [List.length_map, List.take_length] at zperm
      exact ⟨_, rfl, hQ o zs H2 (s1.trans s2) (s1.free ho) ho2 (zperm.trans hperm) zpw⟩
end
end K05
set_option Elab.async false
set_option linter.all false
set_option maxRecDepth 100000
set_option maxHeartbeats 4000000
namespace K05
open PySem PySem.Spec PyProof.Rows L2
open C8 (Cal Mak Met pe_c pe_mk pe_mt pe_mt0)
open KM (pr Sz)
theorem Kp.at_ {h p : Addr} {H H' : Hp} {c : Nat} {o : HO} (k : Kp h H H') (x : Held H h c) (e : H p = some o) (ho : ∀ kvs, o ≠ .dK kvs) : H' p = some o := by
  obtain ⟨l, ns, n, m, h1, _⟩ := x
  exact k.1 p _ e (ne_of e h1 (ho _))
theorem Kp.sh {C h p : Addr} {H H' : Hp} {c : Nat} {q : Int × Int} (k : Kp h H H') (x : Held H h c) (e : Sh C H p q) : Sh C H' p q := by
  obtain ⟨dx, e⟩ := e
  exact ⟨dx, k.at_ x e (by intro _ z; cases z)⟩
/-- a list of Shares at l, plainly -/
def ShB (C : Addr) (H : Hp) (l : Addr) (L : List (Addr × Rat)) : Prop := H l = some (.lst (L.map fun x => V.ref x.1)) ∧ ∀ x ∈ L, Sh C H x.1 (pr x.2)
theorem ShB.to {K : PySem.W.Frag} {C l : Addr} {H : Hp} {L : List (Addr × Rat)} (h : ShB C H l L) : ShL K C H l L := ⟨SqL.of h.1, h.2⟩
theorem ShB.keep {C l : Addr} {H H' : Hp} {L : List (Addr × Rat)} (s : Same H H') (h : ShB C H l L) : ShB C H' l L := ⟨s _ _ h.1, fun x hx => (h.2 x hx).keep s⟩
theorem ShB.kp {C l h : Addr} {H H' : Hp} {c : Nat} {L : List (Addr × Rat)} (k : Kp h H H') (x : Held H h c) (e : ShB C H l L) : ShB C H' l L :=
  ⟨k.at_ x e.1 (by intro _ z; cases z), fun y hy => k.sh x (e.2 y hy)⟩
theorem pick3 {a b c i : Int} (i0 : 0 ≤ i) (i1 : i < 3) : ∃ x, atI [V.int a, V.int b, V.int c] i = some (.int x) ∧ (x = a ∨ x = b ∨ x = c) := by
  obtain h | h | h : i = 0 ∨ i = 1 ∨ i = 2 := by omega
  · subst h; exact ⟨a, atI_nat (j := 0) rfl, .inl rfl⟩
  · subst h; exact ⟨b, atI_nat (j := 1) rfl, .inr (.inl rfl)⟩
  · subst h; exact ⟨c, atI_nat (j := 2) rfl, .inr (.inr rfl)⟩
theorem pick2 {a b i : Int} (i0 : 0 ≤ i) (i1 : i < 2) : ∃ x, atI [V.int a, V.int b] i = some (.int x) ∧ (x = a ∨ x = b) := by
  obtain h | h : i = 0 ∨ i = 1 := by omega
  · subst h; exact ⟨a, atI_nat (j := 0) rfl, .inl rfl⟩
  · subst h; exact ⟨b, atI_nat (j := 1) rfl, .inr rfl⟩
section
variable {P : Program} {w : World} {K : PySem.W.Frag} {mg : Str → Option Value} {base : Heap} {f C : Addr} {fd : FuncData}
abbrev CalD (P : Program) (w : World) (K : PySem.W.Frag) (mg : Str → Option Value) (base : Heap) : Prop := Cal P w K mg base 1 "_law_draw" spDraw []
def spLShare (C : Addr) : Sp := fun vs H Q _ => ∃ (h : Addr) (c : Nat), vs = [.ref h] ∧ Held H h (c + 10) ∧ ∀ p r H', Sz 21 r → Sh C H' p (pr r) → Held H' h c → Kp h H H' → Q (.ref p) H'
theorem ok_lshare (F : Dn K d_l_share f fd) (cD : CalD P w K mg base) (MS : MakS P w K mg base C) : FnOk P w K mg base CX0 4 f fd ["_law_held_here"] (spLShare C) := by
  refine F.ok sc_l_share (fun vs H Q E h => ?_) (fun cdv A outer s H vs Q E hr h => ?_)
  · obtain ⟨h, c, rfl, _⟩ := h
    rfl
  · obtain ⟨h, c, rfl, held, hQ⟩ := h
    refine ⟨_, PSs.nox (pss_cons (ps_set (i := 1) sc_l_share.nd rfl (.inl rfl) (pe_ix ix_list (pe_lst (pa_cons (pe_c cD hr (by decide) rfl (pa_cons (pv 0) (pa_cons pe_int pa_nil))) (pa_cons (pe_c cD hr (by decide) rfl (pa_cons (pv 0) (pa_cons (pe_op op_pow pe_int pe_int) pa_nil)))
        (pa_cons (pe_c cD hr (by decide) rfl (pa_cons (pv 0) (pa_cons (pe_op op_pow pe_int pe_int) pa_nil))) pa_nil)))) (pe_c cD hr (by decide) rfl (pa_cons (pv 0) (pa_cons pe_int pa_nil))) (fun _ _ => rfl)))
      (pss_cons (ps_set (i := 2) sc_l_share.nd rfl (.inl rfl) (pe_op op_add pe_int (pe_ix ix_list (pe_lst (pa_cons (pe_c cD hr (by decide) rfl (pa_cons (pv 0) (pa_cons pe_int pa_nil))) (pa_cons (pe_c cD hr (by decide) rfl (pa_cons (pv 0) (pa_cons pe_int pa_nil))) pa_nil)))
        (pe_c cD hr (by decide) rfl (pa_cons (pv 0) (pa_cons pe_int pa_nil))) (fun _ _ => rfl))))
      (pss_one (ps_ret (pe_mk MS hr (by decide) rfl (pa_cons (pe_op op_mul (pv 1) (pe_ix ix_list (pe_lst (pa_cons pe_int (pa_cons (pe_un un_neg pe_int) pa_nil))) (pe_c cD hr (by decide) rfl (pa_cons (pv 0) (pa_cons pe_int pa_nil))) (fun _ _ => rfl))) (pa_cons (pv 2) pa_nil))))))), ?_⟩
    refine ⟨_, rfl, h, c + 9, _, rfl, held, by decide, by decide, fun r1 H1 a1 b1 h1 k1 => ?_⟩
    refine ⟨_, rfl, _, _, rfl, rfl, ⟨by decide, by decide, by decide⟩, h, c + 8, _, rfl, h1, by decide, by decide, fun r2 H2 a2 b2 h2 k2 => ?_⟩
    refine ⟨_, rfl, _, _, rfl, rfl, ⟨by decide, by decide, by decide⟩, h, c + 7, _, rfl, h2, by decide, by decide, fun r3 H3 a3 b3 h3 k3 => ?_⟩
    refine ⟨by show 3 ≤ sizeLine; decide, fun l1 f1 => ?_⟩
    have s1 := same_new (o := .lst [.int r1, .int r2, .int r3]) f1
    refine ⟨_, rfl, h, c + 6, _, rfl, h3.same s1, by decide, by decide, fun i H4 a4 b4 h4 k4 => ?_⟩
    obtain ⟨t, ht, htb⟩ := pick3 (a := r1) (b := r2) (c := r3) a4 b4
    refine ⟨l1, _, _, _, rfl, rfl, SqL.of (k4.at_ (h3.same s1) upd_same (by intro _ z; cases z)), ht, ?_⟩
    have b2' : r2 < 10000 := b2
    have b3' : r3 < 1000000 := b3
    have t0 : 0 ≤ t := by omega
    have t1 : t < 1000000 := by omega
    have K4 : Kp h H H4 := (((k1.trans k2).trans k3).trans (Kp.same s1)).trans k4
    clear k1 k2 k3 k4 s1 htb ht b2 b3 h1 h2 h3
    refine ⟨_, rfl, h, c + 5, _, rfl, h4, by decide, by decide, fun u1 H5 a5 b5 h5 k5 => ?_⟩
    refine ⟨_, rfl, h, c + 4, _, rfl, h5, by decide, by decide, fun u2 H6 a6 b6 h6 k6 => ?_⟩
    refine ⟨by show 2 ≤ sizeLine; decide, fun l2 f2 => ?_⟩
    have s2 := same_new (o := .lst [.int u1, .int u2]) f2
    refine ⟨_, rfl, h, c + 3, _, rfl, h6.same s2, by decide, by decide, fun j H7 a7 b7 h7 k7 => ?_⟩
    obtain ⟨u, hu, hub⟩ := pick2 (a := u1) (b := u2) a7 b7
    refine ⟨l2, _, _, _, rfl, rfl, SqL.of (k7.at_ (h6.same s2) upd_same (by intro _ z; cases z)), hu, ?_⟩
    have u0 : 0 ≤ u := by omega
    have u1' : u < 1000 := by omega
    have K7 : Kp h H H7 := (((K4.trans k5).trans k6).trans (Kp.same s2)).trans k7
    clear k5 k6 k7 s2 K4 hub hu h5 h6
    refine ⟨_, _, rfl, rfl, ?_⟩
    refine ⟨_, rfl, _, rfl, by show 2 ≤ sizeLine; decide, fun l3 f3 => ?_⟩
    have s3 := same_new (o := .lst [.int 1, .int (-1)]) f3
    refine ⟨_, rfl, h, c + 2, _, rfl, h7.same s3, by decide, by decide, fun j2 H8 a8 b8 h8 k8 => ?_⟩
    obtain ⟨v, hv, hvb⟩ := pick2 (a := 1) (b := -1) a8 b8
    refine ⟨l3, _, _, _, rfl, rfl, SqL.of (k8.at_ (h7.same s3) upd_same (by intro _ z; cases z)), hv, ?_⟩
    refine ⟨_, _, rfl, rfl, cb_l (by omega) (by omega), _, rfl, ?_⟩
    intro p pd np nd ne
    have hb : (1 + u) ≠ 0 := by omega
    have h2 : (1 + u).natAbs < 2 ^ 21 := by omega
    have h1 : (t * v).natAbs < 2 ^ 21 := by
      rcases hvb with rfl | rfl <;> omega
    refine mk_in (n := 21) np nd hb h2 (by decide) (by decide) fun H9 s9 hp => ⟨rfl, ?_⟩
    exact hQ p _ H9 (KM.sz_of_low hb h1 h2) hp ((h8.same s9).weak (by omega)) ((K7.trans (Kp.same s3)).trans (k8.trans (Kp.same s9)))
/-! ### a step -/
def stepR (way : Int) (r o : Rat) (k : Int) : Rat :=
  if way = 1 ∨ way = -2 then r + o else if way = 2 ∨ way = -1 then r - o else if way = 3 ∨ way = -4 then r * Rat.divInt k 1 else r * Rat.divInt 1 k
theorem step_back {way : Int} (h0 : 1 ≤ way) (h1 : way ≤ 4) (r o : Rat) {k : Int} (hk : k ≠ 0) : stepR (0 - way) (stepR way r o k) o k = r := by
  obtain h | h | h | h : way = 1 ∨ way = 2 ∨ way = 3 ∨ way = 4 := by omega
  · subst h; simp [stepR]; exact KM.add_back r o
  · subst h; simp [stepR]; exact KM.sub_back r o
  · subst h; simp [stepR]; exact KM.mul_back r hk
  · subst h; simp [stepR]; exact KM.div_back r hk
theorem sz_step {way : Int} {n : Nat} {r o : Rat} {k : Int} (hr : Sz n r) (ho : Sz 21 o) (hk : k ≠ 0) (hk1 : k.natAbs < 2 ^ 5) : Sz (n + 22) (stepR way r o k) := by
  unfold stepR
  split
  · exact (KM.sz_plus hr ho).1
  split
  · exact (KM.sz_plus hr ho).2
  split
  · exact (KM.sz_times hr hk1).mono (by omega)
  · exact (KM.sz_over hr hk hk1).mono (by omega)
def spStep (C : Addr) : Sp := fun vs H Q _ => ∃ (p q : Addr) (way k : Int) (r o : Rat) (n : Nat), vs = [.ref p, .int way, .ref q, .int k] ∧ Sh C H p (pr r) ∧ Sh C H q (pr o) ∧ Sz n r ∧ Sz 21 o ∧ 21 ≤ n ∧ n ≤ 4000 ∧ k ≠ 0 ∧ k.natAbs < 2 ^ 5 ∧
  ∀ t H', Same H H' → H t = none → Sh C H' t (pr (stepR way r o k)) → Q (.ref t) H'
structure Ms (P : Program) (w : World) (K : PySem.W.Frag) (mg : Str → Option Value) (base : Heap) (C : Addr) : Prop where
  plus : Met P w K mg base 4 C "plus" (sp2 C (· + ·)) []
  less : Met P w K mg base 4 C "less" (sp2 C (· - ·)) []
  times : Met P w K mg base 4 C "times" (sp1 C (fun _ => True) (fun r k => r * Rat.divInt k 1)) []
  over : Met P w K mg base 4 C "over" (sp1 C (fun k => k ≠ 0) (fun r k => r * Rat.divInt 1 k)) []
  below : Met P w K mg base 1 C "below" (spLt C) []
theorem in_two (x a b : Int) : inV (.int x) [.int a, .int b] = decide (x = a ∨ x = b) := by
  unfold inV
  rw [Bool.eq_iff_iff]
  simp only [List.any_cons, List.any_nil, Bool.or_false, Bool.or_eq_true, decide_eq_true_eq, eqV, beq_iff_eq]
  exact ⟨fun z => z.imp Eq.symm Eq.symm, fun z => z.imp Eq.symm Eq.symm⟩
theorem ok_step (F : Dn K d_l_stepped f fd) (M : Ms P w K mg base C) : FnOk P w K mg base CX0 5 f fd ["_law_share_here", "_law_way", "_law_other", "_law_many"] (spStep C) := by
  refine F.ok sc_l_stepped (fun vs H Q E h => ?_) (fun cdv A outer s H vs Q E hr h => ?_)
  · obtain ⟨p, q, way, k, r, o, n, rfl, _⟩ := h
    rfl
  · obtain ⟨p, q, way, k, r, o, n, rfl, hp, hq, sr, so, n0, n9, hk, hk1, hQ⟩ := h
    refine ⟨_, PSs.nox (pss_cons (ps_if (pt_cmpR op_in_seq (pv 1) (pe_tup (pa_cons pe_int (pa_cons (pe_un un_neg pe_int) pa_nil))) rfl) (pss_one (ps_ret (pe_mt M.plus hr (by decide) (pv 0) (pa_cons (pv 2) pa_nil)))) pss_nil)
      (pss_cons (ps_if (pt_cmpR op_in_seq (pv 1) (pe_tup (pa_cons pe_int (pa_cons (pe_un un_neg pe_int) pa_nil))) rfl) (pss_one (ps_ret (pe_mt M.less hr (by decide) (pv 0) (pa_cons (pv 2) pa_nil)))) pss_nil)
      (pss_one (ps_ret (pe_ifExp (pt_cmpR op_in_seq (pv 1) (pe_tup (pa_cons pe_int (pa_cons (pe_un un_neg pe_int) pa_nil))) rfl) (pe_mt M.times hr (by decide) (pv 0) (pa_cons (pv 3) pa_nil)) (pe_mt M.over hr (by decide) (pv 0) (pa_cons (pv 3) pa_nil))))))), ?_⟩
    have hk2 : k.natAbs < 2 ^ n := Nat.lt_of_lt_of_le hk1 (Nat.pow_le_pow_right (by decide) (by omega))
    refine ⟨_, rfl, _, rfl, by show 2 ≤ sizeLine; decide, fun t1 f1 => ?_⟩
    have s1 := same_new (o := .tup [.int 1, .int (-2)]) f1
    refine ⟨t1, _, rfl, .inr (SqT.of upd_same), rfl, rfl, _, rfl, ?_⟩
    show (if (inV (.int way) [.int 1, .int (-2)]) = true then _ else _)
    rw [in_two]
    have hp1 := hp.keep s1
    have hq1 := hq.keep s1
    obtain ⟨dp1, ep1⟩ := id hp1
    refine ite2 (fun c1 => ?_) (fun c1 => ?_)
    · have e1 : way = 1 ∨ way = -2 := of_decide_eq_true c1
      refine ⟨_, rfl, p, dp1, _, rfl, ep1, shF_no _ (by decide +kernel) (by decide +kernel), _, rfl, p, q, r, o, n, rfl, hp1, hq1, sr, so.mono n0, by omega, n9, fun t H' a b c => hQ t H' (s1.trans a) (s1.free b) ?_⟩
      unfold stepR
      rw [if_pos e1]
      exact c
    have e1 : ¬ (way = 1 ∨ way = -2) := fun z => c1 (decide_eq_true z)
    refine ⟨_, rfl, _, rfl, by show 2 ≤ sizeLine; decide, fun t2 f2 => ?_⟩
    have s2 := s1.trans (same_new (o := .tup [.int 2, .int (-1)]) f2)
    refine ⟨t2, _, rfl, .inr (SqT.of upd_same), rfl, rfl, _, rfl, ?_⟩
    show (if (inV (.int way) [.int 2, .int (-1)]) = true then _ else _)
    rw [in_two]
    have hp2 := hp.keep s2
    have hq2 := hq.keep s2
    obtain ⟨dp2, ep2⟩ := id hp2
    refine ite2 (fun c2 => ?_) (fun c2 => ?_)
    · have e2 : way = 2 ∨ way = -1 := of_decide_eq_true c2
      refine ⟨_, rfl, p, dp2, _, rfl, ep2, shF_no _ (by decide +kernel) (by decide +kernel), _, rfl, p, q, r, o, n, rfl, hp2, hq2, sr, so.mono n0, by omega, n9, fun t H' a b c => hQ t H' (s2.trans a) (s2.free b) ?_⟩
      unfold stepR
      rw [if_neg e1, if_pos e2]
      exact c
    have e2 : ¬ (way = 2 ∨ way = -1) := fun z => c2 (decide_eq_true z)
    refine ⟨_, rfl, _, rfl, by show 2 ≤ sizeLine; decide, fun t3 f3 => ?_⟩
    have s3 := s2.trans (same_new (o := .tup [.int 3, .int (-4)]) f3)
    refine ⟨t3, _, rfl, .inr (SqT.of upd_same), rfl, rfl, _, rfl, ?_⟩
    show (if (inV (.int way) [.int 3, .int (-4)]) = true then _ else _)
    rw [in_two]
    have hp3 := hp.keep s3
    obtain ⟨dp3, ep3⟩ := id hp3
    refine ite2 (fun c3 => ?_) (fun c3 => ?_)
    · have e3 : way = 3 ∨ way = -4 := of_decide_eq_true c3
      refine ⟨_, rfl, p, dp3, _, rfl, ep3, shF_no _ (by decide +kernel) (by decide +kernel), _, rfl, p, r, k, n, rfl, hp3, sr, trivial, hk2, by omega, n9, fun t H' a b c => hQ t H' (s3.trans a) (s3.free b) ?_⟩
      unfold stepR
      rw [if_neg e1, if_neg e2, if_pos e3]
      exact c
    · have e3 : ¬ (way = 3 ∨ way = -4) := fun z => c3 (decide_eq_true z)
      refine ⟨_, rfl, p, dp3, _, rfl, ep3, shF_no _ (by decide +kernel) (by decide +kernel), _, rfl, p, r, k, n, rfl, hp3, sr, hk, hk2, by omega, n9, fun t H' a b c => hQ t H' (s3.trans a) (s3.free b) ?_⟩
      unfold stepR
      rw [if_neg e1, if_neg e2, if_neg e3]
      exact c
end
end K05
set_option Elab.async false
set_option linter.all false
set_option maxRecDepth 100000
set_option maxHeartbeats 4000000
namespace K05
open PySem PySem.Spec PyProof.Rows L2
open C8 (Cal Mak Met pe_c pe_mk pe_mt pe_mt0)
open KM (pr Sz)
theorem pickL {L : List (Addr × Rat)} {i : Int} (i0 : 0 ≤ i) (i1 : i < ((L.map fun x => V.ref x.1).length : Int)) : ∃ x ∈ L, atI (L.map fun x => V.ref x.1) i = some (.ref x.1) := by
  obtain ⟨j, rfl⟩ := Int.eq_ofNat_of_zero_le i0
  have hj : j < L.length := by
    rw [List.length_map] at i1
    omega
  exact ⟨L[j], List.getElem_mem hj, atI_nat (j := j) (by rw [List.getElem?_map, List.getElem?_eq_getElem hj]; rfl)⟩
theorem Kp.new {h st : Addr} {H1 H2 : Hp} {o : HO} (k : Kp h H1 H2) (f : H1 st = none) : Kp h H1 (upd H2 st o) :=
  ⟨fun b u e ne => by rw [upd_ne (ne_of_none e f)]; exact k.1 b u e ne, fun l n m e => by
    obtain ⟨n', m', e'⟩ := k.2 l n m e
    exact ⟨n', m', by rw [upd_ne (ne_of_none e f)]; exact e'⟩⟩
structure Stp where
  t : Addr
  way : Int
  q : Addr
  o : Rat
  k : Int
def Stp.ok (C : Addr) (H : Hp) (x : Stp) : Prop := H x.t = some (.tup [.int x.way, .ref x.q, .int x.k]) ∧ Sh C H x.q (pr x.o) ∧ Sz 21 x.o ∧ 1 ≤ x.way ∧ x.way ≤ 4 ∧ x.k ≠ 0 ∧ x.k.natAbs < 2 ^ 5
theorem Stp.ok.keep {C : Addr} {H H' : Hp} {x : Stp} (s : Same H H') (h : x.ok C H) : x.ok C H' := ⟨s _ _ h.1, h.2.1.keep s, h.2.2⟩
theorem Stp.ok.kp {C h : Addr} {H H' : Hp} {c : Nat} {x : Stp} (k : Kp h H H') (y : Held H h c) (e : x.ok C H) : x.ok C H' := ⟨k.at_ y e.1 (by intro _ z; cases z), k.sh y e.2.1, e.2.2⟩
/-- another object changed -/
theorem Stp.ok.put {C l : Addr} {H : Hp} {x : Stp} {o : HO} {xs : List V} (e : x.ok C H) (hl : H l = some (.lst xs)) : x.ok C (upd H l o) := by
  refine ⟨?_, ?_, e.2.2⟩
  · rw [upd_ne (ne_of e.1 hl (by intro z; cases z))]
    exact e.1
  · obtain ⟨dx, hd⟩ := e.2.1
    refine ⟨dx, ?_⟩
    rw [upd_ne (ne_of hd hl (by intro z; cases z))]
    exact hd
def run (r : Rat) (S : List Stp) : Rat := S.foldl (fun r x => stepR x.way r x.o x.k) r
theorem run_take {r : Rat} {S : List Stp} {i : Nat} {x : Stp} (h : S[i]? = some x) : run r (S.take (i + 1)) = stepR x.way (run r (S.take i)) x.o x.k := by
  unfold run
  rw [List.take_add_one, h, List.foldl_append]
  rfl
theorem sz_run {r : Rat} (hr : Sz 21 r) {C : Addr} {H : Hp} : ∀ {S : List Stp} (i : Nat), (∀ x ∈ S, Stp.ok C H x) → Sz (21 + 22 * i) (run r (S.take i)) := by
  intro S i hS
  induction i with
  | zero => exact hr
  | succ i ih =>
    cases h : S[i]? with
    | none =>
      have hl : S.length ≤ i := List.getElem?_eq_none_iff.mp h
      rw [List.take_of_length_le (by omega)]
      rw [List.take_of_length_le hl] at ih
      exact ih.mono (by omega)
    | some x =>
      have hx := hS x (List.mem_of_getElem? h)
      rw [run_take h]
      exact (sz_step ih hx.2.2.1 hx.2.2.2.2.2.1 hx.2.2.2.2.2.2).mono (by omega)
section
variable {P : Program} {w : World} {K : PySem.W.Frag} {mg : Str → Option Value} {base : Heap} {f C : Addr} {fd : FuncData}
structure Sp3 (P : Program) (w : World) (K : PySem.W.Frag) (mg : Str → Option Value) (base : Heap) (C : Addr) : Prop where
  eq : OW.Spc P w K mg base 1 C "__eq__" (spEq C)
  str : OW.Spc P w K mg base 1 C "__str__" (spStr C fun r => SX.S (TX.txL r))
  repr : OW.Spc P w K mg base 1 C "__repr__" (spStr C rpS)
def spBack (C : Addr) : Sp := fun vs H Q _ => ∃ (h l : Addr) (L : List (Addr × Rat)) (c : Nat), vs = [.ref h, .ref l] ∧ Held H h (c + 60) ∧ ShB C H l L ∧ (∀ x ∈ L, Sz 21 x.2) ∧ L ≠ [] ∧ L.length ≤ 20 ∧ ∀ H', Held H' h c → Kp h H H' → Q (.bl true) H'
theorem ok_back (F : Dn K d_l_back_right f fd) (bl : Bl mg) (b : Bm mg) (T : Cl K mg C) (IC : IsC K C) (cD : CalD P w K mg base) (S3 : Sp3 P w K mg base C) (cSt : Cal P w K mg base 5 "_law_stepped" (spStep C) []) (cSh : Cal P w K mg base 4 "share_of" (spShareOf C) []) :
    FnOk P w K mg base CX0 6 f fd ["_law_held_here", "_law_some"] (spBack C) := by
  refine F.ok sc_l_back_right (fun vs H Q E h => ?_) (fun cdv A outer s H vs Q E hr h => ?_)
  · obtain ⟨h, l, L, c, rfl, _⟩ := h
    rfl
  · obtain ⟨h, l, L, c, rfl, held, hL, hS, hne, hlen, hQ⟩ := h
    have hpos : 0 < ((L.map fun x => V.ref x.1).length : Int) := by
      rw [List.length_map]
      have := List.length_pos_iff.mpr hne
      omega
    have hlt : ((L.map fun x => V.ref x.1).length : Int) < 1073741824 := by
      rw [List.length_map]
      omega
    refine ⟨_, PSs.nox (pss_cons (ps_set (i := 2) sc_l_back_right.nd rfl (.inl rfl) (pe_ix ix_list (pv 1) (pe_c cD hr (by decide) rfl (pa_cons (pv 0) (pa_cons (pe_callB call_len_seq rfl bl.len boot_len (pa_cons (pv 1) pa_nil)) pa_nil))) (fun _ _ => rfl)))
      (pss_cons (ps_set (i := 3) sc_l_back_right.nd rfl (.inl rfl) (pe_lst pa_nil))
      (pss_cons (ps_for PassesOwn.never rfl (pi_range1 rfl bl.range (pa_cons (pe_op op_add pe_int (pe_c cD hr (by decide) rfl (pa_cons (pv 0) (pa_cons pe_int pa_nil)))) pa_nil)) (pg_name (i := 4) sc_l_back_right.nd rfl (.inl rfl))
        (pss_cons (ps_set (i := 5) sc_l_back_right.nd rfl (.inl rfl) (pe_op op_mul (pe_op op_add pe_int (pe_c cD hr (by decide) rfl (pa_cons (pv 0) (pa_cons pe_int pa_nil)))) (pe_ix ix_list (pe_lst (pa_cons pe_int (pa_cons (pe_un un_neg pe_int) pa_nil))) (pe_c cD hr (by decide) rfl (pa_cons (pv 0) (pa_cons pe_int pa_nil))) (fun _ _ => rfl))))
        (pss_one (ps_expr (pe_bm PySem.F.plainAttrs_list PySem.F.slot_list_append PySem.F.type_list_append mt_append (pv 3) (pa_cons (pe_tup (pa_cons (pe_op op_add pe_int (pe_c cD hr (by decide) rfl (pa_cons (pv 0) (pa_cons pe_int pa_nil))))
          (pa_cons (pe_ix ix_list (pv 1) (pe_c cD hr (by decide) rfl (pa_cons (pv 0) (pa_cons (pe_callB call_len_seq rfl bl.len boot_len (pa_cons (pv 1) pa_nil)) pa_nil))) (fun _ _ => rfl)) (pa_cons (pv 5) pa_nil)))) pa_nil))))))
      (pss_cons (ps_set (i := 6) sc_l_back_right.nd rfl (.inl rfl) (pv 2))
      (pss_cons (ps_for PassesOwn.never rfl (pi_list (pv 3)) (pg_tup rfl (pgs_cons (pg_name (i := 7) sc_l_back_right.nd rfl (.inl rfl)) (pgs_cons (pg_name (i := 8) sc_l_back_right.nd rfl (.inl rfl)) (pgs_cons (pg_name (i := 5) sc_l_back_right.nd rfl (.inl rfl)) pgs_nil))))
        (pss_one (ps_set (i := 6) sc_l_back_right.nd rfl (.inl rfl) (pe_c cSt hr (by decide) rfl (pa_cons (pv 6) (pa_cons (pv 7) (pa_cons (pv 8) (pa_cons (pv 5) pa_nil))))))))
      (pss_cons (ps_if (pt_cmpR (OW.op_neO (k := 0) S3.eq IC.ne IC.hm (hr.mono (by decide))) (pe_c cSh hr (by decide) rfl (pa_cons (pe_callTy (OW.call_strO S3.str (hr.mono (by decide))) rfl b.str boot_str (pa_cons (pv 6) pa_nil)) pa_nil)) (pv 6) (nomark _)) pss_never pss_nil)
      (pss_cons (ps_for PassesOwn.never rfl (pi_list (pe_revL (pv 3))) (pg_tup rfl (pgs_cons (pg_name (i := 7) sc_l_back_right.nd rfl (.inl rfl)) (pgs_cons (pg_name (i := 8) sc_l_back_right.nd rfl (.inl rfl)) (pgs_cons (pg_name (i := 5) sc_l_back_right.nd rfl (.inl rfl)) pgs_nil))))
        (pss_one (ps_set (i := 6) sc_l_back_right.nd rfl (.inl rfl) (pe_c cSt hr (by decide) rfl (pa_cons (pv 6) (pa_cons (pe_op op_sub pe_int (pv 7)) (pa_cons (pv 8) (pa_cons (pv 5) pa_nil))))))))
      (pss_one (ps_ret (pe_and (pe_cmpR (OW.op_eqO S3.eq (hr.mono (by decide))) (pv 6) (pv 2) (nomark _)) (pe_and (pe_cmpR op_eq (pe_callTy (OW.call_strO S3.str (hr.mono (by decide))) rfl b.str boot_str (pa_cons (pv 6) pa_nil)) (pe_callTy (OW.call_strO S3.str (hr.mono (by decide))) rfl b.str boot_str (pa_cons (pv 2) pa_nil)) (nomark _))
        (pe_one (pe_cmpR op_eq (pe_callB (OW.call_reprO S3.repr (hr.mono (by decide))) rfl b.repr boot_repr (pa_cons (pv 6) pa_nil)) (pe_callB (OW.call_reprO S3.repr (hr.mono (by decide))) rfl b.repr boot_repr (pa_cons (pv 2) pa_nil)) (nomark _)))))))))))))), ?_⟩
    -- first
    refine ⟨_, rfl, _, rfl, _, rfl, l, _, rfl, .inl (SqL.of hL.1), h, c + 59, _, rfl, held, hpos, hlt, fun i0 H1 a1 b1 h1 k1 => ?_⟩
    obtain ⟨x0, hx0, hat0⟩ := pickL a1 b1
    have hL1 := hL.kp k1 held
    refine ⟨l, _, _, _, rfl, rfl, SqL.of hL1.1, hat0, ?_⟩
    obtain ⟨p0, r0⟩ := x0
    have hp0 : Sh C H1 p0 (pr r0) := hL1.2 _ hx0
    have sr0 : Sz 21 r0 := hS _ hx0
    -- steps
    refine ⟨by show 0 ≤ sizeLine; decide, fun st fst => ?_⟩
    have ss := same_new (o := .lst []) fst
    refine ⟨_, rfl, h, c + 58, _, rfl, h1.same ss, by decide, by decide, fun n0 H2 a2 b2 h2 k2 => ?_⟩
    refine ⟨_, _, rfl, rfl, _, rfl, by omega, by omega, ?_⟩
    obtain ⟨n, hn, hn8⟩ : ∃ n : Nat, (1 + n0).toNat = n ∧ n ≤ 8 := ⟨_, rfl, by omega⟩
    rw [hn]
    have hst2 : H2 st = some (.lst ([].map fun x : Stp => V.ref x.t)) := k2.at_ (h1.same ss) upd_same (by intro _ z; cases z)
    refine for_range (n := n) (fun i σ H3 => ∃ (S : List Stp) (v4 v5 : Option V), σ = [some (.ref h), some (.ref l), some (.ref p0), some (.ref st), v4, v5, none, none, none] ∧ S.length = i ∧ H3 st = some (.lst (S.map fun x : Stp => V.ref x.t)) ∧ (∀ x ∈ S, x.ok C H3) ∧ Held H3 h (c + 58 - 5 * i) ∧ Kp h H1 H3)
      ⟨[], none, none, rfl, rfl, hst2, by simp, h2.weak (by omega), (Kp.same ss).trans k2⟩ ?_ ?_
    · rintro i σ H3 hi ⟨S, v4, v5, rfl, hSl, hst, hSo, h3, k3⟩
      have hL3 := hL1.kp k3 h1
      refine ⟨_, rfl, h, c + 57 - 5 * i, _, rfl, h3.weak (by omega), by decide, by decide, fun m H4 a4 b4 h4 k4 => ?_⟩
      refine ⟨_, _, rfl, rfl, ?_⟩
      refine ⟨_, rfl, by show 2 ≤ sizeLine; decide, fun l3 f3 => ?_⟩
      have s3 := same_new (o := .lst [.int 1, .int (-1)]) f3
      refine ⟨_, rfl, h, c + 56 - 5 * i, _, rfl, (h4.same s3).weak (by omega), by decide, by decide, fun j2 H5 a5 b5 h5 k5 => ?_⟩
      obtain ⟨v, hv, hvb⟩ := pick2 (a := 1) (b := -1) a5 b5
      refine ⟨l3, _, _, _, rfl, rfl, SqL.of (k5.at_ (h4.same s3) upd_same (by intro _ z; cases z)), hv, ?_⟩
      have k35 : Kp h H3 H5 := (k4.trans (Kp.same s3)).trans k5
      refine ⟨_, _, rfl, rfl, cb_l (by omega) (by omega), ?_⟩
      have hk0 : (1 + m) * v ≠ 0 := by rcases hvb with rfl | rfl <;> omega
      have hk1 : ((1 + m) * v).natAbs < 2 ^ 5 := by rcases hvb with rfl | rfl <;> omega
      have hst5 := k35.at_ h3 hst (by intro _ z; cases z)
      refine ⟨_, rfl, Or.inl ⟨rfl, _, SqL.of hst5⟩, ?_⟩
      refine ⟨_, rfl, h, c + 55 - 5 * i, _, rfl, h5.weak (by omega), by decide, by decide, fun wy H6 a6 b6 h6 k6 => ?_⟩
      refine ⟨_, _, rfl, rfl, ?_⟩
      have k36 := k35.trans k6
      have hL6 := hL3.kp k36 h3
      refine ⟨_, rfl, _, rfl, _, rfl, l, _, rfl, .inl (SqL.of hL6.1), h, c + 54 - 5 * i, _, rfl, h6.weak (by omega), hpos, hlt, fun i7 H7 a7 b7 h7 k7 => ?_⟩
      obtain ⟨x7, hx7, hat7⟩ := pickL a7 b7
      have k37 := k36.trans k7
      have hL7 := hL3.kp k37 h3
      refine ⟨l, _, _, _, rfl, rfl, SqL.of hL7.1, hat7, ?_⟩
      refine ⟨_, rfl, by show 3 ≤ sizeLine; decide, fun tt ft => ?_⟩
      have s7 := same_new (o := .tup [.int (1 + wy), .ref x7.1, .int ((1 + m) * v)]) ft
      have k38 := k37.trans (Kp.same s7)
      have hst8 := k38.at_ h3 hst (by intro _ z; cases z)
      refine ⟨st, _, _, rfl, rfl, hst8, ?_, ?_⟩
      · rw [List.length_map, hSl]
        exact Nat.lt_of_lt_of_le (by omega : i < 8) (by decide)
      · refine ⟨S ++ [⟨tt, 1 + wy, x7.1, x7.2, (1 + m) * v⟩], _, _, rfl, by simp [hSl], ?_, ?_, ?_, ?_⟩
        · rw [upd_same]
          simp
        · intro x hx
          rcases List.mem_append.mp hx with hx | hx
          · exact ((hSo x hx).kp k38 h3).put hst8
          · cases List.mem_singleton.mp hx
            refine Stp.ok.put ⟨upd_same, (hL7.2 _ hx7).keep s7, hS _ hx7, ?_, ?_, hk0, hk1⟩ hst8
            · show 1 ≤ 1 + wy
              omega
            · show 1 + wy ≤ 4
              omega
        · have h8 : Held (upd H7 tt (.tup [.int (1 + wy), .ref x7.1, .int ((1 + m) * v)])) h (c + 58 - 5 * (i + 1)) := (h7.same s7).weak (by omega)
          obtain ⟨la, ns, na, ma, e1, e2, e3⟩ := h8
          refine ⟨la, ns, na, ma, ?_, ?_, e3⟩
          · rw [upd_ne (ne_of e1 hst8 (by intro z; cases z))]
            exact e1
          · have : la ≠ st := by
              obtain ⟨la1, ns1, na1, ma1, g1, g2, _⟩ := h1
              obtain ⟨n', m', g3⟩ := (k3.trans k38).2 _ _ _ g1
              rw [hd_inj (Option.some.inj (e1.symm.trans g3))]
              exact ne_of_none g2 fst
            rw [upd_ne this]
            exact e2
        · exact (k3.trans k38).new fst
    · rintro σ H3 ⟨S, v4, v5, rfl, hSl, hst, hSo, h3, k3⟩
      have hp3 := k3.sh h1 hp0
      -- there
      refine ⟨_, rfl, _, rfl, st, rfl, ⟨_, SqL.of hst⟩, for_list (K := K) (xs := S.map fun x : Stp => V.ref x.t) (fun i σ H4 => Same H3 H4 ∧ ∃ (p : Addr) (v5 v7 v8 : Option V), σ = [some (.ref h), some (.ref l), some (.ref p0), some (.ref st), v4, v5, some (.ref p), v7, v8] ∧ Sh C H4 p (pr (run r0 (S.take i))))
        ⟨Same.refl _, p0, _, _, _, rfl, hp3⟩ (fun i σ H4 _ z => SqL.of (z.1 _ _ hst)) ?_ ?_⟩
      · rintro i y σ H4 hi ⟨s4, p, v5', v7, v8, rfl, hp⟩
        rw [List.getElem?_map] at hi
        cases hx : S[i]? with
        | none =>
          rw [hx] at hi
          cases hi
        | some x =>
          rw [hx] at hi
          cases (Option.some.inj hi : V.ref x.t = y)
          have hil : i < S.length := (List.getElem?_eq_some_iff.mp hx).1
          have ho := (hSo x (List.mem_of_getElem? hx)).keep s4
          refine ⟨x.t, _, rfl, SqT.of ho.1, rfl, _, _, rfl, _, _, rfl, _, _, rfl, rfl, ?_⟩
          refine ⟨_, rfl, _, rfl, _, rfl, _, rfl, p, x.q, x.way, x.k, _, x.o, 300, rfl, hp, ho.2.1, (sz_run sr0 i hSo).mono (by omega), ho.2.2.1, by decide, by decide, ho.2.2.2.2.2.1, ho.2.2.2.2.2.2, fun t H5 s5 ft ht => ?_⟩
          refine ⟨s4.trans s5, t, _, _, _, rfl, ?_⟩
          rw [run_take hx]
          exact ht
      rintro σ H4 ⟨s4, p, v5', v7, v8, rfl, hp⟩
      rw [List.length_map, List.take_length] at hp
      have szr : Sz 300 (run r0 S) := by
        have := sz_run sr0 S.length hSo
        rw [List.take_length] at this
        exact this.mono (by omega)
      obtain ⟨dp, hp1⟩ := id hp
      refine ⟨_, rfl, p, dp, _, rfl, hp1, p, _, 300, rfl, hp, szr, by decide, by decide, _, rfl, _, 300, rfl, szr, by decide, by decide, fun q H5 s5 fq hq => ?_⟩
      obtain ⟨dq, hq1⟩ := id hq
      refine ⟨_, rfl, q, dq, _, p, dp, _, rfl, rfl, hq1, s5 _ _ hp1, q, p, _, _, rfl, hq, hp.keep s5, _, rfl, _, rfl, ?_⟩
      refine ite2 (fun z => absurd z (by simp)) (fun _ => ?_)
      have s35 := s4.trans s5
      -- back
      refine ⟨_, rfl, st, _, rfl, SqL.of (s35 _ _ hst), fun rv frv => ?_⟩
      have s6 := s35.trans (same_new (o := .lst (S.map fun x : Stp => V.ref x.t).reverse) frv)
      have hp6 := (hp.keep s5).keep (same_new (o := .lst (S.map fun x : Stp => V.ref x.t).reverse) frv)
      have hrv := upd_same (H := H5) (a := rv) (o := .lst (S.map fun x : Stp => V.ref x.t).reverse)
      generalize upd H5 rv (.lst (S.map fun x : Stp => V.ref x.t).reverse) = H6 at s6 hp6 hrv ⊢
      refine ⟨rv, rfl, ⟨_, SqL.of hrv⟩, for_list (K := K) (xs := (S.map fun x : Stp => V.ref x.t).reverse) (fun i σ H7 => Same H6 H7 ∧ ∃ (p : Addr) (v5 v7 v8 : Option V), σ = [some (.ref h), some (.ref l), some (.ref p0), some (.ref st), v4, v5, some (.ref p), v7, v8] ∧ Sh C H7 p (pr (run r0 (S.take (S.length - i)))))
        ⟨Same.refl _, p, _, _, _, rfl, by rw [Nat.sub_zero, List.take_length]; exact hp6⟩ (fun i σ H7 _ z => SqL.of (z.1 _ _ hrv)) ?_ ?_⟩
      · rintro i y σ H7 hi ⟨s7, p', v5', v7, v8, rfl, hp'⟩
        have hil : i < S.length := by
          have := (List.getElem?_eq_some_iff.mp hi).1
          rw [List.length_reverse, List.length_map] at this
          exact this
        rw [List.getElem?_reverse (by rw [List.length_map]; exact hil), List.length_map, List.getElem?_map] at hi
        have hj : S.length - 1 - i < S.length := by omega
        cases hx : S[S.length - 1 - i]? with
        | none =>
          rw [hx] at hi
          cases hi
        | some x =>
          rw [hx] at hi
          cases (Option.some.inj hi : V.ref x.t = y)
          have ho := ((hSo x (List.mem_of_getElem? hx)).keep s6).keep s7
          refine ⟨x.t, _, rfl, SqT.of ho.1, rfl, _, _, rfl, _, _, rfl, _, _, rfl, rfl, ?_⟩
          refine ⟨_, rfl, _, rfl, _, _, rfl, rfl, _, rfl, _, rfl, p', x.q, 0 - x.way, x.k, _, x.o, 300, rfl, hp', ho.2.1, (sz_run sr0 (S.length - i) hSo).mono (by omega), ho.2.2.1, by decide, by decide, ho.2.2.2.2.2.1, ho.2.2.2.2.2.2, fun t H8 s8 ft ht => ?_⟩
          refine ⟨s7.trans s8, t, _, _, _, rfl, ?_⟩
          rw [show S.length - i = (S.length - 1 - i) + 1 by omega, run_take hx, step_back ho.2.2.2.1 ho.2.2.2.2.1 _ _ ho.2.2.2.2.2.1] at ht
          rw [show S.length - (i + 1) = S.length - 1 - i by omega]
          exact ht
      rintro σ H7 ⟨s7, p', v5', v7, v8, rfl, hp'⟩
      rw [List.length_reverse, List.length_map, Nat.sub_self, List.take_zero] at hp'
      have s37 := s6.trans s7
      have hp0' := hp3.keep s37
      have hp'' : Sh C H7 p' (pr r0) := hp'
      obtain ⟨d', hp1'⟩ := id hp''
      obtain ⟨d0, hp01⟩ := id hp0'
      have fin : Q (.bl true) H7 := hQ H7 ((h3.same s37).weak (by omega)) (k1.trans (k3.trans (Kp.same s37)))
      refine ⟨_, rfl, _, rfl, p', d', _, p0, d0, _, rfl, rfl, hp1', hp01, p', p0, r0, r0, rfl, hp'', hp0', _, rfl, _, rfl, ?_⟩
      refine ite2 (fun _ => ?_) (fun z => absurd (decide_eq_true rfl) z)
      refine ⟨_, rfl, p', d', _, rfl, hp1', p', r0, 300, rfl, hp'', sr0.mono (by decide), by decide, by decide, _, rfl, _, rfl, p0, d0, _, rfl, hp01, p0, r0, 300, rfl, hp0', sr0.mono (by decide), by decide, by decide, _, rfl, rfl, _, rfl, ?_⟩
      refine ite2 (fun _ => ?_) (fun z => absurd (decide_eq_true rfl) z)
      refine ⟨_, rfl, p', d', _, rfl, hp1', p', r0, 300, rfl, hp'', sr0.mono (by decide), by decide, by decide, _, rfl, _, rfl, p0, d0, _, rfl, hp01, p0, r0, 300, rfl, hp0', sr0.mono (by decide), by decide, by decide, _, rfl, rfl, ?_⟩
      rw [decide_eq_true (rfl : V.str (rpS r0) = V.str (rpS r0))]
      exact fin
end
end K05
set_option Elab.async false
set_option linter.all false
set_option maxRecDepth 100000
set_option maxHeartbeats 4000000
namespace K05
open PySem PySem.Spec PyProof.Rows L2
open C8 (Cal Mak Met pe_c pe_mk pe_mt pe_mt0)
open KM (pr Sz)
/-- the name at a place -/
def nm (i : Nat) : Str := ⟨#[97 + i]⟩
theorem nm_inj {i j : Nat} (h : nm i = nm j) : i = j := by
  have : (nm i).cps.toList = (nm j).cps.toList := by rw [h]
  simp [nm] at this
  exact this
def names (L : List (Addr × Rat)) : List Str := L.zipIdx.map fun y => nm y.2
def kvs (L : List (Addr × Rat)) : List (Key × V) := L.zipIdx.map fun y => ((Sum.inr (nm y.2) : Key), V.ref y.1.1)
def rho (L : List (Addr × Rat)) (x : Str) : Rat := ((L.zipIdx.find? fun y => decide ((Sum.inr (nm y.2) : Key) = Sum.inr x)).map fun y => y.1.2).getD 0
theorem names_len (L : List (Addr × Rat)) : (names L).length = L.length := by simp [names]
theorem names_at {L : List (Addr × Rat)} {i : Nat} (h : i < L.length) : (names L)[i]? = some (nm i) := by
  unfold names
  rw [List.getElem?_map, List.getElem?_zipIdx, List.getElem?_eq_getElem h]
  simp
theorem kvs_names (L : List (Addr × Rat)) : (kvs L).map (fun q => kV q.1) = (names L).map V.str := by
  unfold kvs names
  rw [List.map_map, List.map_map]
  rfl
theorem kvs_vals (L : List (Addr × Rat)) : (kvs L).map (·.2) = L.map fun x => V.ref x.1 := by
  unfold kvs
  rw [List.map_map]
  conv => rhs; rw [← List.zipIdx_map_fst 0 L, List.map_map]
  rfl
theorem snds (L : List (Addr × Rat)) : (L.zipIdx.map (·.2)).Pairwise (· < ·) := by
  rw [List.zipIdx_map_snd]
  exact List.pairwise_lt_range'
theorem merge_app : ∀ (more acc : List (Key × V)), ((acc ++ more).map (·.1)).Pairwise (· ≠ ·) → mergeK acc more = acc ++ more
  | [], acc, _ => by rw [List.append_nil]; rfl
  | q :: more, acc, h => by
    show mergeK (putK acc q.1 q.2) more = _
    have e : putK acc q.1 q.2 = acc ++ [q] := by
      unfold putK
      rw [if_neg]
      intro z
      rw [List.any_eq_true] at z
      obtain ⟨y, hy, z⟩ := z
      rw [List.map_append, List.pairwise_append] at h
      exact h.2.2 y.1 (List.mem_map_of_mem hy) q.1 (List.mem_map_of_mem (List.mem_cons_self ..)) (of_decide_eq_true z)
    rw [e, merge_app more (acc ++ [q]) (by rw [List.append_assoc]; exact h), List.append_assoc]
    rfl
theorem merge_kvs (L : List (Addr × Rat)) : mergeK [] (kvs L) = kvs L := by
  refine merge_app _ _ ?_
  rw [List.nil_append]
  have := snds L
  unfold kvs
  rw [List.map_map, List.pairwise_map]
  rw [List.pairwise_map] at this
  exact this.imp fun h z => by
    have := nm_inj (Sum.inr.inj z)
    omega
theorem val_kvs (L : List (Addr × Rat)) (x : Str) : valV (kvs L) (Sum.inr x) = (L.zipIdx.find? fun y => decide ((Sum.inr (nm y.2) : Key) = Sum.inr x)).map fun y => V.ref y.1.1 := by
  unfold valV kvs
  rw [List.find?_map, Option.map_map]
  rfl
theorem shD_kvs {C d : Addr} {H : Hp} {L : List (Addr × Rat)} (hd : H d = some (.dK (kvs L))) (h : ∀ x ∈ L, Sh C H x.1 (pr x.2)) : ShD C H d (kvs L) (rho L) := by
  refine ⟨hd, fun x v e => ?_, fun x e => ?_⟩
  · rw [val_kvs] at e
    unfold rho
    cases hf : L.zipIdx.find? fun y => decide ((Sum.inr (nm y.2) : Key) = Sum.inr x) with
    | none =>
      rw [hf] at e
      cases e
    | some y =>
      rw [hf] at e
      have hm : y ∈ L.zipIdx := List.mem_of_find?_eq_some hf
      exact ⟨y.1.1, (Option.some.inj e).symm, h y.1 (List.fst_mem_of_mem_zipIdx hm)⟩
  · rw [val_kvs] at e
    unfold rho
    cases hf : L.zipIdx.find? fun y => decide ((Sum.inr (nm y.2) : Key) = Sum.inr x) with
    | none => rfl
    | some y =>
      rw [hf] at e
      cases e
theorem sz_rho {L : List (Addr × Rat)} (h : ∀ x ∈ L, Sz 21 x.2) (x : Str) : Sz 21 (rho L x) := by
  unfold rho
  cases hf : L.zipIdx.find? fun y => decide ((Sum.inr (nm y.2) : Key) = Sum.inr x) with
  | none => exact ⟨by decide, by decide⟩
  | some y => exact h y.1 (List.fst_mem_of_mem_zipIdx (List.mem_of_find?_eq_some hf))
theorem val_some {L : List (Addr × Rat)} {x : Str} (h : x ∈ names L) : ∃ v, valV (kvs L) (Sum.inr x) = some v := by
  rw [val_kvs]
  cases hf : L.zipIdx.find? fun y => decide ((Sum.inr (nm y.2) : Key) = Sum.inr x) with
  | none =>
    obtain ⟨y, hy, e⟩ := List.mem_map.mp h
    rw [List.find?_eq_none] at hf
    exact absurd (decide_eq_true (by rw [e])) (hf y hy)
  | some y => exact ⟨_, rfl⟩
theorem names_sorted (L : List (Addr × Rat)) : (names L).Pairwise fun a b => ¬ IO.slt b a := by
  have := snds L
  unfold names
  rw [List.pairwise_map]
  rw [List.pairwise_map] at this
  refine this.imp fun h z => ?_
  unfold IO.slt nm at z
  rename_i a b
  have z' : ([97 + b.2] : List Nat) < [97 + a.2] := z
  rw [List.cons_lt_cons_iff] at z'
  rcases z' with z' | ⟨z', _⟩ <;> omega
theorem tri (r s : Rat) : [decide (r < s), decide (s < r), decide (r = s)].count true = 1 := by
  rcases Rat.le_total (a := r) (b := s) with h | h
  · by_cases e : r = s
    · subst e
      simp [Rat.lt_irrefl]
    · have h1 : r < s := Rat.not_le.mp fun z => e (Rat.le_antisymm h z)
      have h2 : ¬ s < r := Rat.not_lt.mpr h
      simp [h1, h2, e]
  · by_cases e : r = s
    · subst e
      simp [Rat.lt_irrefl]
    · have h1 : s < r := Rat.not_le.mp fun z => e (Rat.le_antisymm z h)
      have h2 : ¬ r < s := Rat.not_lt.mpr h
      simp [h1, h2, e]
theorem abc : (Str.ofString "abcdefghijklmnop").cps.toList = (List.range 16).map (97 + ·) := by decide +kernel
theorem paired_strs {K : PySem.W.Frag} {H : Hp} : ∀ xs : List Str, Paired (EqV K H 1) (xs.map V.str) (xs.map V.str)
  | [] => .nil
  | x :: xs => .cons (.inl ⟨rfl, rfl⟩) (paired_strs xs)
end K05
set_option Elab.async false
set_option linter.all false
set_option maxRecDepth 100000
set_option maxHeartbeats 4000000
namespace K05
open PySem PySem.Spec PyProof.Rows L2
open C8 (Cal Mak Met pe_c pe_mk pe_mt pe_mt0)
open KM (pr Sz)
section
variable {P : Program} {w : World} {K : PySem.W.Frag} {mg : Str → Option Value} {base : Heap} {f C : Addr} {fd : FuncData}
def spOrder (C : Addr) : Sp := fun vs H Q _ => ∃ (l : Addr) (L : List (Addr × Rat)), vs = [.ref l] ∧ ShB C H l L ∧ (∀ x ∈ L, Sz 21 x.2) ∧ L.length ≤ 16 ∧ ∀ H', Same H H' → Q (.bl true) H'
theorem ok_order (F : Dn K d_l_order_right f fd) (bl : Bl mg) (b : Bm mg) (T : Cl K mg C) (S3 : Sp3 P w K mg base C) (M : Ms P w K mg base C) (cI : Cal P w K mg base 4 "in_order" (spInOrder K C) []) : FnOk P w K mg base CX0 5 f fd ["_law_some"] (spOrder C) := by
  refine F.ok sc_l_order_right (fun vs H Q E h => ?_) (fun cdv A outer s H vs Q E hr h => ?_)
  · obtain ⟨l, L, rfl, _⟩ := h
    rfl
  · obtain ⟨l, L, rfl, hL, hS, hlen, hQ⟩ := h
    have hu := hu_of hr
    have hu64 : (A.deeper (envOfC d_l_order_right.qual d_l_order_right.scope s.heap.objs.size f cdv)).units + 64 < cLine := by have := hr.un; omega
    refine ⟨_, PSs.nox (pss_cons (ps_for PassesOwn.never rfl (pi_list (pv 0)) (pg_name (i := 1) sc_l_order_right.nd rfl (.inl rfl))
        (pss_one (ps_for PassesOwn.never rfl (pi_list (pv 0)) (pg_name (i := 2) sc_l_order_right.nd rfl (.inl rfl))
          (pss_one (ps_if (pt_cmpR op_ne (pe_bm PySem.F.plainAttrs_list PySem.F.slot_list_count PySem.F.type_list_count R2.mt_bcount (pe_lst (pa_cons (pe_mt M.below hr (by decide) (pv 1) (pa_cons (pv 2) pa_nil)) (pa_cons (pe_mt M.below hr (by decide) (pv 2) (pa_cons (pv 1) pa_nil))
            (pa_cons (pe_cmpR (OW.op_eqO S3.eq (hr.mono (by decide))) (pv 1) (pv 2) (nomark _)) pa_nil)))) (pa_cons pe_bl pa_nil)) pe_int (nomark _)) pss_never pss_nil)))))
      (pss_cons (ps_setLc (i := 4) (own := [("_law_k", 3)]) (g := gName 3) (tt := tYes) rfl sc_l_order_right.nd rfl rfl (sw_true rfl rfl rfl (by decide +kernel)) (pi_range1 rfl bl.range (pa_cons (pe_callB call_len_seq rfl bl.len boot_len (pa_cons (pv 0) pa_nil)) pa_nil)) (blkOk_by (N := N_l_order_right) (sc := defScope s_l_order_right) (by decide +kernel))
          (fun _ _ _ _ _ => pg_name (i := 3) sc_l_order_right.nd rfl (Or.inl rfl)) (fun _ _ _ _ _ => pts_nil) (fun _ _ _ _ _ => pe_ix ix_str pe_str (pv 3) (fun _ _ => rfl)))
      (pss_cons (ps_set (i := 5) sc_l_order_right.nd rfl (.inl rfl) (R2.pe_dz rfl rfl b.dict rfl b.zip (pa_cons (pv 4) (pa_cons (pv 0) pa_nil))))
      (pss_cons (ps_set (i := 6) sc_l_order_right.nd rfl (.inl rfl) (pe_c cI hr (by decide) rfl (pa_cons (pe_revL (pv 4)) (pa_cons (pv 5) pa_nil))))
      (pss_cons (ps_for PassesOwn.never rfl (pi_range2 rfl bl.range (pa_cons pe_int (pa_cons (pe_callB call_len_seq rfl bl.len boot_len (pa_cons (pv 6) pa_nil)) pa_nil))) (pg_name (i := 3) sc_l_order_right.nd rfl (.inl rfl))
        (pss_cons (ps_par (i := 1) (j := 2) rfl sc_l_order_right.nd rfl rfl (by decide) rfl rfl (pa_cons (pe_dget hu (pv 5) (pe_ix ix_list (pv 6) (pe_op op_sub (pv 3) pe_int) (fun _ _ => rfl)) (fun _ _ => rfl)) (pa_cons (pe_dget hu (pv 5) (pe_ix ix_list (pv 6) (pv 3) (fun _ _ => rfl)) (fun _ _ => rfl)) pa_nil)) rfl)
        (pss_one (ps_if (PW.pt (pw_or (pt_val (pe_mt M.below hr (by decide) (pv 2) (pa_cons (pv 1) pa_nil))) (pw_or1 (PW.pt (pw_and (pt_cmpR (OW.op_eqO S3.eq (hr.mono (by decide))) (pv 1) (pv 2) (nomark _))
          (pw_and1 (pt_cmpR op_lt_str (pe_ix ix_list (pv 6) (pv 3) (fun _ _ => rfl)) (pe_ix ix_list (pv 6) (pe_op op_sub (pv 3) pe_int) (fun _ _ => rfl)) (nomark _)))))))) pss_never pss_nil))))
      (pss_one (ps_ret (pe_cmpR (op_eqV hu64) (pe_callB cr_sortedS rfl b.sorted boot_sorted (pa_cons (pv 6) pa_nil)) (pv 4) (nomark _))))))))), ?_⟩
    -- each two
    refine ⟨_, rfl, l, rfl, ⟨_, SqL.of hL.1⟩, for_list (K := K) (xs := L.map fun x => V.ref x.1) (fun i σ H1 => Same H H1 ∧ ∃ (v1 v2 : Option V), σ = [some (.ref l), v1, v2, none, none, none, none])
      ⟨Same.refl _, _, _, rfl⟩ (fun i σ H1 _ z => SqL.of (z.1 _ _ hL.1)) ?_ ?_⟩
    · rintro i y σ H1 hi ⟨s1, v1, v2, rfl⟩
      rw [List.getElem?_map] at hi
      cases hx : L[i]? with
      | none =>
        rw [hx] at hi
        cases hi
      | some x =>
        rw [hx] at hi
        cases (Option.some.inj hi : V.ref x.1 = y)
        have hxm := List.mem_of_getElem? hx
        refine ⟨_, rfl, l, rfl, ⟨_, SqL.of (s1 _ _ hL.1)⟩, for_list (K := K) (xs := L.map fun x => V.ref x.1) (fun j σ H2 => Same H H2 ∧ ∃ (v2 : Option V), σ = [some (.ref l), some (.ref x.1), v2, none, none, none, none])
          ⟨s1, _, rfl⟩ (fun i σ H1 _ z => SqL.of (z.1 _ _ hL.1)) ?_ ?_⟩
        · rintro j y2 σ H2 hj ⟨s2, v2, rfl⟩
          rw [List.getElem?_map] at hj
          cases hz : L[j]? with
          | none =>
            rw [hz] at hj
            cases hj
          | some z =>
            rw [hz] at hj
            cases (Option.some.inj hj : V.ref z.1 = y2)
            have hzm := List.mem_of_getElem? hz
            have hp := (hL.2 x hxm).keep s2
            have hq := (hL.2 z hzm).keep s2
            obtain ⟨dp, hp1⟩ := id hp
            obtain ⟨dq, hq1⟩ := id hq
            refine ⟨_, rfl, x.1, dp, _, rfl, hp1, shF_no _ (by decide +kernel) (by decide +kernel), _, rfl, x.1, z.1, x.2, z.2, 21, rfl, hp, hq, hS x hxm, hS z hzm, by decide, by decide, ?_⟩
            refine ⟨_, rfl, z.1, dq, _, rfl, hq1, shF_no _ (by decide +kernel) (by decide +kernel), _, rfl, z.1, x.1, z.2, x.2, 21, rfl, hq, hp, hS z hzm, hS x hxm, by decide, by decide, ?_⟩
            refine ⟨_, rfl, _, rfl, x.1, dp, _, z.1, dq, _, rfl, rfl, hp1, hq1, x.1, z.1, x.2, z.2, rfl, hp, hq, _, rfl, by show 3 ≤ sizeLine; decide, fun lb flb => ?_⟩
            refine ⟨Or.inl ⟨rfl, _, SqL.of upd_same⟩, lb, [decide (x.2 < z.2), decide (z.2 < x.2), decide (x.2 = z.2)], true, rfl, rfl, SqL.of upd_same, rfl, _, rfl, ?_⟩
            rw [tri]
            refine ite2 (fun c => absurd c (by decide)) (fun _ => ?_)
            exact ⟨s2.trans (same_new flb), _, rfl⟩
        · rintro σ H2 ⟨s2, v2, rfl⟩
          exact ⟨s2, _, _, rfl⟩
    rintro σ H1 ⟨s1, v1, v2, rfl⟩
    -- the names
    have hL1 := hL.keep s1
    refine ⟨_, rfl, l, _, rfl, .inl (SqL.of hL1.1), _, rfl, by omega, by rw [List.length_map]; omega, ?_⟩
    rw [Int.toNat_natCast, List.length_map]
    intro D hD
    refine lc_range (n := L.length) (fun i H2 => H2 D = some (.lst (((names L).take i).map V.str)) ∧ Same H1 H2) ⟨upd_same, same_new hD⟩ ?_ ?_
    · rintro i H2 hi ⟨hd, s2⟩
      refine ⟨rfl, ?_⟩
      refine ⟨_, rfl, _, _, 97 + i, rfl, rfl, ?_, ?_, ?_⟩
      · decide +kernel
      · rw [Int.zero_add]
        refine atI_nat (j := i) ?_
        rw [abc, List.getElem?_map, List.getElem?_range (by omega)]
        rfl
      · refine ⟨_, hd, ?_, ?_, ?_⟩
        · rw [List.length_map, List.length_take, names_len]
          exact Nat.lt_of_lt_of_le (by omega : min i L.length < 64) (by decide)
        · rw [upd_same, List.take_add_one, names_at hi]
          simp [nm]
        · intro a o e
          rw [upd_ne (ne_of_none e hD)]
          exact s2 a o e
    rintro H2 ⟨hD2, s2⟩
    rw [← names_len L, List.take_length] at hD2
    have s02 := s1.trans s2
    have hL2 := hL.keep s02
    -- the table
    refine ⟨_, rfl, _, rfl, D, l, kvs L, rfl, by rw [kvs_names]; exact SqL.of hD2, by rw [kvs_vals]; exact SqL.of hL2.1, fun d fd' => ?_⟩
    rw [merge_kvs]
    have s3 := same_new (o := .dK (kvs L)) fd'
    have hd3 := upd_same (H := H2) (a := d) (o := .dK (kvs L))
    generalize upd H2 d (.dK (kvs L)) = H3 at s3 hd3 ⊢
    have s03 := s02.trans s3
    -- in order
    refine ⟨_, rfl, D, _, rfl, SqL.of (s3 _ _ hD2), fun rv frv => ?_⟩
    have s4 := same_new (o := .lst ((names L).map V.str).reverse) frv
    have sh4 := (shD_kvs hd3 (hL.keep s03).2).keep s4
    refine ⟨_, rfl, rv, d, (names L).reverse, kvs L, rho L, 21, rfl, ?_, ?_, sh4, sz_rho hS, by decide, by decide, fun o zs H5 s5 fo ho perm pw => ?_⟩
    · rw [List.map_reverse]
      exact SqL.of upd_same
    · rw [List.length_reverse, names_len]
      omega
    have sh5 := sh4.keep s5
    have s35 := s4.trans s5
    have s05 := s03.trans s35
    have hD5 := s35 _ _ (s3 _ _ hD2)
    have perm2 : zs.Perm (names L) := perm.trans (List.reverse_perm _)
    have zlen : zs.length = L.length := by rw [perm2.length_eq, names_len]
    refine ⟨_, rfl, o, _, rfl, .inl (SqL.of ho), _, _, rfl, ⟨by decide, by decide, by rw [List.length_map]; omega, by rw [List.length_map]; omega⟩, ?_⟩
    rw [List.length_map]
    refine for_range (n := ((zs.length : Int) - 1).toNat) (fun i σ H6 => H6 = H5 ∧ ∃ (v1 v2 v3 : Option V), σ = [some (.ref l), v1, v2, v3, some (.ref D), some (.ref d), some (.ref o)])
      ⟨rfl, _, _, _, rfl⟩ ?_ ?_
    · rintro i σ H6 hi ⟨rfl, v1, v2, v3, rfl⟩
      have hi1 : i + 1 < zs.length := by omega
      have hi0 : i < zs.length := by omega
      have at0 : atI (zs.map V.str) (1 + (i : Int) - 1) = some (.str zs[i]) := by
        rw [show 1 + (i : Int) - 1 = (i : Int) by omega]
        exact atI_nat (by rw [List.getElem?_map, List.getElem?_eq_getElem hi0]; rfl)
      have at1 : atI (zs.map V.str) (1 + (i : Int)) = some (.str zs[i + 1]) := by
        rw [show 1 + (i : Int) = ((i + 1 : Nat) : Int) by omega]
        exact atI_nat (by rw [List.getElem?_map, List.getElem?_eq_getElem hi1]; rfl)
      obtain ⟨va, ea⟩ := val_some (perm2.subset (List.getElem_mem hi0))
      obtain ⟨vb, eb⟩ := val_some (perm2.subset (List.getElem_mem hi1))
      obtain ⟨pa, rfl, hpa⟩ := sh5.2.1 _ _ ea
      obtain ⟨pb, rfl, hpb⟩ := sh5.2.1 _ _ eb
      obtain ⟨da, hpa1⟩ := id hpa
      obtain ⟨db, hpb1⟩ := id hpb
      have hle : IO.le (rho L) zs[i] zs[i + 1] := List.pairwise_iff_getElem.mp pw i (i + 1) hi0 hi1 (Nat.lt_succ_self i)
      refine ⟨_, rfl, _, rfl, _, rfl, _, _, rfl, rfl, o, _, _, _, rfl, rfl, SqL.of ho, at0, d, _, rfl, ea ▸ DGet.k (k := Sum.inr zs[i]) sh5.1, ?_⟩
      refine ⟨_, rfl, _, rfl, _, rfl, o, _, _, _, rfl, rfl, SqL.of ho, at1, d, _, rfl, eb ▸ DGet.k (k := Sum.inr zs[i + 1]) sh5.1, ?_⟩
      refine ⟨_, _, rfl, ?_⟩
      refine ⟨_, rfl, pb, db, _, rfl, hpb1, shF_no _ (by decide +kernel) (by decide +kernel), _, rfl, pb, pa, _, _, 21, rfl, hpb, hpa, sz_rho hS _, sz_rho hS _, by decide, by decide, _, rfl, ?_⟩
      refine ite2 (fun c => ?_) (fun c => ?_)
      · exact absurd (IO.le_rat hle) (Rat.not_le.mpr (of_decide_eq_true c))
      refine ⟨_, rfl, _, rfl, pa, da, _, pb, db, _, rfl, rfl, hpa1, hpb1, pa, pb, _, _, rfl, hpa, hpb, _, rfl, _, rfl, ?_⟩
      refine ite2 (fun c2 => ?_) (fun c2 => iteF ⟨rfl, _, _, _, rfl⟩)
      have e2 : rho L zs[i] = rho L zs[i + 1] := of_decide_eq_true c2
      refine ⟨_, rfl, _, rfl, o, _, _, _, rfl, rfl, SqL.of ho, at1, _, rfl, _, rfl, _, _, rfl, rfl, o, _, _, _, rfl, rfl, SqL.of ho, at0, _, _, rfl, rfl, _, rfl, ?_⟩
      refine ite2 (fun c3 => ?_) (fun _ => ⟨rfl, _, _, _, rfl⟩)
      have c4 : IO.slt zs[i + 1] zs[i] := of_decide_eq_true c3
      rcases hle with h | ⟨_, h⟩
      · rw [e2] at h
        exact absurd h (Rat.lt_irrefl)
      · exact absurd c4 h
    · rintro σ H6 ⟨rfl, v1, v2, v3, rfl⟩
      refine ⟨_, rfl, o, zs, rfl, SqL.of ho, by omega, fun ys q hperm hsort hq => ?_⟩
      have e : ys = names L := IO.sorted_same (IO.sorted_pw hsort) (names_sorted L) (hperm.trans perm2)
      subst e
      have s6 := same_new (o := .lst ((names L).map V.str)) hq
      refine ⟨_, rfl, 1, by decide, .inl ⟨q, D, _, _, rfl, rfl, SqL.of upd_same, SqL.of (s6 _ _ hD5), paired_strs _⟩, ?_⟩
      exact hQ _ (s05.trans s6)
end
end K05
set_option Elab.async false
set_option linter.all false
set_option maxRecDepth 100000
set_option maxHeartbeats 4000000
namespace K05
open PySem PySem.Spec PyProof.Rows L2
open C8 (Cal Mak Met pe_c pe_mk pe_mt pe_mt0)
open KM (pr Sz)
/-- the held dict's cells aren't at D -/
def Cel (h D : Addr) (H : Hp) : Prop := ∃ la n m, H h = some (.dK (hd0 la n m)) ∧ la ≠ D ∧ h ≠ D
theorem Cel.kp {h D : Addr} {H H' : Hp} (x : Cel h D H) (k : Kp h H H') : Cel h D H' := by
  obtain ⟨la, n, m, e, n1, n2⟩ := x
  obtain ⟨n', m', e'⟩ := k.2 _ _ _ e
  exact ⟨la, n', m', e', n1, n2⟩
theorem Cel.of {h D : Addr} {H : Hp} {c : Nat} (x : Held H h c) (f : H D = none) : Cel h D H := by
  obtain ⟨la, ns, n, m, e1, e2, _⟩ := x
  exact ⟨la, n, m, e1, ne_of_none e2 f, ne_of_none e1 f⟩
theorem Held.put {h D : Addr} {H : Hp} {o : HO} {c : Nat} (x : Held H h c) (y : Cel h D H) : Held (upd H D o) h c := by
  obtain ⟨la, ns, n, m, e1, e2, e3⟩ := x
  obtain ⟨la', n', m', e', n1, n2⟩ := y
  cases hd_inj (Option.some.inj (e1.symm.trans e'))
  exact ⟨la, ns, n, m, by rw [upd_ne n2]; exact e1, by rw [upd_ne n1]; exact e2, e3⟩
theorem Cel.put {h D D' : Addr} {H : Hp} {o : HO} (x : Cel h D H) (n : h ≠ D') : Cel h D (upd H D' o) := by
  obtain ⟨la', n', m', e', n1, n2⟩ := x
  exact ⟨la', n', m', by rw [upd_ne n]; exact e', n1, n2⟩
theorem Sh.put {C p D : Addr} {H : Hp} {o : HO} {q : Int × Int} {xs : List V} (x : Sh C H p q) (e : H D = some (.lst xs)) : Sh C (upd H D o) p q := by
  obtain ⟨dx, hx⟩ := x
  refine ⟨dx, ?_⟩
  rw [upd_ne (ne_of hx e (by intro z; cases z))]
  exact hx
theorem ShB.put {C l D : Addr} {H : Hp} {o : HO} {L : List (Addr × Rat)} {xs : List V} (x : ShB C H l L) (e : H D = some (.lst xs)) (n : l ≠ D) : ShB C (upd H D o) l L :=
  ⟨by rw [upd_ne n]; exact x.1, fun y hy => (x.2 y hy).put e⟩
theorem cut_drop {L : List (Addr × Rat)} {i : Int} (i0 : 0 ≤ i) (i1 : i ≤ L.length) : cutV (L.map fun x => V.ref x.1) (some i) none = (L.drop i.toNat).map fun x => V.ref x.1 := by
  obtain ⟨j, rfl⟩ := Int.eq_ofNat_of_zero_le i0
  unfold cutV
  rw [HT.sIx_nat, HT.sIx_none, List.length_map, Nat.min_eq_left (by omega), Int.toNat_natCast, List.map_drop, List.take_of_length_le (by rw [List.length_drop, List.length_map]; omega)]
theorem cut_take {L : List (Addr × Rat)} {i : Int} (i0 : 0 ≤ i) (i1 : i ≤ L.length) : cutV (L.map fun x => V.ref x.1) none (some i) = (L.take i.toNat).map fun x => V.ref x.1 := by
  obtain ⟨j, rfl⟩ := Int.eq_ofNat_of_zero_le i0
  unfold cutV
  rw [HT.sIx_nat, HT.sIx_none, List.length_map, Nat.min_eq_left (by omega), Int.toNat_natCast, List.map_take, List.drop_zero, Nat.sub_zero]
theorem sum_parts (L : List (Addr × Rat)) (j : Nat) : sumR (ratsOf (L.take j)) + sumR (ratsOf (L.drop j)) = sumR (ratsOf L) := by
  rw [← sumR_app]
  unfold ratsOf
  rw [← List.map_append, List.take_append_drop]
theorem sum_turned (L : List (Addr × Rat)) (j : Nat) : sumR (ratsOf (L.drop j ++ L.take j)) = sumR (ratsOf L) := by
  rw [← sum_parts L j]
  unfold ratsOf
  rw [List.map_append, sumR_app, Rat.add_comm]
theorem sum_rev (L : List (Addr × Rat)) : sumR (ratsOf L.reverse) = sumR (ratsOf L) := by
  unfold ratsOf
  rw [List.map_reverse, sumR_rev]
theorem sz_part {L M : List (Addr × Rat)} (h : ∀ x ∈ L, Sz 21 x.2) (hm : ∀ x ∈ M, x ∈ L) (hl : M.length ≤ 16) : Sz 400 (sumR (ratsOf M)) := by
  refine (sz_sum (k := 21) fun r hr => ?_).mono ?_
  · obtain ⟨x', hx', rfl⟩ := List.mem_map.mp hr
    exact h x' (hm x' hx')
  · unfold ratsOf
    rw [List.length_map]
    omega
section
variable {P : Program} {w : World} {K : PySem.W.Frag} {mg : Str → Option Value} {base : Heap} {f C : Addr} {fd : FuncData}
def spLaw (K : PySem.W.Frag) : Sp := fun vs H Q _ => ∃ (a : Addr) (ns : List Int), vs = [.ref a] ∧ SqL K H a (ns.map V.int) ∧ ns.length ≤ 63 ∧ ∀ H', Q (.bl true) H'
/-- what is known between the statements -/
def In (C h D : Addr) (c : Nat) (L : List (Addr × Rat)) (H : Hp) : Prop := ShB C H D L ∧ (∀ x ∈ L, Sz 21 x.2) ∧ L ≠ [] ∧ L.length ≤ 14 ∧ Held H h c ∧ Cel h D H
theorem In.kp {C h D : Addr} {c c' : Nat} {L : List (Addr × Rat)} {H H' : Hp} (x : In C h D c L H) (k : Kp h H H') (y : Held H' h c') : In C h D c' L H' := ⟨x.1.kp k x.2.2.2.2.1, x.2.1, x.2.2.1, x.2.2.2.1, y, x.2.2.2.2.2.kp k⟩
theorem In.same {C h D : Addr} {c : Nat} {L : List (Addr × Rat)} {H H' : Hp} (x : In C h D c L H) (k : Same H H') : In C h D c L H' := x.kp (Kp.same k) (x.2.2.2.2.1.same k)
theorem ok_law (F : Dn K d_law f fd) (bl : Bl mg) (b : Bm mg) (T : Cl K mg C) (IC : IsC K C) (S3 : Sp3 P w K mg base C) (M : Ms P w K mg base C) (M1 : MakS1 P w K mg base C) (cH : Cal P w K mg base 1 "_law_held" (spHeld K) []) (cD : CalD P w K mg base) (cS : Cal P w K mg base 4 "_law_share" (spLShare C) [])
    (cT : Cal P w K mg base 5 "total" (spTotal K C) [.int 0]) (cSh : Cal P w K mg base 4 "share_of" (spShareOf C) []) (cO : Cal P w K mg base 5 "_law_order_right" (spOrder C) []) (cB : Cal P w K mg base 6 "_law_back_right" (spBack C) []) : FnOk P w K mg base CX0 7 f fd ["_law_script"] (spLaw K) := by
  refine F.ok sc_law (fun vs H Q E h => ?_) (fun cdv A outer s H vs Q E hr h => ?_)
  · obtain ⟨a, ns, rfl, _⟩ := h
    rfl
  · obtain ⟨a, ns, rfl, hS, hlen, hQ⟩ := h
    refine ⟨_, PSs.nox (pss_cons (ps_set (i := 1) sc_law.nd rfl (.inr rfl) (pe_c cH hr (by decide) rfl (pa_cons (pv 0) pa_nil)))
      (C8.pss_cut (ps_set (i := 2) sc_law.nd rfl (.inr rfl) (pe_lc (own := [("_law_k", 8)]) (g := gName 8) (tt := tYes) rfl sc_law.nd (pi_range1 rfl bl.range (pa_cons (pe_op op_add pe_int (pe_c cD hr (by decide) rfl (pa_cons (pv 1) (pa_cons pe_int pa_nil)))) pa_nil))
          (blkOk_by (N := N_law) (sc := defScope s_law) (by decide +kernel)) (fun _ _ _ _ _ => pg_name (i := 8) sc_law.nd rfl (Or.inl rfl)) (fun _ _ _ _ _ => pts_nil) (fun _ _ _ _ _ => pe_c cS hr (by decide) rfl (pa_cons (pv 1) pa_nil))))
      (C8.pss_cut (ps_if (pt_cmpR op_eq (pe_c cD hr (by decide) rfl (pa_cons (pv 1) (pa_cons pe_int pa_nil))) pe_int (nomark _)) (pss_one (ps_asg (pe_ix ix_list (pv 2) pe_int (fun _ _ => rfl)) (pg_sub (pv 2) (pe_un un_neg pe_int) set_list))) pss_nil)
      (pss_cons (ps_set (i := 3) sc_law.nd rfl (.inl rfl) (pe_c cT hr (by decide) rfl (pa_cons (pv 2) pa_nil)))
      (pss_cons (ps_set (i := 4) sc_law.nd rfl (.inl rfl) (pe_c cD hr (by decide) rfl (pa_cons (pv 1) (pa_cons (pe_op op_add (pe_callB call_len_seq rfl bl.len boot_len (pa_cons (pv 2) pa_nil)) pe_int) pa_nil))))
      (pss_cons (ps_for PassesOwn.never rfl (pi_tup (pe_tup (pa_cons (pe_c cT hr (by decide) rfl (pa_cons (pe_revL (pv 2)) pa_nil)) (pa_cons (pe_c cT hr (by decide) rfl (pa_cons (pe_op op_cat (pe_slice sl_list (pv 2) (po_some (pv 4)) po_none) (pe_slice sl_list (pv 2) po_none (po_some (pv 4)))) pa_nil))
            (pa_cons (pe_mt M.plus hr (by decide) (pe_c cT hr (by decide) rfl (pa_cons (pe_slice sl_list (pv 2) po_none (po_some (pv 4))) pa_nil)) (pa_cons (pe_c cT hr (by decide) rfl (pa_cons (pe_slice sl_list (pv 2) (po_some (pv 4)) po_none) pa_nil)) pa_nil)) pa_nil)))))
          (pg_name (i := 5) sc_law.nd rfl (.inl rfl))
          (pss_one (ps_if (PW.pt (pw_or (pt_cmpR (OW.op_neO (k := 0) S3.eq IC.ne IC.hm (hr.mono (by decide))) (pv 5) (pv 3) (nomark _)) (pw_or1 (pt_cmpR op_ne (pe_callTy (OW.call_strO S3.str (hr.mono (by decide))) rfl b.str boot_str (pa_cons (pv 5) pa_nil)) (pe_callTy (OW.call_strO S3.str (hr.mono (by decide))) rfl b.str boot_str (pa_cons (pv 3) pa_nil)) (nomark _))))) pss_never pss_nil)))
      (pss_cons (ps_set (i := 6) sc_law.nd rfl (.inl rfl) (pv 3))
      (pss_cons (ps_for PassesOwn.never rfl (pi_list (pv 2)) (pg_name (i := 7) sc_law.nd rfl (.inl rfl)) (pss_one (ps_set (i := 6) sc_law.nd rfl (.inl rfl) (pe_mt M.less hr (by decide) (pv 6) (pa_cons (pv 7) pa_nil)))))
      (pss_cons (ps_if (PW.pt (pw_or (pt_cmpR (OW.op_neO (k := 0) S3.eq IC.ne IC.hm (hr.mono (by decide))) (pv 6) (pe_mk M1 hr (by decide) rfl (pa_cons pe_int pa_nil)) (nomark _))
          (pw_or (pt_cmpR (OW.op_neO (k := 0) S3.eq IC.ne IC.hm (hr.mono (by decide))) (pe_c cSh hr (by decide) rfl (pa_cons (pe_callTy (OW.call_strO S3.str (hr.mono (by decide))) rfl b.str boot_str (pa_cons (pv 3) pa_nil)) pa_nil)) (pv 3) (nomark _))
          (pw_or1 (pt_not (pt_val (pe_c cO hr (by decide) rfl (pa_cons (pv 2) pa_nil)))))))) pss_never pss_nil)
      (pss_one (ps_ret (pe_callB (cr_all rfl) rfl b.all boot_all (pa_cons (pe_lc (own := [("_law_turn", 9)]) (g := gName 9) (tt := tYes) rfl sc_law.nd (pi_range1 rfl bl.range (pa_cons pe_int pa_nil)) (blkOk_by (N := N_law) (sc := defScope s_law) (by decide +kernel))
          (fun _ _ _ _ _ => pg_name (i := 9) sc_law.nd rfl (Or.inl rfl)) (fun _ _ _ _ _ => pts_nil) (fun _ _ _ _ _ => pe_c cB hr (by decide) rfl (pa_cons (pv 1) (pa_cons (pv 2) pa_nil)))) pa_nil))))))))))))), ?_⟩
    refine ⟨_, rfl, a, ns, rfl, hS, hlen, fun h H1 s1 f1 held1 => ?_⟩
    -- some
    refine ⟨fun σ' H' => ∃ (D : Addr) (L : List (Addr × Rat)), σ' = [some (.ref a), some (.ref h), some (.ref D), none, none, none, none, none, none, none] ∧ In C h D 800000000 L H', ?_, ?_⟩
    · refine ⟨_, rfl, h, 890000000, _, rfl, held1.weak (by decide), by decide, by decide, fun n0 H2 a2 b2 held2 k2 => ?_⟩
      refine ⟨_, _, rfl, rfl, _, rfl, by omega, by omega, ?_⟩
      obtain ⟨n, hn, hn1, hn14⟩ : ∃ n : Nat, (1 + n0).toNat = n ∧ 1 ≤ n ∧ n ≤ 14 := ⟨_, rfl, by omega, by omega⟩
      rw [hn]
      intro D hD
      refine lc_range (n := n) (fun i H3 => ∃ L : List (Addr × Rat), L.length = i ∧ ShB C H3 D L ∧ (∀ x ∈ L, Sz 21 x.2) ∧ Held H3 h (890000000 - 10 * i) ∧ Cel h D H3) ?_ ?_ ?_
      · refine ⟨[], rfl, ⟨upd_same, by simp⟩, by simp, (held2.same (same_new hD)).weak (by decide), (Cel.of held2 hD).kp (Kp.same (same_new hD))⟩
      · rintro i H3 hi ⟨L, hLl, hL, hLs, held3, cel3⟩
        refine ⟨rfl, ?_⟩
        refine ⟨_, rfl, h, 890000000 - 10 * (i + 1), rfl, held3.weak (by omega), fun p r H4 sr hp held4 k4 => ?_⟩
        have hL4 := hL.kp k4 held3
        refine ⟨_, hL4.1, ?_, L ++ [(p, r)], by simp [hLl], ⟨?_, ?_⟩, ?_, ?_, ?_⟩
        · rw [List.length_map, hLl]
          exact Nat.lt_of_lt_of_le (by omega : i < 64) (by decide)
        · rw [upd_same]
          simp
        · intro x hx
          rcases List.mem_append.mp hx with hx | hx
          · exact (hL4.2 x hx).put hL4.1
          · cases List.mem_singleton.mp hx
            exact hp.put hL4.1
        · intro x hx
          rcases List.mem_append.mp hx with hx | hx
          · exact hLs x hx
          · cases List.mem_singleton.mp hx
            exact sr
        · exact held4.put (cel3.kp k4)
        · obtain ⟨la, n', m', e', n1, n2⟩ := id (cel3.kp k4)
          exact (cel3.kp k4).put n2
      · rintro H3 ⟨L, hLl, hL, hLs, held3, cel3⟩
        exact ⟨D, L, rfl, hL, hLs, by intro z; rw [z] at hLl; simp at hLl; omega, by omega, held3.weak (by omega), cel3⟩
    rintro σ' H2 ⟨D, L0, rfl, in2⟩
    -- the last one as the first one
    refine ⟨fun σ' H' => ∃ (L : List (Addr × Rat)), σ' = [some (.ref a), some (.ref h), some (.ref D), none, none, none, none, none, none, none] ∧ In C h D 700000000 L H', ?_, ?_⟩
    · refine ⟨_, rfl, h, 700000000, _, rfl, in2.2.2.2.2.1.weak (by decide), by decide, by decide, fun r H3 r0 r1 held3 k3 => ?_⟩
      have in3 := in2.kp k3 held3
      refine ⟨rfl, _, rfl, ?_⟩
      refine ite2 (fun _ => ?_) (fun _ => ⟨L0, rfl, in3⟩)
      obtain ⟨hL, hLs, hne, hl14, _, cel⟩ := in3
      have hpos := List.length_pos_iff.mpr hne
      refine ⟨_, rfl, D, _, _, .ref L0[0].1, rfl, rfl, SqL.of hL.1, atI_nat (j := 0) (by rw [List.getElem?_map, List.getElem?_eq_getElem hpos]; rfl), ?_⟩
      refine ⟨_, rfl, _, rfl, D, _, _, L0.length - 1, rfl, rfl, hL.1, ?_, ?_⟩
      · show ixN (L0.map fun x => V.ref x.1).length (-1) = _
        rw [List.length_map]
        unfold ixN
        rw [if_neg (by decide), if_pos (by omega)]
        congr 1
        omega
      · refine ⟨L0.set (L0.length - 1) L0[0], rfl, ⟨?_, ?_⟩, ?_, ?_, by rw [List.length_set]; exact hl14, held3.put cel, ?_⟩
        · rw [upd_same, List.map_set]
        · intro x hx
          rcases List.mem_or_eq_of_mem_set hx with hx | rfl
          · exact (hL.2 x hx).put hL.1
          · exact (hL.2 _ (List.getElem_mem hpos)).put hL.1
        · intro x hx
          rcases List.mem_or_eq_of_mem_set hx with hx | rfl
          · exact hLs x hx
          · exact hLs _ (List.getElem_mem hpos)
        · intro z
          have : (L0.set (L0.length - 1) L0[0]).length = 0 := by rw [z]; rfl
          rw [List.length_set] at this
          omega
        · obtain ⟨la, n', m', e', n1, n2⟩ := id cel
          exact cel.put n2
    clear in2
    rintro σ' H2 ⟨L, rfl, in2⟩
    have hLs := in2.2.1
    have hne := in2.2.2.1
    have hl14 := in2.2.2.2.1
    have hmem : ∀ {N : List (Addr × Rat)}, (∀ x ∈ N, x ∈ L) → ∀ x ∈ N, Sz 21 x.2 := fun hN x hx => hLs x (hN x hx)
    -- the whole
    refine ⟨_, rfl, D, L, rfl, in2.1.to, hLs, by omega, fun t H3 s3 ft ht => ?_⟩
    have in3 := in2.same s3
    -- at
    refine ⟨_, rfl, _, rfl, D, _, rfl, .inl (SqL.of in3.1.1), _, _, rfl, rfl, h, 690000000, _, rfl, in3.2.2.2.2.1.weak (by decide), by rw [List.length_map]; omega, by rw [List.length_map]; omega, fun at_ H4 a4 b4 held4 k4 => ?_⟩
    rw [List.length_map] at b4
    have in4 := in3.kp k4 held4
    have ht4 := k4.sh in3.2.2.2.2.1 ht
    have a5 : at_ ≤ L.length := by omega
    have szW : Sz 400 (sumR (ratsOf L)) := sz_part hLs (fun _ z => z) (by omega)
    have szT : Sz 400 (sumR (ratsOf (L.take at_.toNat))) := sz_part hLs (fun x hx => List.mem_of_mem_take hx) (by rw [List.length_take]; omega)
    have szD : Sz 400 (sumR (ratsOf (L.drop at_.toNat))) := sz_part hLs (fun x hx => List.mem_of_mem_drop hx) (by rw [List.length_drop]; omega)
    have sub : ∀ {H' : Hp} {p : Addr} {N : List (Addr × Rat)}, In C h D 690000000 L H' → H' p = some (.lst (N.map fun x => V.ref x.1)) → (∀ x ∈ N, x ∈ L) → ShL K C H' p N := fun i e hN => ⟨SqL.of e, fun x hx => i.1.2 x (hN x hx)⟩
    -- turned about
    refine ⟨_, rfl, D, _, rfl, SqL.of in4.1.1, fun rv frv => ?_⟩
    have s5 := same_new (o := .lst (L.map fun x => V.ref x.1).reverse) frv
    have in5 := in4.same s5
    have m5 : ∀ x ∈ L.reverse, x ∈ L := fun x hx => List.mem_reverse.mp hx
    refine ⟨rv, L.reverse, rfl, sub in5 (by rw [upd_same, List.map_reverse]) m5, hmem m5, by rw [List.length_reverse]; omega, fun t1 H6 s6 ft1 ht1 => ?_⟩
    rw [sum_rev] at ht1
    have in6 := in5.same s6
    have ht6 := (ht4.keep s5).keep s6
    -- put together otherwise
    refine ⟨_, rfl, _, rfl, at_, rfl, D, _, rfl, SqL.of in6.1.1, fun c1 fc1 => ?_⟩
    have s7 := same_new (o := .lst (cutV (L.map fun x => V.ref x.1) (some at_) none)) fc1
    have in7 := in6.same s7
    refine ⟨_, rfl, _, rfl, at_, rfl, D, _, rfl, SqL.of in7.1.1, fun c2 fc2 => ?_⟩
    have s8 := same_new (o := .lst (cutV (L.map fun x => V.ref x.1) none (some at_))) fc2
    have in8 := in7.same s8
    refine ⟨c1, c2, _, _, rfl, rfl, s8 _ _ upd_same, upd_same, ?_, fun c3 fc3 => ?_⟩
    · have e1 := cutV_length (L.map fun x => V.ref x.1) (some at_) none
      have e2 := cutV_length (L.map fun x => V.ref x.1) none (some at_)
      rw [List.length_map] at e1 e2
      exact Nat.le_trans (by omega : _ ≤ 64) (by decide)
    have s9 := same_new (o := .lst (cutV (L.map fun x => V.ref x.1) (some at_) none ++ cutV (L.map fun x => V.ref x.1) none (some at_))) fc3
    have in9 := in8.same s9
    have m9 : ∀ x ∈ L.drop at_.toNat ++ L.take at_.toNat, x ∈ L := fun x hx => (List.mem_append.mp hx).elim List.mem_of_mem_drop List.mem_of_mem_take
    refine ⟨c3, L.drop at_.toNat ++ L.take at_.toNat, rfl, sub in9 (by rw [upd_same, cut_drop a4 a5, cut_take a4 a5, List.map_append]) m9, hmem m9, by rw [List.length_append, List.length_drop, List.length_take]; omega, fun t2 H10 s10 ft2 ht2 => ?_⟩
    rw [sum_turned] at ht2
    have s610 := ((s7.trans s8).trans s9).trans s10
    have in10 := in6.same s610
    -- of parts
    refine ⟨_, rfl, _, rfl, at_, rfl, D, _, rfl, SqL.of in10.1.1, fun c4 fc4 => ?_⟩
    have s11 := same_new (o := .lst (cutV (L.map fun x => V.ref x.1) none (some at_))) fc4
    have in11 := in10.same s11
    have m11 : ∀ x ∈ L.take at_.toNat, x ∈ L := fun x hx => List.mem_of_mem_take hx
    refine ⟨c4, L.take at_.toNat, rfl, sub in11 (by rw [upd_same, cut_take a4 a5]) m11, hmem m11, by rw [List.length_take]; omega, fun t3 H12 s12 ft3 ht3 => ?_⟩
    have in12 := in11.same s12
    obtain ⟨d3, ht31⟩ := id ht3
    refine ⟨t3, d3, _, rfl, ht31, shF_no _ (by decide +kernel) (by decide +kernel), ?_⟩
    refine ⟨_, rfl, _, rfl, at_, rfl, D, _, rfl, SqL.of in12.1.1, fun c5 fc5 => ?_⟩
    have s13 := same_new (o := .lst (cutV (L.map fun x => V.ref x.1) (some at_) none)) fc5
    have in13 := in12.same s13
    have m13 : ∀ x ∈ L.drop at_.toNat, x ∈ L := fun x hx => List.mem_of_mem_drop hx
    refine ⟨c5, L.drop at_.toNat, rfl, sub in13 (by rw [upd_same, cut_drop a4 a5]) m13, hmem m13, by rw [List.length_drop]; omega, fun t4 H14 s14 ft4 ht4' => ?_⟩
    refine ⟨t3, t4, _, _, 400, rfl, (ht3.keep s13).keep s14, ht4', szT, szD, by decide, by decide, fun t5 H15 s15 ft5 ht5 => ?_⟩
    have ht5 : Sh C H15 t5 (pr (sumR (ratsOf L))) := by
      have z : Sh C H15 t5 (pr (sumR (ratsOf (L.take at_.toNat)) + sumR (ratsOf (L.drop at_.toNat)))) := ht5
      rw [sum_parts] at z
      exact z
    have s1015 := (((s11.trans s12).trans s13).trans s14).trans s15
    refine ⟨by show 3 ≤ sizeLine; decide, fun tt ftt => ?_⟩
    have s16 := same_new (o := .tup [.ref t1, .ref t2, .ref t5]) ftt
    have htt := upd_same (H := H15) (a := tt) (o := .tup [.ref t1, .ref t2, .ref t5])
    have w1 := ((ht1.keep s610).keep s1015).keep s16
    have w2 := (ht2.keep s1015).keep s16
    have w3 := ht5.keep s16
    have w0 := ((ht6.keep s610).keep s1015).keep s16
    have in16 := (in10.same s1015).same s16
    generalize upd H15 tt (.tup [.ref t1, .ref t2, .ref t5]) = H16 at htt w1 w2 w3 w0 in16 ⊢
    clear in4 in5 in6 in7 in8 in9 in10 in11 in12 in13 s5 s6 s7 s8 s9 s10 s11 s12 s13 s14 s15 s16 s610 s1015 sub ht ht1 ht2 ht3 ht31 ht4 ht4' ht5 ht6
    refine ⟨tt, rfl, ⟨_, SqT.of htt⟩, for_tup (K := K) (xs := [.ref t1, .ref t2, .ref t5]) (fun j σ H17 => Same H16 H17 ∧ ∃ v5, σ = [some (.ref a), some (.ref h), some (.ref D), some (.ref t), some (.int at_), v5, none, none, none, none])
      ⟨Same.refl _, _, rfl⟩ (fun j σ H17 _ z => SqT.of (z.1 _ _ htt)) ?_ ?_⟩
    · rintro j z σ H17 hj ⟨s17, v5, rfl⟩
      obtain ⟨p, hp, rfl⟩ : ∃ p, Sh C H17 p (pr (sumR (ratsOf L))) ∧ z = .ref p := by
        match j, hj with
        | 0, e => exact ⟨t1, w1.keep s17, (Option.some.inj e).symm⟩
        | 1, e => exact ⟨t2, w2.keep s17, (Option.some.inj e).symm⟩
        | 2, e => exact ⟨t5, w3.keep s17, (Option.some.inj e).symm⟩
      have hw := w0.keep s17
      obtain ⟨dp, hp1⟩ := id hp
      obtain ⟨dw, hw1⟩ := id hw
      refine ⟨_, rfl, _, rfl, p, dp, _, t, dw, _, rfl, rfl, hp1, hw1, p, t, _, _, rfl, hp, hw, _, rfl, _, rfl, ?_⟩
      refine ite2 (fun c => absurd c (by simp)) (fun _ => ?_)
      refine ⟨_, rfl, p, dp, _, rfl, hp1, p, _, 400, rfl, hp, szW, by decide, by decide, _, rfl, _, rfl, t, dw, _, rfl, hw1, t, _, 400, rfl, hw, szW, by decide, by decide, _, rfl, rfl, _, rfl, ?_⟩
      refine ite2 (fun c => absurd c (by simp)) (fun _ => ?_)
      exact ⟨s17, _, rfl⟩
    rintro σ H17 ⟨s17, v5, rfl⟩
    have in17 := in16.same s17
    have hw := w0.keep s17
    -- less each of them
    refine ⟨_, rfl, _, rfl, D, rfl, ⟨_, SqL.of in17.1.1⟩, for_list (K := K) (xs := L.map fun x => V.ref x.1) (fun i σ H18 => Same H17 H18 ∧ ∃ (q : Addr) (v7 : Option V), σ = [some (.ref a), some (.ref h), some (.ref D), some (.ref t), some (.int at_), v5, some (.ref q), v7, none, none] ∧ Sh C H18 q (pr (sumR (ratsOf (L.drop i)))))
      ⟨Same.refl _, t, _, rfl, hw⟩ (fun i σ H18 _ z => SqL.of (z.1 _ _ in17.1.1)) ?_ ?_⟩
    · rintro i y σ H18 hi ⟨s18, q, v7, rfl, hq⟩
      rw [List.getElem?_map] at hi
      cases hx : L[i]? with
      | none =>
        rw [hx] at hi
        cases hi
      | some x =>
        rw [hx] at hi
        cases (Option.some.inj hi : V.ref x.1 = y)
        have hxm := List.mem_of_getElem? hx
        have hil : i < L.length := (List.getElem?_eq_some_iff.mp hx).1
        obtain ⟨dq, hq1⟩ := id hq
        refine ⟨_, rfl, q, dq, _, rfl, hq1, shF_no _ (by decide +kernel) (by decide +kernel), _, rfl, q, x.1, _, x.2, 400, rfl, hq, (in17.1.2 x hxm).keep s18, sz_part hLs (fun x hx => List.mem_of_mem_drop hx) (by rw [List.length_drop]; omega), (hLs x hxm).mono (by decide), by decide, by decide, fun t' H19 s19 ft' ht' => ?_⟩
        refine ⟨s18.trans s19, t', _, rfl, ?_⟩
        have e : sumR (ratsOf (L.drop i)) - x.2 = sumR (ratsOf (L.drop (i + 1))) := by
          rw [List.drop_eq_getElem_cons hil, (List.getElem?_eq_some_iff.mp hx).2]
          show sumR (x.2 :: ratsOf (L.drop (i + 1))) - x.2 = _
          rw [sumR_cons, Rat.add_comm]
          exact KM.add_back _ _
        rw [← e]
        exact ht'
    rintro σ H18 ⟨s18, q, v7, rfl, hq⟩
    rw [List.length_map, List.drop_length] at hq
    have in18 := in17.same s18
    have hw18 := hw.keep s18
    have hq0 : Sh C H18 q (pr 0) := hq
    -- nought, read back, in order
    refine ⟨_, rfl, ?_⟩
    intro p pd np nd ne
    refine mk_in (n := 1) np nd (by decide) (by decide) (by decide) (by decide) fun H19 s19 hp => ⟨rfl, ?_⟩
    have z0 : Rat.divInt 0 1 = 0 := by rfl
    rw [z0] at hp
    have hq19 := hq0.keep s19
    have hw19 := hw18.keep s19
    have in19 := in18.same s19
    obtain ⟨dq, hq1⟩ := id hq19
    obtain ⟨dp, hp1⟩ := id hp
    obtain ⟨dw, hw1⟩ := id hw19
    refine ⟨q, dq, _, p, dp, _, rfl, rfl, hq1, hp1, q, p, _, _, rfl, hq19, hp, _, rfl, _, rfl, ?_⟩
    refine ite2 (fun c => absurd c (by simp)) (fun _ => ?_)
    refine ⟨_, rfl, t, dw, _, rfl, hw1, t, _, 400, rfl, hw19, szW, by decide, by decide, _, rfl, _, 400, rfl, szW, by decide, by decide, fun u H20 s20 fu hu => ?_⟩
    have hw20 := hw19.keep s20
    obtain ⟨du, hu1⟩ := id hu
    obtain ⟨dw2, hw2⟩ := id hw20
    refine ⟨_, rfl, u, du, _, t, dw2, _, rfl, rfl, hu1, hw2, u, t, _, _, rfl, hu, hw20, _, rfl, _, rfl, ?_⟩
    refine ite2 (fun c => absurd c (by simp)) (fun _ => ?_)
    have in20 := in19.same s20
    refine ⟨_, rfl, D, L, rfl, in20.1, hLs, by omega, fun H21 s21 => ⟨true, rfl, iteF ?_⟩⟩
    have in21 := in20.same s21
    -- there and back
    refine ⟨_, rfl, by decide, by decide, fun D2 hD2 => ?_⟩
    have nD : D ≠ D2 := ne_of_none in21.1.1 hD2
    refine lc_range (n := 3) (fun i H22 => H22 D2 = some (.lst ((List.replicate i true).map V.bl)) ∧ In C h D (690000000 - 60 * i) L H22 ∧ Cel h D2 H22) ?_ ?_ ?_
    · refine ⟨upd_same, (in21.same (same_new hD2)), (Cel.of in21.2.2.2.2.1 hD2).kp (Kp.same (same_new hD2))⟩
    · rintro i H22 hi ⟨hd, in22, cel⟩
      refine ⟨rfl, ?_⟩
      refine ⟨_, rfl, _, rfl, h, D, L, 690000000 - 60 * (i + 1), rfl, in22.2.2.2.2.1.weak (by omega), in22.1, hLs, hne, by omega, fun H23 held23 k23 => ?_⟩
      have in23 := in22.kp k23 held23
      have hd23 := k23.at_ in22.2.2.2.2.1 hd (by intro _ z; cases z)
      have cel23 := cel.kp k23
      obtain ⟨la, n', m', e', n1, n2⟩ := id cel23
      refine ⟨_, hd23, ?_, ?_, ⟨in23.1.put hd23 nD, hLs, hne, hl14, held23.put cel23, in23.2.2.2.2.2.put n2⟩, cel23.put n2⟩
      · rw [List.length_map, List.length_replicate]
        exact Nat.lt_of_lt_of_le (by omega : i < 64) (by decide)
      · rw [upd_same]
        simp [List.replicate_succ']
    · rintro H22 ⟨hd, _⟩
      exact ⟨D2, _, rfl, SqL.of hd, hQ H22⟩
end
end K05
set_option Elab.async false
set_option linter.all false
set_option maxRecDepth 100000
set_option maxHeartbeats 0
namespace K05
open PySem PySem.Spec PyProof.Rows L2
open C8 (Cal Mak Met pe_c pe_mk pe_mt pe_mt0)
def fa : List He.Fa := [.glo "is_whole", .glo "common_part", .glo "Share", .glo "total", .glo "in_order", .glo "is_number_text", .glo "share_of", .glo "_law_held", .glo "_law_draw", .glo "_law_share", .glo "_law_stepped", .glo "_law_back_right", .glo "_law_order_right", .glo "law",
  .free "isinstance", .free "int", .free "bool", .free "abs", .free "list", .free "range", .free "len", .free "str", .free "all", .free "repr", .free "sorted", .free "dict", .free "zip", .str "FIGURES" "0123456789",
  .cls "Share", .noat "Share" "top", .noat "Share" "bottom", .meth "Share" "plus", .meth "Share" "less", .meth "Share" "times", .meth "Share" "over", .meth "Share" "below", .meth "Share" "__eq__", .meth "Share" "__str__", .meth "Share" "__repr__", .mkr "Share"]
def xk (K : PySem.W.Frag) : Bool := He.eqO (PySem.W.findIn K (.ref (He.ga K "Share")) "__ne__") (some (some (.builtin "object.__ne__"))) && GX.isB K (He.ga K "Share")
abbrev R : PySem.W.OpenRow := PySem.W.OpenLaw.row PySem.Challenge.rw_rideturns_k05_whole_shares_there_and_bac
abbrev hk : PySem.W.Hook := He.hookX 6 fa fn [] [] xk
def ob (s : PySem.W.SharedT) : He.AlX := He.obsX 6 fa fn [] [] xk (HandSHeadRun.getT s)
theorem ob_eq (s : PySem.W.SharedT) : ob s = hk.obs s.abs := He.obsX_eq (HandSHeadRun.getT_eq s)
abbrev loose : List Str := ["NoKind", "Nought", "NoShare", "is_whole", "FIGURES", "common_part", "Share", "total", "in_order", "is_number_text", "share_of", "_law_held", "_law_draw", "_law_share", "_law_stepped", "_law_back_right", "_law_order_right"]
theorem run_ (w : World) : HandSHeadRun.RunEq R (PySem.W.view R.prog [21]) hk ob 3000 loose w := by
  intro os
  kernel_rfl
theorem cal_of {P : Program} {w : World} {K : PySem.W.Frag} {mg : Str → Option Value} {base : Heap} {f : Addr} {fd : FuncData} {ps : List Str} {k : Nat} {x : Str} {sp : Sp} (F : FnOk P w K mg base CX0 k f fd ps sp) (g : mg x = some (.ref f)) (kp : PySem.W.keepIn K (.ref f) = true) (b : Binds K fd ps []) : Cal P w K mg base k x sp [] :=
  ⟨f, fd, ps, [], F, g, kp, b, .nil⟩
theorem met_of {P : Program} {w : World} {K : PySem.W.Frag} {mg : Str → Option Value} {base : Heap} {f C : Addr} {fd : FuncData} {ps : List Str} {k : Nat} {m : Str} {sp : Sp} (c : Cls K C) (h : Meth K C m f) (F : FnOk P w K mg base CX0 k f fd ps sp) (b : Binds K fd ps []) : Met P w K mg base k C m sp [] :=
  ⟨f, fd, ps, [], c, h, F, b, .nil⟩
theorem spc_of {P : Program} {w : World} {K : PySem.W.Frag} {mg : Str → Option Value} {base : Heap} {f C : Addr} {fd : FuncData} {ps : List Str} {k : Nat} {m : Str} {sp : Sp} (h : Meth K C m f) (F : FnOk P w K mg base CX0 k f fd ps sp) (b : Binds K fd ps []) : OW.Spc P w K mg base k C m sp :=
  ⟨f, fd, ps, h.at_, h.fn, F, b⟩
theorem facts {P : Program} {w : World} {K : PySem.W.Frag} {h h0 : Heap} {mg : Str → Option Value} {f : Addr} (X : K.In h) (G : h.Ns mainGlobals mg) (hfa : mg ("law" : Str) = some (.ref f)) (c : He.SaysX fa fn [] [] xk w h0 K) :
    ∃ fd : FuncData, (∀ (s : Shared) (v : Value), BindsTo s fd ⟨[v], []⟩ [("_law_script", v)]) ∧ ∀ base : Heap, K.In base → base.Ns mainGlobals mg → FnOk P w K mg base CX0 7 f fd ["_law_script"] (spLaw K) := by
  have d := c.t.d
  have x := c.more
  unfold xk at x
  simp only [Bool.and_eq_true] at x
  obtain ⟨x1, x5⟩ := x
  unfold GX.isB at x5
  simp only [Bool.and_eq_true, decide_eq_true_eq] at x5
  obtain ⟨y1, y2, y3, y4⟩ := x5
  have IC : IsC K (He.ga K "Share") := ⟨He.eqO_ok y1, He.eqO_ok y2, y3, y4, by unfold PySem.W.kitOne; rw [if_pos (beq_self_eq_true _)], He.eqO_ok x1⟩
  have gl : ∀ (i : Nat) (x : Str), fa[i]? = some (.glo x) → mg x = some (.ref (He.ga K x)) := fun i x e => He.glo_ok X G (d.fact i e)
  have fr : ∀ (i : Nat) (x : Str), fa[i]? = some (.free x) → mg x = none := fun i x e => He.free_ok X G (d.fact i e)
  have me : ∀ (i : Nat) (C m : Str), fa[i]? = some (.meth C m) → Meth K (He.ga K C) m (He.ma K (He.ga K C) m) := fun i C m e => He.meth_ok (d.fact i e)
  have B : Bl mg := ⟨fr 14 _ rfl, fr 15 _ rfl, fr 16 _ rfl, fr 17 _ rfl, fr 18 _ rfl, fr 19 _ rfl, fr 20 _ rfl⟩
  have B2 : Bm mg := ⟨fr 21 _ rfl, fr 22 _ rfl, fr 23 _ rfl, fr 24 _ rfl, fr 25 _ rfl, fr 26 _ rfl⟩
  have gF := He.str_ok X G (d.fact 27 (f := .str "FIGURES" "0123456789") rfl)
  have T : Cl K mg (He.ga K "Share") := ⟨He.cls_ok (d.fact 28 rfl), He.noat_ok (d.fact 29 rfl), He.noat_ok (d.fact 30 rfl), gl 2 _ rfl⟩
  obtain ⟨fd3, D3⟩ := d.def_ 3 (d := d_is_whole) rfl
  obtain ⟨fd4, D4⟩ := d.def_ 4 (d := d_common_part) rfl
  obtain ⟨fd5, D5⟩ := d.def_ 5 (d := d_Share_init) rfl
  obtain ⟨fd6, D6⟩ := d.def_ 6 (d := d_Share_eq) rfl
  obtain ⟨fd7, D7⟩ := d.def_ 7 (d := d_Share_str) rfl
  obtain ⟨fd8, D8⟩ := d.def_ 8 (d := d_Share_repr) rfl
  obtain ⟨fd9, D9⟩ := d.def_ 9 (d := d_Share_plus) rfl
  obtain ⟨fd10, D10⟩ := d.def_ 10 (d := d_Share_less) rfl
  obtain ⟨fd11, D11⟩ := d.def_ 11 (d := d_Share_times) rfl
  obtain ⟨fd12, D12⟩ := d.def_ 12 (d := d_Share_over) rfl
  obtain ⟨fd13, D13⟩ := d.def_ 13 (d := d_Share_below) rfl
  obtain ⟨fd15, D15⟩ := d.def_ 15 (d := d_total) rfl
  obtain ⟨fd16, D16⟩ := d.def_ 16 (d := d_in_order) rfl
  obtain ⟨fd17, D17⟩ := d.def_ 17 (d := d_is_number_text) rfl
  obtain ⟨fd18, D18⟩ := d.def_ 18 (d := d_share_of) rfl
  obtain ⟨fd19, D19⟩ := d.def_ 19 (d := d_l_held) rfl
  obtain ⟨fd20, D20⟩ := d.def_ 20 (d := d_l_draw) rfl
  obtain ⟨fd21, D21⟩ := d.def_ 21 (d := d_l_share) rfl
  obtain ⟨fd22, D22⟩ := d.def_ 22 (d := d_l_stepped) rfl
  obtain ⟨fd23, D23⟩ := d.def_ 23 (d := d_l_back_right) rfl
  obtain ⟨fd24, D24⟩ := d.def_ 24 (d := d_l_order_right) rfl
  obtain ⟨fd25, D25⟩ := d.def_ 25 (d := d_law) rfl
  have e := hfa.symm.trans (gl 13 "law" rfl)
  cases e
  have bL := FunD.bindsA (ps := ["_law_script"]) D25 fun _ _ _ _ _ _ us hl => match us, hl with | [_], _ => rfl
  refine ⟨fd25, fun s v => bL s [v] rfl, fun base _ _ => ?_⟩
  have b3 : Binds K fd3 ["thing"] [] := D3.bindsN fun _ _ _ _ _ _ us hl => match us, hl with | [_], _ => rfl
  have b4 : Binds K fd4 ["one", "other"] [] := D4.bindsN fun _ _ _ _ _ _ us hl => match us, hl with | [_, _], _ => rfl
  have b5 : Binds K fd5 ["self", "top", "bottom"] [] := by
    obtain ⟨ds, h1, h2⟩ := D5.binds1 (ps := ["self", "top", "bottom"]) 3 1 (List.cons_ne_nil _ _) rfl (fun T kV doc pm an cdv ct us its hl h1 => match us, hl, its, h1 with | [_, _, _], _, [_], _ => ⟨_, rfl, rfl⟩)
    cases h1
    exact h2
  obtain ⟨ds5, v5, b51⟩ := D5.binds1 (ps := ["self", "top", "bottom"]) 2 0 (List.cons_ne_nil _ _) rfl (fun T kV doc pm an cdv ct us its hl h1 => match us, hl, its, h1 with | [_, _], _, [_], _ => ⟨_, rfl, rfl⟩)
  obtain ⟨ds15, v15, b15⟩ := D15.binds1 (ps := ["shares", "start"]) 1 0 (List.cons_ne_nil _ _) rfl (fun T kV doc pm an cdv ct us its hl h1 => match us, hl, its, h1 with | [_], _, [_], _ => ⟨_, rfl, rfl⟩)
  have b6 : Binds K fd6 ["self", "other"] [] := D6.bindsN fun _ _ _ _ _ _ us hl => match us, hl with | [_, _], _ => rfl
  have b7 : Binds K fd7 ["self"] [] := D7.bindsN fun _ _ _ _ _ _ us hl => match us, hl with | [_], _ => rfl
  have b8 : Binds K fd8 ["self"] [] := D8.bindsN fun _ _ _ _ _ _ us hl => match us, hl with | [_], _ => rfl
  have b9 : Binds K fd9 ["self", "other"] [] := D9.bindsN fun _ _ _ _ _ _ us hl => match us, hl with | [_, _], _ => rfl
  have b10 : Binds K fd10 ["self", "other"] [] := D10.bindsN fun _ _ _ _ _ _ us hl => match us, hl with | [_, _], _ => rfl
  have b11 : Binds K fd11 ["self", "many"] [] := D11.bindsN fun _ _ _ _ _ _ us hl => match us, hl with | [_, _], _ => rfl
  have b12 : Binds K fd12 ["self", "many"] [] := D12.bindsN fun _ _ _ _ _ _ us hl => match us, hl with | [_, _], _ => rfl
  have b13 : Binds K fd13 ["self", "other"] [] := D13.bindsN fun _ _ _ _ _ _ us hl => match us, hl with | [_, _], _ => rfl
  have b16 : Binds K fd16 ["names", "shares"] [] := D16.bindsN fun _ _ _ _ _ _ us hl => match us, hl with | [_, _], _ => rfl
  have b17 : Binds K fd17 ["text"] [] := D17.bindsN fun _ _ _ _ _ _ us hl => match us, hl with | [_], _ => rfl
  have b18 : Binds K fd18 ["text"] [] := D18.bindsN fun _ _ _ _ _ _ us hl => match us, hl with | [_], _ => rfl
  have b19 : Binds K fd19 ["_law_script"] [] := D19.bindsN fun _ _ _ _ _ _ us hl => match us, hl with | [_], _ => rfl
  have b20 : Binds K fd20 ["_law_held_here", "_law_many"] [] := D20.bindsN fun _ _ _ _ _ _ us hl => match us, hl with | [_, _], _ => rfl
  have b21 : Binds K fd21 ["_law_held_here"] [] := D21.bindsN fun _ _ _ _ _ _ us hl => match us, hl with | [_], _ => rfl
  have b22 : Binds K fd22 ["_law_share_here", "_law_way", "_law_other", "_law_many"] [] := D22.bindsN fun _ _ _ _ _ _ us hl => match us, hl with | [_, _, _, _], _ => rfl
  have b23 : Binds K fd23 ["_law_held_here", "_law_some"] [] := D23.bindsN fun _ _ _ _ _ _ us hl => match us, hl with | [_, _], _ => rfl
  have b24 : Binds K fd24 ["_law_some"] [] := D24.bindsN fun _ _ _ _ _ _ us hl => match us, hl with | [_], _ => rfl
  have cW : CalW P w K mg base := cal_of (ok_whole D3 B) (gl 0 "is_whole" rfl) D3.kp b3
  have cG : CalG P w K mg base := cal_of (ok_gcd D4 B) (gl 1 "common_part" rfl) D4.kp b4
  have MK := He.mkr_ok (d.fact 39 (f := .mkr "Share") rfl)
  have MS : MakS P w K mg base (He.ga K "Share") := ⟨_, _, _, _, MK, ok_init D5 cW cG T, T.g, b5, .nil⟩
  have M1 : MakS1 P w K mg base (He.ga K "Share") := ⟨_, _, _, _, MK, ok_init D5 cW cG T, T.g, b51, v5⟩
  have M : Ms P w K mg base (He.ga K "Share") := ⟨met_of T.cl (me 31 "Share" "plus" rfl) ((ok_plus D9 MS T).imp fun _ _ _ _ => plusR) b9, met_of T.cl (me 32 "Share" "less" rfl) ((ok_less D10 MS T).imp fun _ _ _ _ => lessR) b10,
    met_of T.cl (me 33 "Share" "times" rfl) ((ok_times D11 MS T).imp fun _ _ _ _ => timesR) b11, met_of T.cl (me 34 "Share" "over" rfl) ((ok_over D12 MS T).imp fun _ _ _ _ => overR) b12, met_of T.cl (me 35 "Share" "below" rfl) ((ok_below D13 T).imp fun _ _ _ _ => belowR) b13⟩
  have S3 : Sp3 P w K mg base (He.ga K "Share") := ⟨spc_of (me 36 "Share" "__eq__" rfl) (ok_eq D6 B T IC) b6, spc_of (me 37 "Share" "__str__" rfl) (ok_str D7 T) b7, spc_of (me 38 "Share" "__repr__" rfl) (ok_repr D8 T) b8⟩
  have cT : Cal P w K mg base 5 "total" (spTotal K (He.ga K "Share")) [.int 0] := ⟨_, _, _, _, ok_total D15 M1 M.plus, gl 3 "total" rfl, D15.kp, b15, v15⟩
  have cI := cal_of (ok_in_order D16 B B2 M1 M.below) (gl 4 "in_order" rfl) D16.kp b16
  have cNt := cal_of (P := P) (w := w) (base := base) (ok_num D17 B2 gF) (gl 5 "is_number_text" rfl) D17.kp b17
  have cSh := cal_of (ok_share_of D18 B B2 cNt MS S3.str) (gl 6 "share_of" rfl) D18.kp b18
  have cH := cal_of (P := P) (w := w) (base := base) (ok_held D19 B) (gl 7 "_law_held" rfl) D19.kp b19
  have cD : CalD P w K mg base := cal_of (ok_draw D20 B) (gl 8 "_law_draw" rfl) D20.kp b20
  have cS := cal_of (ok_lshare D21 cD MS) (gl 9 "_law_share" rfl) D21.kp b21
  have cSt := cal_of (ok_step D22 M) (gl 10 "_law_stepped" rfl) D22.kp b22
  have cB := cal_of (ok_back D23 B B2 T IC cD S3 cSt cSh) (gl 11 "_law_back_right" rfl) D23.kp b23
  have cO := cal_of (ok_order D24 B B2 T S3 M cI) (gl 12 "_law_order_right" rfl) D24.kp b24
  exact ok_law D25 B B2 T IC S3 M M1 cH cD cS cT cSh cO cB
end K05
open PySem PySem.W PySem.Calls PyProof.Rows
set_option maxRecDepth 100000 in
set_option maxHeartbeats 0 in
theorem PySem.Challenge.cw_rideturns_k05_whole_shares_there_and_bac_holds : PySem.Challenge.rw_rideturns_k05_whole_shares_there_and_bac.Holds := by
  w_on; o_law
  refine HandSHeadRun.head_any (r := OpenLaw.row PySem.Challenge.rw_rideturns_k05_whole_shares_there_and_bac) (q := view (OpenLaw.row PySem.Challenge.rw_rideturns_k05_whole_shares_there_and_bac).prog [21]) (H := K05.hk) (ob := K05.ob) (M := 3000) (loose := K05.loose) (d := HandSHeadRun.topDef (OpenLaw.row PySem.Challenge.rw_rideturns_k05_whole_shares_there_and_bac).prog 21) (kwd := []) K05.ob_eq
    (by kernel_rfl) (fun s => by kernel_rfl) K05.run_ (by kernel_rfl) (by kernel_rfl) (by kernel_rfl) (by rfl) (by first | assumption | decide +kernel) (by decide +kernel) ⟨rfl, rfl, rfl, rfl, rfl, by decide +kernel⟩ ?hw ?hc
  case hw => w_witness2
  case hc =>
    refine L2.walk_ofE (l := PySem.Challenge.rw_rideturns_k05_whole_shares_there_and_bac) (n := 63) (k := 7) (x := "_law_script") (CX := L2.CX0) rfl (by decide) (by kernel_rfl) ⟨rfl, by decide, by decide⟩ ?F (fun _ _ _ _ z => z)
    intro w mg fa h Y G hmg0
    obtain ⟨K, KX, c⟩ := Y
    have hmg : mg ("law" : PySem.Str) = some (.ref fa) := by
      have e : (HandSHeadRun.topDef (OpenLaw.row PySem.Challenge.rw_rideturns_k05_whole_shares_there_and_bac).prog 21).name = ("law" : PySem.Str) := by kernel_rfl
      rw [← e]
      exact hmg0
    obtain ⟨fd, hb, hF⟩ := K05.facts (P := (PySem.Challenge.rw_rideturns_k05_whole_shares_there_and_bac).prog) (w := w) KX G hmg c
    exact ⟨K, fd, K05.spLaw K, KX, hb, fun H a ns hl _ hS => ⟨a, ns, rfl, hS, hl, fun _ => rfl⟩, hF⟩
