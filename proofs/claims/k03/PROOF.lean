import PyProof.Rows.All
import Wide.All
import OpenK.AllK
import Wide.FinOn
import HandS.ForMost
import HandS.ForExc
import HandS.Defaults
import HandS.Codes
import HandS.IsInst
import HandS.Wide
import HandS.Flow
import HandS.Evl
import HandS.Steps
import HandS.ExcField
import HandS.Head0
import HandS.Head1
import HandS.Head2
import HandS.HeadEnd
import HandS.HeadHook1
import HandS.HeadHook2
import HandS.HeadHook3
import HandS.HeadHook4
import KE.KExcInit
import HandS.ExcInit
import KE.KEqSeq
import HandS.Words
import HandS.MakeKw
import HandS.MakeKwOnly
import HandS.Style
import HandS.Comp
import HandS.Text
import HandS.More
import PyProof.StrOps2
import KE.KCallOwn
import KE.IntTextLaws
import PyProof.StrLawsAffix
import HandS.List
import HandS.Deep
import HandS.Dict
import KE.LtData
import HandS.Call
import KE.KIndexOf
import HandS.FStr
import HandS.StrMore
import HandS.Walk
import HandS.Iter
import HandS.DictComp
import PyProof.ReprRoads
import PyProof.ReprDict
import HandS.OwnEq
import PyProof.ReprLen
import HandS.Small
import HandS.WordsDict
import PySem.Challenge.RW_rideturns_k03_lists_of_shares
set_option Elab.async false
set_option linter.all false
set_option maxRecDepth 100000
set_option maxHeartbeats 4000000
namespace K03
open PySem PySem.Spec PyProof.Rows L2
def top (i : Nat) : Stmt := PySem.Challenge.pw_rideturns_k03_lists_of_shares.main.body.getD i (.Pass ⟨0, 0, 0, 0⟩)
abbrev s__wall : Stmt := top 0
abbrev N__wall : List Str := ["k"]
theorem sc__wall : FnScope N__wall ["k"] (defScope s__wall) := ⟨rfl, rfl, rfl, by decide +kernel, rfl, by decide +kernel, by decide +kernel⟩
def d__wall : He.DefD := ⟨("_wall", none), "_wall", "_wall", defArgs s__wall, defBody s__wall, defScope s__wall, [], []⟩
abbrev s_NoKind_init : Stmt := inClass (top 2) 0
abbrev N_NoKind_init : List Str := ["self", "thing"]
theorem sc_NoKind_init : FnScope N_NoKind_init ["self", "thing"] (defScope s_NoKind_init) := ⟨rfl, rfl, rfl, by decide +kernel, rfl, by decide +kernel, by decide +kernel⟩
def d_NoKind_init : He.DefD := ⟨("NoKind", some "__init__"), "__init__", "NoKind.__init__", defArgs s_NoKind_init, defBody s_NoKind_init, defScope s_NoKind_init, [], []⟩
abbrev s_Nought_init : Stmt := inClass (top 3) 0
abbrev N_Nought_init : List Str := ["self", "top"]
theorem sc_Nought_init : FnScope N_Nought_init ["self", "top"] (defScope s_Nought_init) := ⟨rfl, rfl, rfl, by decide +kernel, rfl, by decide +kernel, by decide +kernel⟩
def d_Nought_init : He.DefD := ⟨("Nought", some "__init__"), "__init__", "Nought.__init__", defArgs s_Nought_init, defBody s_Nought_init, defScope s_Nought_init, [], []⟩
abbrev s_is_whole : Stmt := top 5
abbrev N_is_whole : List Str := ["thing"]
theorem sc_is_whole : FnScope N_is_whole ["thing"] (defScope s_is_whole) := ⟨rfl, rfl, rfl, by decide +kernel, rfl, by decide +kernel, by decide +kernel⟩
def d_is_whole : He.DefD := ⟨("is_whole", none), "is_whole", "is_whole", defArgs s_is_whole, defBody s_is_whole, defScope s_is_whole, [], []⟩
abbrev s_common_part : Stmt := top 7
abbrev N_common_part : List Str := ["one", "other"]
theorem sc_common_part : FnScope N_common_part ["one", "other"] (defScope s_common_part) := ⟨rfl, rfl, rfl, by decide +kernel, rfl, by decide +kernel, by decide +kernel⟩
def d_common_part : He.DefD := ⟨("common_part", none), "common_part", "common_part", defArgs s_common_part, defBody s_common_part, defScope s_common_part, [], []⟩
abbrev s_Share_init : Stmt := inClass (top 8) 0
abbrev N_Share_init : List Str := ["self", "top", "bottom", "thing", "common"]
theorem sc_Share_init : FnScope N_Share_init ["self", "top", "bottom"] (defScope s_Share_init) := ⟨rfl, rfl, rfl, by decide +kernel, rfl, by decide +kernel, by decide +kernel⟩
def d_Share_init : He.DefD := ⟨("Share", some "__init__"), "__init__", "Share.__init__", defArgs s_Share_init, defBody s_Share_init, defScope s_Share_init, [.int 1], []⟩
abbrev s_Share_eq : Stmt := inClass (top 8) 1
abbrev N_Share_eq : List Str := ["self", "other"]
theorem sc_Share_eq : FnScope N_Share_eq ["self", "other"] (defScope s_Share_eq) := ⟨rfl, rfl, rfl, by decide +kernel, rfl, by decide +kernel, by decide +kernel⟩
def d_Share_eq : He.DefD := ⟨("Share", some "__eq__"), "__eq__", "Share.__eq__", defArgs s_Share_eq, defBody s_Share_eq, defScope s_Share_eq, [], []⟩
abbrev s_Share_str : Stmt := inClass (top 8) 2
abbrev N_Share_str : List Str := ["self"]
theorem sc_Share_str : FnScope N_Share_str ["self"] (defScope s_Share_str) := ⟨rfl, rfl, rfl, by decide +kernel, rfl, by decide +kernel, by decide +kernel⟩
def d_Share_str : He.DefD := ⟨("Share", some "__str__"), "__str__", "Share.__str__", defArgs s_Share_str, defBody s_Share_str, defScope s_Share_str, [], []⟩
abbrev s_Share_repr : Stmt := inClass (top 8) 3
abbrev N_Share_repr : List Str := ["self"]
theorem sc_Share_repr : FnScope N_Share_repr ["self"] (defScope s_Share_repr) := ⟨rfl, rfl, rfl, by decide +kernel, rfl, by decide +kernel, by decide +kernel⟩
def d_Share_repr : He.DefD := ⟨("Share", some "__repr__"), "__repr__", "Share.__repr__", defArgs s_Share_repr, defBody s_Share_repr, defScope s_Share_repr, [], []⟩
abbrev s_Share_plus : Stmt := inClass (top 8) 4
abbrev N_Share_plus : List Str := ["self", "other"]
theorem sc_Share_plus : FnScope N_Share_plus ["self", "other"] (defScope s_Share_plus) := ⟨rfl, rfl, rfl, by decide +kernel, rfl, by decide +kernel, by decide +kernel⟩
def d_Share_plus : He.DefD := ⟨("Share", some "plus"), "plus", "Share.plus", defArgs s_Share_plus, defBody s_Share_plus, defScope s_Share_plus, [], []⟩
abbrev s_Share_less : Stmt := inClass (top 8) 5
abbrev N_Share_less : List Str := ["self", "other"]
theorem sc_Share_less : FnScope N_Share_less ["self", "other"] (defScope s_Share_less) := ⟨rfl, rfl, rfl, by decide +kernel, rfl, by decide +kernel, by decide +kernel⟩
def d_Share_less : He.DefD := ⟨("Share", some "less"), "less", "Share.less", defArgs s_Share_less, defBody s_Share_less, defScope s_Share_less, [], []⟩
abbrev s_Share_times : Stmt := inClass (top 8) 6
abbrev N_Share_times : List Str := ["self", "many"]
theorem sc_Share_times : FnScope N_Share_times ["self", "many"] (defScope s_Share_times) := ⟨rfl, rfl, rfl, by decide +kernel, rfl, by decide +kernel, by decide +kernel⟩
def d_Share_times : He.DefD := ⟨("Share", some "times"), "times", "Share.times", defArgs s_Share_times, defBody s_Share_times, defScope s_Share_times, [], []⟩
abbrev s_Share_over : Stmt := inClass (top 8) 7
abbrev N_Share_over : List Str := ["self", "many"]
theorem sc_Share_over : FnScope N_Share_over ["self", "many"] (defScope s_Share_over) := ⟨rfl, rfl, rfl, by decide +kernel, rfl, by decide +kernel, by decide +kernel⟩
def d_Share_over : He.DefD := ⟨("Share", some "over"), "over", "Share.over", defArgs s_Share_over, defBody s_Share_over, defScope s_Share_over, [], []⟩
abbrev s_Share_below : Stmt := inClass (top 8) 8
abbrev N_Share_below : List Str := ["self", "other"]
theorem sc_Share_below : FnScope N_Share_below ["self", "other"] (defScope s_Share_below) := ⟨rfl, rfl, rfl, by decide +kernel, rfl, by decide +kernel, by decide +kernel⟩
def d_Share_below : He.DefD := ⟨("Share", some "below"), "below", "Share.below", defArgs s_Share_below, defBody s_Share_below, defScope s_Share_below, [], []⟩
abbrev s_Share_whole : Stmt := inClass (top 8) 9
abbrev N_Share_whole : List Str := ["self"]
theorem sc_Share_whole : FnScope N_Share_whole ["self"] (defScope s_Share_whole) := ⟨rfl, rfl, rfl, by decide +kernel, rfl, by decide +kernel, by decide +kernel⟩
def d_Share_whole : He.DefD := ⟨("Share", some "whole"), "whole", "Share.whole", defArgs s_Share_whole, defBody s_Share_whole, defScope s_Share_whole, [], []⟩
abbrev s_total : Stmt := top 9
abbrev N_total : List Str := ["shares", "start", "summed", "share"]
theorem sc_total : FnScope N_total ["shares", "start"] (defScope s_total) := ⟨rfl, rfl, rfl, by decide +kernel, rfl, by decide +kernel, by decide +kernel⟩
def d_total : He.DefD := ⟨("total", none), "total", "total", defArgs s_total, defBody s_total, defScope s_total, [.int 0], []⟩
abbrev s_greatest : Stmt := top 10
abbrev N_greatest : List Str := ["shares", "none", "best", "share"]
theorem sc_greatest : FnScope N_greatest ["shares", "none"] (defScope s_greatest) := ⟨rfl, rfl, rfl, by decide +kernel, rfl, by decide +kernel, by decide +kernel⟩
def d_greatest : He.DefD := ⟨("greatest", none), "greatest", "greatest", defArgs s_greatest, defBody s_greatest, defScope s_greatest, [.non], []⟩
abbrev s_in_order : Stmt := top 11
abbrev N_in_order : List Str := ["names", "shares", "nought", "ordered", "name", "share", "at"]
theorem sc_in_order : FnScope N_in_order ["names", "shares"] (defScope s_in_order) := ⟨rfl, rfl, rfl, by decide +kernel, rfl, by decide +kernel, by decide +kernel⟩
def d_in_order : He.DefD := ⟨("in_order", none), "in_order", "in_order", defArgs s_in_order, defBody s_in_order, defScope s_in_order, [], []⟩
abbrev s_l_held : Stmt := top 13
abbrev N_l_held : List Str := ["_law_script"]
theorem sc_l_held : FnScope N_l_held ["_law_script"] (defScope s_l_held) := ⟨rfl, rfl, rfl, by decide +kernel, rfl, by decide +kernel, by decide +kernel⟩
def d_l_held : He.DefD := ⟨("_law_held", none), "_law_held", "_law_held", defArgs s_l_held, defBody s_l_held, defScope s_l_held, [], []⟩
abbrev s_l_draw : Stmt := top 14
abbrev N_l_draw : List Str := ["_law_held_here", "_law_many", "_law_found", "_law_at", "_law_cell", "_law_number"]
theorem sc_l_draw : FnScope N_l_draw ["_law_held_here", "_law_many"] (defScope s_l_draw) := ⟨rfl, rfl, rfl, by decide +kernel, rfl, by decide +kernel, by decide +kernel⟩
def d_l_draw : He.DefD := ⟨("_law_draw", none), "_law_draw", "_law_draw", defArgs s_l_draw, defBody s_l_draw, defScope s_l_draw, [], []⟩
abbrev s_l_names : Stmt := top 15
abbrev N_l_names : List Str := ["_law_held_here", "_law_many", "_law_letters", "_law_size", "_law_k", "_law_base", "_law_at", "_law_begin", "_law_step", "_law_lot", "_law_found", "_law_tail"]
theorem sc_l_names : FnScope N_l_names ["_law_held_here", "_law_many"] (defScope s_l_names) := ⟨rfl, rfl, rfl, by decide +kernel, rfl, by decide +kernel, by decide +kernel⟩
def d_l_names : He.DefD := ⟨("_law_names", none), "_law_names", "_law_names", defArgs s_l_names, defBody s_l_names, defScope s_l_names, [], []⟩
abbrev s_l_low : Stmt := top 16
abbrev N_l_low : List Str := ["_law_top", "_law_bottom", "_law_one", "_law_other"]
theorem sc_l_low : FnScope N_l_low ["_law_top", "_law_bottom"] (defScope s_l_low) := ⟨rfl, rfl, rfl, by decide +kernel, rfl, by decide +kernel, by decide +kernel⟩
def d_l_low : He.DefD := ⟨("_law_low", none), "_law_low", "_law_low", defArgs s_l_low, defBody s_l_low, defScope s_l_low, [], []⟩
abbrev s_l_add : Stmt := top 17
abbrev N_l_add : List Str := ["_law_one", "_law_other"]
theorem sc_l_add : FnScope N_l_add ["_law_one", "_law_other"] (defScope s_l_add) := ⟨rfl, rfl, rfl, by decide +kernel, rfl, by decide +kernel, by decide +kernel⟩
def d_l_add : He.DefD := ⟨("_law_add", none), "_law_add", "_law_add", defArgs s_l_add, defBody s_l_add, defScope s_l_add, [], []⟩
abbrev s_l_pair : Stmt := top 18
abbrev N_l_pair : List Str := ["_law_share", "_law_part"]
theorem sc_l_pair : FnScope N_l_pair ["_law_share"] (defScope s_l_pair) := ⟨rfl, rfl, rfl, by decide +kernel, rfl, by decide +kernel, by decide +kernel⟩
def d_l_pair : He.DefD := ⟨("_law_pair", none), "_law_pair", "_law_pair", defArgs s_l_pair, defBody s_l_pair, defScope s_l_pair, [], []⟩
abbrev s_l_fraction : Stmt := top 19
abbrev N_l_fraction : List Str := ["_law_held_here", "_law_top"]
theorem sc_l_fraction : FnScope N_l_fraction ["_law_held_here"] (defScope s_l_fraction) := ⟨rfl, rfl, rfl, by decide +kernel, rfl, by decide +kernel, by decide +kernel⟩
def d_l_fraction : He.DefD := ⟨("_law_fraction", none), "_law_fraction", "_law_fraction", defArgs s_l_fraction, defBody s_l_fraction, defScope s_l_fraction, [], []⟩
abbrev s_l_total_right : Stmt := top 20
abbrev N_l_total_right : List Str := ["_law_held_here", "_law_some", "_law_pairs", "_law_more", "_law_due", "_law_pair_here", "_law_found", "_law_one"]
theorem sc_l_total_right : FnScope N_l_total_right ["_law_held_here", "_law_some", "_law_pairs"] (defScope s_l_total_right) := ⟨rfl, rfl, rfl, by decide +kernel, rfl, by decide +kernel, by decide +kernel⟩
def d_l_total_right : He.DefD := ⟨("_law_total_right", none), "_law_total_right", "_law_total_right", defArgs s_l_total_right, defBody s_l_total_right, defScope s_l_total_right, [], []⟩
abbrev s_l_greatest_right : Stmt := top 21
abbrev N_l_greatest_right : List Str := ["_law_held_here", "_law_some", "_law_pairs", "_law_odd", "_law_found", "_law_best", "_law_above", "_law_pair_here"]
theorem sc_l_greatest_right : FnScope N_l_greatest_right ["_law_held_here", "_law_some", "_law_pairs"] (defScope s_l_greatest_right) := ⟨rfl, rfl, rfl, by decide +kernel, rfl, by decide +kernel, by decide +kernel⟩
def d_l_greatest_right : He.DefD := ⟨("_law_greatest_right", none), "_law_greatest_right", "_law_greatest_right", defArgs s_l_greatest_right, defBody s_l_greatest_right, defScope s_l_greatest_right, [], []⟩
abbrev s_l_sorted : Stmt := top 22
abbrev N_l_sorted : List Str := ["_law_folk", "_law_worths", "_law_found", "_law_name", "_law_here", "_law_at", "_law_other", "_law_there", "_law_gap"]
theorem sc_l_sorted : FnScope N_l_sorted ["_law_folk", "_law_worths"] (defScope s_l_sorted) := ⟨rfl, rfl, rfl, by decide +kernel, rfl, by decide +kernel, by decide +kernel⟩
def d_l_sorted : He.DefD := ⟨("_law_sorted", none), "_law_sorted", "_law_sorted", defArgs s_l_sorted, defBody s_l_sorted, defScope s_l_sorted, [], []⟩
abbrev s_law : Stmt := top 23
abbrev N_law : List Str := ["_law_script", "_law_held_here", "_law_turn", "_law_pairs", "_law_far", "_law_at", "_law_some", "_law_folk", "_law_worths", "_law_table", "_law_handed", "_law_found", "_law_k", "_law_pair_here", "_law_name", "_law_share"]
theorem sc_law : FnScope N_law ["_law_script"] (defScope s_law) := ⟨rfl, rfl, rfl, by decide +kernel, rfl, by decide +kernel, by decide +kernel⟩
def d_law : He.DefD := ⟨("law", none), "law", "law", defArgs s_law, defBody s_law, defScope s_law, [], []⟩
def fn : List He.DefD := [d__wall, d_NoKind_init, d_Nought_init, d_is_whole, d_common_part, d_Share_init, d_Share_eq, d_Share_str, d_Share_repr, d_Share_plus, d_Share_less, d_Share_times, d_Share_over, d_Share_below, d_Share_whole, d_total, d_greatest, d_in_order, d_l_held, d_l_draw, d_l_names, d_l_low, d_l_add, d_l_pair, d_l_fraction, d_l_total_right, d_l_greatest_right, d_l_sorted, d_law]
end K03
set_option Elab.async false
set_option linter.all false
set_option maxRecDepth 100000
set_option maxHeartbeats 4000000
/-! GX: own exceptions over any built-in base, whose own __init__ calls the base's and stores a field. -/
namespace GX
open PySem PySem.Spec PyProof.Rows L2

/-- what the written part tells of the class -/
structure Gx (K : PySem.W.Frag) (C : Addr) (bmB : List Value) (nid : String) : Prop where
  over : PySem.W.excOver K C bmB = true
  made : PySem.W.excInitIn K C bmB nid = true
  hasd : ∃ cd, PySem.W.clsIn K C = some cd ∧ cd.hasDict = true
  sets : PySem.W.findIn K (.ref C) "__setattr__" = some (some (.builtin "object.__setattr__"))
  base : PySem.W.subIn K (.ref C) (.type "BaseException") = some true
  typ : PySem.W.typeIn K (.ref C) = some (.type "type")
  keep : PySem.W.keepIn K (.ref C) = true

section
open Builtin Builtin.ObjectAttr
variable {prog : Program} {w : World} {A : Around} {R : Result → Shared → Prop} {hp : Heap} {g : Array GenState} {d : Drawn} {t : Nat} {os : OsState} {B : String} {bmB : List Value}
theorem first_store {K : PySem.W.Frag} {name : Str} {tk : Tok} {v : Value} {x C : Addr} {fv : Array Value} {cd : ClassData} (SF : StoreFacts B bmB "object.__setattr__" "object")
    (X : K.In hp) (hx : hp.get? x = some { cls := .ref C, data := .fields fv }) (ho : PySem.W.excOver K C bmB = true) (hc : PySem.W.clsIn K C = some cd) (hd : cd.hasDict = true)
    (hf : PySem.W.findIn K (.ref C) name = some none)
    (post : ∀ h' tk' dx, (∀ b o, b ≠ x → hp.get? b = some o → h'.get? b = some o) → hp.objs.size ≤ dx → dx ≠ x →
      h'.get? x = some { cls := .ref C, dict := some dx, data := .fields fv } → h'.Ns1 dx (fun y => if y = name then some v else none) → R (.ok (.ret .none)) ⟨h', g, d, tk', os⟩) :
    codeAny (model prog w) A (.call (.builtin "object.__setattr__") ⟨[.ref x, .str name tk, v], []⟩) R ⟨hp, g, d, t, os⟩ := by
  have inst : PySem.W.InstAt hp x { cls := .ref C, data := .fields fv } C none := ⟨hx, rfl, rfl, trivial⟩
  have far : x ≠ hp.objs.size := Nat.ne_of_lt (Heap.lt_size hx)
  have lc : PySem.W.Looks (model prog w) hp (classData C) cd := PySem.W.looks_clsIn X hc
  refine PySem.W.osa_openX (r := none) SF X inst ho (by unfold PySem.W.takerIn; rw [hf]; rfl) fun b => ?_
  dsimp only
  obtain ⟨n1, n2, n3, n4, n5, n6, n7, n8, n9, n10, n11⟩ := cd
  dsimp only at hd
  subst hd
  unfold storeInOwnDict ownDictForStores
  repeat (first | with_reducible refine PySem.HandSPX.store_in_new ?_ ?_ | with_reducible refine wpAny_loadPart_at hx ?_ | with_reducible refine lc.at ?_ | wp_step)
  · exact ⟨_, #[], _, (Heap.get?_update_ne _ _ _ _ far.symm).trans (Heap.get?_push_at rfl rfl), rfl, fun e he => absurd he (by simp), fun _ => rfl⟩
  · intro h' tk' hn hs
    have hx1 : (hp.push { cls := .type "dict", data := .dict #[] }).get? x = some { cls := .ref C, data := .fields fv } := Heap.get?_push_of_some _ hx
    refine post h' tk' hp.objs.size (fun b o hb hob => ?_) (Nat.le_refl _) far.symm ?_ hn
    · have e1 := hs.2 b (Nat.ne_of_lt (Heap.lt_size hob))
      rw [e1, Heap.get?_update_ne _ _ _ _ hb]
      exact Heap.get?_push_of_some _ hob
    · rw [hs.2 x far]
      exact Heap.get?_update_self _ hx1 rfl
end

section
variable {X : Cx} {pins : List (Addr × Obj)} {σ : L2.St} {H : Hp} {s : Shared} {a C dx : Addr} {f : Str} {y : V} {u : Value} {Q : Unit → Shared → Prop} {E : Value → Shared → Prop} {A : Around} {B : String} {bmB : List Value} {nid iid : String}
/-- self.f = y, the first store -/
theorem put_first (SF : StoreFacts B bmB "object.__setattr__" "object") (T : Gx X.K C bmB nid) (I : Inv X pins σ H s) (e : H a = some (exo a C none)) (hno : PySem.W.findIn X.K (.ref C) f = some none) (ry : RelV y u)
    (post : ∀ dx s', H dx = none → dx ≠ a → Inv X pins σ (upd (upd H dx (exd dx [(f, y)])) a (exo a C (some dx))) s' → Q () s') : wpAny (model X.prog X.w) A (setAttr (.ref a) f u) Q E s := by
  obtain ⟨cd, hcd, hdd⟩ := T.hasd
  obtain ⟨t1, at1⟩ := exo_at I.hok e
  obtain ⟨hp, g, d, t, os⟩ := s
  refine PySem.W.set_plain I.kIn (ox := { cls := .ref C, dict := none, data := .fields #[.ref t1, .none, .none, .none, .bool false, .none] }) (od := none) ⟨at1, rfl, rfl, trivial⟩ T.sets ?_
  refine first_store SF I.kIn at1 T.over hcd hdd hno (fun h' tk' dx kp dn dne hx hn => ?_)
  have fresh : H dx = none := I.hok.fresh dn
  have old : ∀ {b : Addr} {o : Obj}, hp.get? b = some o → b ≠ dx := fun {b o} q => Nat.ne_of_lt (Nat.lt_of_lt_of_le (Heap.lt_size q) dn)
  have other : ∀ {b : Addr}, H b = none → b ≠ a := fun {b} n z => by
    rw [z, e] at n
    cases n
  have un : Un X.fs [] H (upd (upd H dx (exd dx [(f, y)])) a (exo a C (some dx))) hp h' := {
    keep := fun b o q n _ _ => kp b o (other n) q
    slot := fun b o q n _ _ => ⟨o.slots, kp b o (other n) q⟩
    free := fun b o q n _ => by rw [upd_ne (other n), upd_ne (old q)]; exact n
    there := fun b o q _ => by
      by_cases hb : b = a
      · exact ⟨_, hb ▸ hx⟩
      · exact ⟨o, kp b o hb q⟩
    tups := fun b xs q => by rw [upd_ne (at_ne e q exo_tup), upd_ne (ne_of_none q fresh)]; exact q
    frzs := fun b o v q => by rw [upd_ne (at_ne e q exo_frz), upd_ne (ne_of_none q fresh)]; exact q
    tbls := fun b ps q => ⟨#[], by rw [upd_ne (at_ne e q exo_tbl), upd_ne (ne_of_none q fresh), q]; simp⟩ }
  refine post dx _ fresh dne (I.un (t' := tk') un fun b o q => ?_)
  by_cases hb : b = a
  · subst hb
    rw [upd_same] at q
    cases q
    exact exo_ok hx
  · rw [upd_ne hb] at q
    by_cases hd : b = dx
    · subst hd
      rw [upd_same] at q
      cases q
      exact exd_ok hn (relO_put (fs := []) ry fun g => True.intro)
    · rw [upd_ne hd] at q
      refine (I.hok b o q).stay (fun c v hc z => kp c v ?_ z) (fun c hc => ?_) (fun c xs hc => ?_)
      · rcases hc with hc | hc
        · exact hc ▸ hb
        · exact at_ne e hc exo_own
      · rw [upd_ne (at_ne e hc exo_own), upd_ne (ne_of_none hc fresh)]; exact hc
      · rw [upd_ne (at_ne e hc exo_tup), upd_ne (ne_of_none hc fresh)]; exact hc
/-- Base.__init__(self, ..) -/
theorem base_init {us : List Value} {Q : Value → Shared → Prop} (FB : ExcBaseFacts B nid iid bmB) (T : Gx X.K C bmB nid) (I : Inv X pins σ H s) (e : H a = some (exo a C none)) (hl : us.length ≤ sizeLine) (post : ∀ s', Inv X pins σ H s' → Q .none s') :
    wpAny (model X.prog X.w) A (call (.builtin iid) (.ref a :: us)) Q E s := by
  obtain ⟨nm, N, qn, bs, bm, hdct, sn, sub, ab, col, dd, k0, k1, k2, k3, k5, hC, hT⟩ := PySem.W.excInit_of I.kIn T.made
  obtain ⟨t1, at1⟩ := exo_at I.hok e
  obtain ⟨hp, g, d, t, os⟩ := s
  refine wpAny_call (PySem.HandSPX.init_base FB hT hC at1 hl fun h' t2 kp hx => ?_)
  have J := I.write (t' := t) (x := a) (e := a) (o := exo a C none) (by rw [e]; exact True.intro) (.inl rfl) kp ⟨_, hx⟩ (exo_ok hx)
  have same : upd H a (exo a C none) = H := funext fun b => by
    by_cases hb : b = a
    · rw [hb, upd_same, e]
    · rw [upd_ne hb]
  rw [same] at J
  exact post _ J
end

/-! ### readings and rules -/
/-- Base.__init__(self, ..) -/
def tBi (K : PySem.W.Frag) (bmB : List Value) (nid : String) (ta : TA) : TE := fun σ H Q => ta σ H fun vs H1 => ∃ (a C : Addr) (ws : List V), vs = .ref a :: ws ∧ ws.length ≤ 1000 ∧ Gx K C bmB nid ∧ H1 a = some (exo a C none) ∧ Q .non H1
/-- self.f = e, the first one -/
def tPf (K : PySem.W.Frag) (bmB : List Value) (nid : String) (f : Str) (to te : TE) : TS := fun D σ H => te σ H fun y H1 => to σ H1 fun x H2 => ∃ a C : Addr, x = .ref a ∧ Gx K C bmB nid ∧ PySem.W.findIn K (.ref C) f = some none ∧
  H2 a = some (exo a C none) ∧ ∀ dx, H2 dx = none → dx ≠ a → D.nx σ (upd (upd H2 dx (exd dx [(f, y)])) a (exo a C (some dx)))
section
variable {X : Cx} {o e : Expr} {es : List Expr} {to te : TE} {ta : TA} {f : Str} {p p' p1 p2 pos : Pos} {B nid iid : String} {bmB : List Value} {x : Str}
theorem pe_bi {pl : Sem Bool} (FB : ExcBaseFacts B nid iid bmB) (hg : Gl X x) (hm : X.mg x = none) (hv : bootBuiltins x = some (.type B)) (ty : typeOf (.type B) = pure (.type "type"))
    (vV : PySem.W.findCls X.K (.type B) (.type "type") "__init__" = some (.val (.builtin iid))) (hb : PySem.W.handedIn (.builtin iid) = true) (hst : Manifest.isStub B = false) (ha : PA X (e :: es) ta)
    (hc : eval (.Call (.Attribute (.Name x p1) "__init__" p2) (e :: es) [] pos) X.env = (do
      let ov ← eval (.Name x p1) X.env
      standAt p2.atName
      let (f, first) ← holding [ov] (getMethod ov "__init__" pl)
      callWith pos f first (backTo pos (starEach (e :: es) X.env)) (backToKw pos (keywordEach [] X.env))) := by rfl)
    (hn : x ≠ "__name__" := by decide) (hd : (x == ("__debug__" : Str)) = false := by decide)
    (he : starEach (e :: es) X.env = (false, eval e X.env) :: starEach es X.env := by rfl) (hpl : (backTo pos (starEach es X.env)).any (·.1) = false := by rfl) :
    PE X (.Call (.Attribute (.Name x p1) "__init__" p2) (e :: es) [] pos) (tBi X.K bmB nid ta) := by
  refine ⟨fun pins s σ H Q I h => ?_⟩
  refine PySem.W.methodCall_KW (ld_blt I hg hm hv ?_ hn hd) hc
  obtain ⟨m, fr⟩ := I.fr
  refine PySem.W.method_type fr I.ok.mod.kin ty hst vV hb ?_
  show wpAny _ _ (callWith pos (Value.builtin iid) [] (backTo pos (starEach (e :: es) X.env)) []) _ _ _
  refine PyProof.Rows.callWith_method1 (thn (ha.run pos pins _ σ H _ (I.tok _) h) fun us s1 hh => ?_) he hpl
  obtain ⟨vs, H1, I1, r1, a, C, ws, ev, hl, T, ea, q⟩ := hh
  subst ev
  cases r1 with
  | @cons _ u0 _ ur ra rw' =>
    obtain rfl : u0 = Value.ref a := ra
    have hlen : ur.length ≤ sizeLine := by
      have := Paired.length rw'
      rw [sizeLine_eq]
      omega
    exact base_init FB T I1 ea hlen fun s' J => ⟨.non, H1, J, rfl, q⟩
theorem ps_pf (SF : StoreFacts B bmB "object.__setattr__" "object") (ho : PE X o to) (he : PE X e te) (hs : swapsWith e (some (.Attribute o f p')) pos.line X.env = pure false := by rfl) : PS X (.Assign [.Attribute o f p'] e pos) (tPf X.K bmB nid f to te) := by
  refine ⟨fun pins s σ H D I h => ?_⟩
  refine plainObj_wpAny_Assign_Attribute (thn (he.run pins s σ H _ I h) fun v s1 h1 => ?_) hs
  obtain ⟨y, H1, I1, r1, q1⟩ := h1
  refine thn (ho.run pins s1 σ H1 _ I1 q1) fun u s2 h2 => ?_
  obtain ⟨z, H2, I2, r2, a, C, ex, T, hno, ea, q⟩ := h2
  subst ex
  obtain rfl : u = Value.ref a := r2
  exact put_first SF T I2 ea hno r1 fun dx s' n ne J => ⟨σ, _, J, q dx n ne⟩
/-- C(e, ..) as what is raised, C's own __init__ keeping sp -/
theorem pmk_gx {CX : CXT} {C fI : Addr} {k : Nat} {fd : FuncData} {ps : List Str} {sp : Sp} {ds : List Value} {dvs : List V} (FB : ExcBaseFacts B nid iid bmB) (T : Gx X.K C bmB nid) (iC : PySem.W.findIn X.K (.ref C) "__init__" = some (some (.ref fI)))
    (tI : PySem.W.typeIn X.K (.ref fI) = some (.type "function"))
    (F1 : FnOk X.prog X.w X.K X.mg X.base CX k fI fd ps sp) (hr : Room (k + 1) X.A) (hb : Binds X.K fd ps ds) (hd : Vals dvs ds) (hx : Passes CX X (fun _ _ _ => False)) (hg : Gl X x) (hm : X.mg x = some (.ref C)) (ha : PA X (e :: es) ta)
    (hdb : (x == ("__debug__" : Str)) = false := by decide) (he : starEach (e :: es) X.env = (false, eval e X.env) :: starEach es X.env := by rfl) (hpl : (backTo pos (starEach es X.env)).any (·.1) = false := by rfl) :
    PMk X (.Call (.Name x p) (e :: es) [] pos) (tMkO C sp dvs ta) := by
  intro pins s σ H Q I h
  refine wpAny_Call_Name_kw (ld_glob I hg hm ?_ hdb)
  refine PySem.W.callWith_K (h₀ := X.base) I.ok.mod.kin T.keep (thn (ha.run pos pins s σ H _ I h) fun us s1 hh => ?_) he hpl
  obtain ⟨vs, H1, I1, r1, hz, q1⟩ := hh
  refine ⟨I1.kIn, ?_⟩
  show wpAny _ _ (call (.ref C) us) _ _ _
  obtain ⟨nm, N, qn, bs, bm, hdct, sn, sub, ab, col, dd, k0, k1, k2, k3, k5, hC, hT⟩ := PySem.W.excInit_of I1.kIn T.made
  obtain ⟨hp, g, dr, tk, os⟩ := s1
  have big : hp.objs.size ≤ hp.objs.size + 1 := Nat.le_succ _
  have hq := q1 (hp.objs.size + 1) (I1.hok.fresh big)
  have kk : ∀ b o, hp.get? b = some o → ((hp.push (PySem.W.kdv_tup us)).push (PySem.HandSPX.excO C hp.objs.size)).get? b = some o := fun b o z =>
    Heap.get?_push_of_some _ (Heap.get?_push_of_some _ z)
  have there : ((hp.push (PySem.W.kdv_tup us)).push (PySem.HandSPX.excO C hp.objs.size)).get? (hp.objs.size + 1) = some (PySem.HandSPX.excO C hp.objs.size) := by heap_get
  have I2 := I1.laid (t' := tk) (a := hp.objs.size + 1) (o := exo (hp.objs.size + 1) C none) (h' := (hp.push (PySem.W.kdv_tup us)).push (PySem.HandSPX.excO C hp.objs.size)) kk big (exo_ok there)
  have r2 : Vals (V.ref (hp.objs.size + 1) :: (vs ++ dvs)) (Value.ref (hp.objs.size + 1) :: (us ++ ds)) := .cons rfl (r1.append hd)
  have hl : (Value.ref (hp.objs.size + 1) :: us ++ ds).length = ps.length := by
    have e1 := r2.length
    rw [F1.len _ _ _ _ hq] at e1
    exact e1.symm
  have few : us.length ≤ sizeLine := by
    have := Paired.length r1
    rw [sizeLine_eq]
    omega
  refine wpAny_call (PySem.HandSPX.call_own FB hT hC (PySem.W.looks_findIn I1.kIn iC) (fun self => PySem.W.bind_fn I1.kIn self tI) few (codeAny_mono
    (F1.run _ X.stack _ _ ⟨Value.ref (hp.objs.size + 1) :: us, []⟩ (Value.ref (hp.objs.size + 1) :: (us ++ ds)) _ _ (fun _ _ _ => False) (hr.make C us []) (I2.env0.make C us []) (hb _ (Value.ref (hp.objs.size + 1) :: us) I2.kIn hl) r2 hq) fun r s' hq' => ?_))
  cases r with
  | error er => exact hx pins σ _ _ er s' I2 hq'
  | ok fl =>
    cases fl with
    | ret u =>
      obtain ⟨v, H2, os2, bare2, un2, hok2, rv, ev, d, fs, ea, ed, hd1, q2⟩ := hq'
      subst ev
      obtain ⟨h2, g2, d2, t2, os'⟩ := s'
      exact ⟨rv, mk_end (raises_own T.base T.typ) I1 big kk un2 hok2 os2 bare2 ea ed hd1 q2⟩
    | next => exact False.elim hq'
    | brk => exact False.elim hq'
    | cont => exact False.elim hq'
end
/-! ### the head's look at such a class -/
def hasDB (K : PySem.W.Frag) (C : Addr) : Bool := match PySem.W.clsIn K C with
  | some cd => cd.hasDict
  | none => false
/-- Base.__init__, read off the class Base -/
def vvB (K : PySem.W.Frag) (B iid : String) : Bool := match PySem.W.findCls K (.type B) (.type "type") "__init__" with
  | some (.val (.builtin n)) => n == iid
  | _ => false
theorem vvB_ok {K : PySem.W.Frag} {B iid : String} (h : vvB K B iid = true) : PySem.W.findCls K (.type B) (.type "type") "__init__" = some (.val (.builtin iid)) := by
  unfold vvB at h
  split at h
  · rename_i n e
    rw [e, eq_of_beq h]
  · cases h
/-- what isinstance asks of an own class -/
def isB (K : PySem.W.Frag) (C : Addr) : Bool := He.eqO (PySem.W.findIn K (.ref C) "__class__") (some (some (.builtin "object.__class__"))) && (He.eqO (PySem.W.specialIn K (.builtin "object.__class__") "__get__") (some (some (.builtin "getset_descriptor.__get__"))) &&
  (decide (PySem.W.takesIn K (.builtin "object.__class__") = some true) && decide (PySem.W.mroIn K C (.type "object") = some true)))
def gxB (K : PySem.W.Frag) (C : Addr) (bmB : List Value) (nid : String) : Bool := PySem.W.excOver K C bmB && (PySem.W.excInitIn K C bmB nid && (hasDB K C &&
  (He.eqO (PySem.W.findIn K (.ref C) "__setattr__") (some (some (.builtin "object.__setattr__"))) && (decide (PySem.W.subIn K (.ref C) (.type "BaseException") = some true) &&
  (decide (PySem.W.typeIn K (.ref C) = some (.type "type")) && PySem.W.keepIn K (.ref C))))))
theorem gxB_ok {K : PySem.W.Frag} {C : Addr} {bmB : List Value} {nid : String} (h : gxB K C bmB nid = true) : Gx K C bmB nid := by
  unfold gxB at h
  simp only [Bool.and_eq_true, decide_eq_true_eq] at h
  obtain ⟨h1, h2, h3, h4, h5, h6, h7⟩ := h
  refine ⟨h1, h2, ?_, He.eqO_ok h4, h5, h6, h7⟩
  unfold hasDB at h3
  split at h3
  · rename_i cd e
    exact ⟨cd, e, h3⟩
  · cases h3
end GX
set_option linter.all false
namespace KM
/-- the signed common part -/
def sg (t b : Int) : Int := if b < 0 then -(Int.gcd t b : Int) else (Int.gcd t b : Int)
/-- a fraction in lowest terms -/
def low (t b : Int) : Int × Int := (t.fdiv (sg t b), b.fdiv (sg t b))
theorem gcd_pos {t b : Int} (h : b ≠ 0) : 0 < Int.gcd t b := Int.gcd_pos_of_ne_zero_right t h
theorem sg_ne {t b : Int} (h : b ≠ 0) : sg t b ≠ 0 := by
  have := gcd_pos (t := t) h
  unfold sg
  split <;> omega
theorem sg_dvd_left (t b : Int) : sg t b ∣ t := by
  unfold sg
  split
  · exact Int.neg_dvd.mpr (Int.gcd_dvd_left ..)
  · exact Int.gcd_dvd_left ..
theorem sg_dvd_right (t b : Int) : sg t b ∣ b := by
  unfold sg
  split
  · exact Int.neg_dvd.mpr (Int.gcd_dvd_right ..)
  · exact Int.gcd_dvd_right ..
theorem low_top {t b : Int} : sg t b * (low t b).1 = t := by
  show sg t b * t.fdiv (sg t b) = t
  rw [Int.fdiv_eq_ediv_of_dvd (sg_dvd_left t b)]
  exact Int.mul_ediv_cancel' (sg_dvd_left t b)
theorem low_bot {t b : Int} : sg t b * (low t b).2 = b := by
  show sg t b * b.fdiv (sg t b) = b
  rw [Int.fdiv_eq_ediv_of_dvd (sg_dvd_right t b)]
  exact Int.mul_ediv_cancel' (sg_dvd_right t b)
theorem sg_abs (t b : Int) : (sg t b).natAbs = Int.gcd t b := by
  unfold sg
  split <;> simp
theorem low_pos {t b : Int} (h : b ≠ 0) : 0 < (low t b).2 := by
  have e := low_bot (t := t) (b := b)
  have g := gcd_pos (t := t) h
  by_cases hb : b < 0
  · have hs : sg t b < 0 := by unfold sg; rw [if_pos hb]; omega
    refine Int.lt_of_not_ge fun hc => ?_
    have := Int.mul_nonneg_of_nonpos_of_nonpos (Int.le_of_lt hs) hc
    omega
  · have hs : 0 < sg t b := by unfold sg; rw [if_neg hb]; omega
    refine Int.lt_of_not_ge fun hc => ?_
    have := Int.mul_nonpos_of_nonneg_of_nonpos (Int.le_of_lt hs) hc
    omega
theorem low_cop {t b : Int} (h : b ≠ 0) : Int.gcd (low t b).1 (low t b).2 = 1 := by
  have e : Int.gcd (sg t b * (low t b).1) (sg t b * (low t b).2) = (sg t b).natAbs * Int.gcd (low t b).1 (low t b).2 := Int.gcd_mul_left ..
  rw [low_top, low_bot, sg_abs] at e
  have g := gcd_pos (t := t) h
  have : Int.gcd t b * Int.gcd (low t b).1 (low t b).2 = Int.gcd t b * 1 := by omega
  exact Nat.eq_of_mul_eq_mul_left g this
theorem low_id {t b : Int} (hb : 0 < b) (h : Int.gcd t b = 1) : low t b = (t, b) := by
  have e : sg t b = 1 := by unfold sg; rw [if_neg (by omega), h]; rfl
  unfold low
  rw [e]
  simp
theorem low_low {t b : Int} (h : b ≠ 0) : low (low t b).1 (low t b).2 = low t b := low_id (low_pos h) (low_cop h)
/-- the bottom stays: nothing is taken out -/
theorem low_same {t b : Int} (hb : 0 < b) (h : (low t b).2 = b) : low t b = (t, b) := by
  have e := low_bot (t := t) (b := b)
  rw [h] at e
  have e1 : sg t b * b = 1 * b := by omega
  have e2 := Int.eq_of_mul_eq_mul_right (Int.ne_of_gt hb) e1
  have e3 := low_top (t := t) (b := b)
  rw [e2] at e3
  refine Prod.ext ?_ h
  show (low t b).1 = t
  omega
theorem dvd_le {x y : Int} (h : x * y ≠ 0) : y.natAbs ≤ (x * y).natAbs := by
  rw [Int.natAbs_mul]
  have : x ≠ 0 := fun z => h (by rw [z, Int.zero_mul])
  exact Nat.le_mul_of_pos_left _ (by omega)
theorem low_top_le {t b : Int} (h : b ≠ 0) : (low t b).1.natAbs ≤ t.natAbs := by
  by_cases ht : t = 0
  · subst ht
    have e := low_top (t := 0) (b := b)
    rcases Int.mul_eq_zero.mp e with z | z
    · exact absurd z (sg_ne h)
    · rw [z]; exact Nat.le_refl _
  · have e := low_top (t := t) (b := b)
    have := dvd_le (x := sg t b) (y := (low t b).1) (by omega)
    rw [e] at this
    exact this
theorem low_bot_le {t b : Int} (h : b ≠ 0) : (low t b).2.natAbs ≤ b.natAbs := by
  have e := low_bot (t := t) (b := b)
  have := dvd_le (x := sg t b) (y := (low t b).2) (by omega)
  rw [e] at this
  exact this
theorem sg_le {t b : Int} (h : b ≠ 0) : (sg t b).natAbs ≤ b.natAbs := by
  have e := low_bot (t := t) (b := b)
  have := dvd_le (x := (low t b).2) (y := sg t b) (by rw [Int.mul_comm]; omega)
  rw [Int.mul_comm, e] at this
  exact this
/-- Euclid's turn over whole numbers from 0 on -/
theorem gcd_turn {a b : Int} (ha : 0 ≤ a) (hb : 0 < b) : Int.gcd b (a % b) = Int.gcd a b := by
  obtain ⟨m, rfl⟩ := Int.eq_ofNat_of_zero_le ha
  obtain ⟨n, rfl⟩ := Int.eq_ofNat_of_zero_le (Int.le_of_lt hb)
  show Nat.gcd (Int.natAbs (n : Int)) (Int.natAbs ((m : Int) % (n : Int))) = Nat.gcd (Int.natAbs (m : Int)) (Int.natAbs (n : Int))
  rw [← Int.natCast_emod, Int.natAbs_natCast, Int.natAbs_natCast, Int.natAbs_natCast, Nat.gcd_comm n, Nat.gcd_comm m n]
  exact (Nat.gcd_rec n m).symm
theorem gcd_succ (a : Int) : Int.gcd a (a + 1) = 1 := by
  have : Int.gcd (a + 1) a = Int.gcd 1 a := by
    rw [Int.add_comm, Int.gcd_add_self_left]
  rw [Int.gcd_comm, this, Int.gcd_comm]
  simp
end KM
set_option Elab.async false
set_option linter.all false
set_option maxRecDepth 100000
set_option maxHeartbeats 4000000
namespace K03
open PySem PySem.Spec PyProof.Rows L2
/-- a def of the text -/
abbrev Dn (K : PySem.W.Frag) (d : He.DefD) (f : Addr) (fd : FuncData) : Prop := FunD K d.name d.qual d.params d.body d.scope (d.dvs K) (d.kws K) f fd
/-- what the module's names are -/
structure Bl (mg : Str → Option Value) : Prop where
  isi : mg "isinstance" = none
  int : mg "int" = none
  bool : mg "bool" = none
  abs : mg "abs" = none
  list : mg "list" = none
  range : mg "range" = none
  len : mg "len" = none
theorem op_fdW {X : Cx} : OpR X (binaryOp .FloorDiv) (rI (fun _ j => j ≠ 0 ∧ j.natAbs.log2 < 9000) fun i j => .int (i.fdiv j)) := opI fun _ _ _ _ _ _ _ hc q => floordiv_int hc.1 q (.inl (PyProof.noPylong_of_log2 hc.2))
/-- the fields of a Share -/
def shF (q : Int × Int) : List (Str × V) := putF "bottom" (.int q.2) (putF "top" (.int q.1) [])
theorem tb : ¬ (("top" : Str) = "bottom") := by decide +kernel
theorem shF_top (q : Int × Int) : (shF q).lookup ("top" : Str) = some (.int q.1) := by
  unfold shF
  rw [lookup_putF, if_neg tb, lookup_putF, if_pos rfl]
theorem shF_bot (q : Int × Int) : (shF q).lookup ("bottom" : Str) = some (.int q.2) := by
  unfold shF
  rw [lookup_putF, if_pos rfl]
theorem shF_no (q : Int × Int) {m : Str} (h1 : ¬ m = "bottom") (h2 : ¬ m = "top") : (shF q).lookup m = none := by
  unfold shF
  rw [lookup_putF, if_neg h1, lookup_putF, if_neg h2]
  all_goals rfl
/-- a Share stands at p -/
def Sh (C : Addr) (H : Hp) (p : Addr) (q : Int × Int) : Prop := ∃ dx, H p = some (.ins C dx (shF q))
/-- small enough, the bottom above nought -/
def Bd (n : Nat) (q : Int × Int) : Prop := q.1.natAbs < 2 ^ n ∧ 0 < q.2 ∧ q.2.natAbs < 2 ^ n
theorem Sh.keep {C : Addr} {H H' : Hp} {p : Addr} {q : Int × Int} (s : Same H H') (h : Sh C H p q) : Sh C H' p q := let ⟨dx, e⟩ := h; ⟨dx, s _ _ e⟩
theorem log_lt {j : Int} {n : Nat} (h : j.natAbs < 2 ^ n) (h0 : 0 < n) (h9 : n ≤ 9000) : j.natAbs.log2 < 9000 := Nat.lt_of_lt_of_le (PySem.Flt.log2_lt_of h0 h) h9
/-- what is known of the class -/
structure Cl (K : PySem.W.Frag) (mg : Str → Option Value) (C : Addr) : Prop where
  cl : Cls K C
  nt : NoAttr K C "top"
  nb : NoAttr K C "bottom"
  g : mg "Share" = some (.ref C)
section
variable {P : Program} {w : World} {K : PySem.W.Frag} {mg : Str → Option Value} {base : Heap} {f C : Addr} {fd : FuncData}

def spWhole : Sp := fun vs H Q _ => ∃ n : Int, vs = [.int n] ∧ Q (.bl true) H
theorem ok_whole (F : Dn K d_is_whole f fd) (b : Bl mg) : FnOk P w K mg base CX0 1 f fd ["thing"] spWhole := by
  refine F.ok sc_is_whole (fun vs H Q E h => ?_) (fun cdv A outer s H vs Q E hr h => ?_)
  · obtain ⟨n, rfl, _⟩ := h
    rfl
  · obtain ⟨n, rfl, hQ⟩ := h
    refine ⟨_, PSs.nox (pss_one (ps_ret (pe_and
      (pe_callB call_isi rfl b.isi boot_isinstance (pa_cons (pv 0) (pa_cons (pe_bltn (v := .ty "int") rfl b.int boot_int rfl) pa_nil)))
      (pe_one (pe_not (pe_callB call_isi rfl b.isi boot_isinstance (pa_cons (pv 0) (pa_cons (pe_bltn (v := .ty "bool") rfl b.bool boot_bool rfl) pa_nil)))))))), ?_⟩
    refine ⟨_, rfl, _, _, _, _, true, rfl, ClsV.ty _, TyX.base (TyOf.int n), kit_ty (by decide +kernel), true, rfl, ?_⟩
    refine iteT ?_
    exact ⟨_, rfl, _, _, _, _, false, rfl, ClsV.ty _, TyX.base (TyOf.int n), kit_ty (by decide +kernel), false, rfl, hQ⟩
def spGcd : Sp := fun vs H Q _ => ∃ x y : Int, vs = [.int x, .int y] ∧ Q (.int (Int.gcd x y : Int)) H
theorem abs_eq (x : Int) : (if x < 0 then -x else x) = (x.natAbs : Int) := by split <;> omega
theorem ok_gcd (F : Dn K d_common_part f fd) (b : Bl mg) : FnOk P w K mg base CX0 1 f fd ["one", "other"] spGcd := by
  refine F.ok sc_common_part (fun vs H Q E h => ?_) (fun cdv A outer s H vs Q E hr h => ?_)
  · obtain ⟨x, y, rfl, _⟩ := h
    rfl
  · obtain ⟨x, y, rfl, hQ⟩ := h
    refine ⟨_, PSs.nox (pss_cons (ps_set (i := 0) sc_common_part.nd rfl (.inl rfl) (pe_callB call_abs rfl b.abs boot_abs (pa_cons (pv 0) pa_nil)))
      (pss_cons (ps_set (i := 1) sc_common_part.nd rfl (.inl rfl) (pe_callB call_abs rfl b.abs boot_abs (pa_cons (pv 1) pa_nil)))
      (pss_cons (ps_while PassesOwn.never (pt_cmpR op_ne (pv 1) pe_int (nomark _)) (pss_one (ps_par (i := 0) (j := 1) rfl sc_common_part.nd rfl rfl (by decide) rfl rfl (pa_cons (pv 1) (pa_cons (pe_op op_mod (pv 0) (pv 1)) pa_nil)) rfl)))
      (pss_one (ps_ret (pv 0)))))), ?_⟩
    refine ⟨_, rfl, _, rfl, _, rfl, _, rfl, while_by (fun σ H2 => H2 = H ∧ ∃ a c : Int, σ = [some (.int a), some (.int c)] ∧ 0 ≤ a ∧ 0 ≤ c ∧ Int.gcd a c = Int.gcd x y)
      (fun σ _ => match σ with | [_, some (.int c)] => c.toNat | _ => 0) ⟨rfl, _, _, rfl, ?_, ?_, ?_⟩ ?_ ?_⟩
    · split <;> omega
    · split <;> omega
    · rw [abs_eq, abs_eq]
      rfl
    · rintro σ H2 ⟨rfl, a, c, rfl, ha, hc, hg⟩
      refine ⟨_, rfl, rfl, _, rfl, ?_⟩
      by_cases h0 : c = 0
      · subst h0
        refine iteNS rfl ?_
        refine ⟨_, rfl, ?_⟩
        have e : Int.gcd x y = a.natAbs := by rw [← hg]; simp
        have e2 : (Int.gcd x y : Int) = a := by omega
        rw [e2] at hQ
        exact hQ
      · have hne : (!decide (V.int c = V.int 0)) = true := by simp [h0]
        rw [hne]
        refine iteT ?_
        have hp : 0 < c := by omega
        refine ⟨_, rfl, _, rfl, _, rfl, _, _, rfl, rfl, hp, _, _, rfl, ⟨rfl, _, _, rfl, hc, Int.emod_nonneg _ h0, ?_⟩, ?_⟩
        · rw [KM.gcd_turn ha hp, hg]
        · show (a % c).toNat < c.toNat
          have h1 := Int.emod_nonneg a h0
          have h2 := Int.emod_lt_of_pos a hp
          omega
    · rintro σ H2 Q1 Q2 hm ⟨v, hv, h1, k, hk, q⟩
      exact ⟨v, hv, h1, k, hk, hm _ _ q⟩
end
end K03
set_option Elab.async false
set_option linter.all false
set_option maxRecDepth 100000
set_option maxHeartbeats 4000000
namespace K03
open PySem PySem.Spec PyProof.Rows L2
open C8 (Cal Mak Met pe_c pe_mk pe_mt pe_mt0)
section
variable {P : Program} {w : World} {K : PySem.W.Frag} {mg : Str → Option Value} {base : Heap} {f C : Addr} {fd : FuncData}
abbrev CalW (P : Program) (w : World) (K : PySem.W.Frag) (mg : Str → Option Value) (base : Heap) : Prop := Cal P w K mg base 1 "is_whole" spWhole []
abbrev CalG (P : Program) (w : World) (K : PySem.W.Frag) (mg : Str → Option Value) (base : Heap) : Prop := Cal P w K mg base 1 "common_part" spGcd []
/-- __init__: a Share in lowest terms -/
def spInit (C : Addr) : Sp := fun vs H Q _ => ∃ (p dx : Addr) (t b : Int) (n : Nat), vs = [.ref p, .int t, .int b] ∧ b ≠ 0 ∧ b.natAbs < 2 ^ n ∧ 0 < n ∧ n ≤ 9000 ∧ H p = some (.ins C dx []) ∧
  ∀ H', (∀ a o, a ≠ p → H a = some o → H' a = some o) → H' p = some (.ins C dx (shF (KM.low t b))) → Q .non H'
theorem ok_init (F : Dn K d_Share_init f fd) (cW : CalW P w K mg base) (cG : CalG P w K mg base) (T : Cl K mg C) : FnOk P w K mg base CX0 2 f fd ["self", "top", "bottom"] (spInit C) := by
  refine F.ok sc_Share_init (fun vs H Q E h => ?_) (fun cdv A outer s H vs Q E hr h => ?_)
  · obtain ⟨p, dx, t, b, n, rfl, _⟩ := h
    rfl
  · obtain ⟨p, dx, t, b, n, rfl, hb, hn, hn0, hn9, hp, hQ⟩ := h
    refine ⟨_, PSs.nox (pss_cons (ps_for PassesOwn.never rfl (pi_tup (pe_tup (pa_cons (pv 1) (pa_cons (pv 2) pa_nil)))) (pg_name (i := 3) sc_Share_init.nd rfl (.inl rfl))
        (pss_one (ps_if (pt_not (pt_val (pe_c cW hr (by decide) rfl (pa_cons (pv 3) pa_nil)))) pss_never pss_nil)))
      (pss_cons (ps_if (pt_cmpR op_eq (pv 2) pe_int (nomark _)) pss_never pss_nil)
      (pss_cons (ps_set (i := 4) sc_Share_init.nd rfl (.inl rfl) (pe_c cG hr (by decide) rfl (pa_cons (pv 1) (pa_cons (pv 2) pa_nil))))
      (pss_cons (ps_if (pt_cmpR op_lt (pv 2) pe_int (nomark _)) (pss_one (ps_set (i := 4) sc_Share_init.nd rfl (.inl rfl) (pe_un un_neg (pv 4)))) pss_nil)
      (pss_cons (ps_fld (pv 0) (pe_op op_fdW (pv 1) (pv 4)) rfl)
      (pss_one (ps_fld (pv 0) (pe_op op_fdW (pv 2) (pv 4)) rfl))))))), ?_⟩
    refine ⟨_, rfl, _, rfl, by show 2 ≤ sizeLine; decide, fun u hu => ?_⟩
    have npu : p ≠ u := ne_of_none hp hu
    refine ⟨u, rfl, ⟨_, SqT.of upd_same⟩, for_tup (K := K) (xs := [.int t, .int b]) (fun i σ H2 => H2 = upd H u (.tup [.int t, .int b]) ∧ ∃ v, σ = [some (.ref p), some (.int t), some (.int b), v, none])
      ⟨rfl, none, rfl⟩ (fun i σ H2 _ h => by rw [h.1]; exact SqT.of upd_same) ?_ ?_⟩
    · rintro i y σ H2 hi ⟨rfl, v, rfl⟩
      have hy : ∃ n : Int, y = .int n := by
        match i, hi with
        | 0, e => exact ⟨t, (Option.some.inj e).symm⟩
        | 1, e => exact ⟨b, (Option.some.inj e).symm⟩
      obtain ⟨n, rfl⟩ := hy
      refine ⟨_, rfl, n, rfl, true, rfl, ?_⟩
      refine iteF ?_
      exact ⟨rfl, _, rfl⟩
    · rintro σ H2 ⟨rfl, v, rfl⟩
      refine ⟨_, rfl, rfl, _, rfl, ?_⟩
      have hb0 : decide (V.int b = V.int 0) = false := by simp [hb]
      rw [hb0]
      refine iteF ?_
      refine ⟨_, rfl, _, rfl, t, b, rfl, ?_⟩
      refine ⟨_, rfl, _, _, rfl, rfl, _, rfl, ?_⟩
      have hs9 : (KM.sg t b).natAbs.log2 < 9000 := log_lt (Nat.lt_of_le_of_lt (KM.sg_le hb) hn) hn0 hn9
      have fin : ∀ c : Int, c = KM.sg t b → ∀ v, tSeq (sFld K (tVar 0) (tOp (rI (fun _ j => j ≠ 0 ∧ j.natAbs.log2 < 9000) fun i j => .int (i.fdiv j)) (tVar 1) (tVar 4)) "top") (sFld K (tVar 0) (tOp (rI (fun _ j => j ≠ 0 ∧ j.natAbs.log2 < 9000) fun i j => .int (i.fdiv j)) (tVar 2) (tVar 4)) "bottom")
          { nx := fun _ H' => Q .non H', rt := Q } [some (.ref p), some (.int t), some (.int b), v, some (.int c)] (upd H u (.tup [.int t, .int b])) := by
        rintro c rfl v
        refine ⟨_, rfl, _, rfl, _, _, rfl, rfl, ⟨KM.sg_ne hb, hs9⟩, _, rfl, p, C, dx, _, rfl, (by rw [upd_ne npu]; exact hp), T.cl, T.nt, (by show 0 < 1000; decide), ?_⟩
        refine ⟨_, rfl, _, rfl, _, _, rfl, rfl, ⟨KM.sg_ne hb, hs9⟩, _, rfl, p, C, dx, _, rfl, upd_same, T.cl, T.nb, (by show 1 < 1000; decide), ?_⟩
        refine hQ _ (fun a o ha e => ?_) upd_same
        rw [upd_ne ha, upd_ne ha, upd_ne (ne_of_none e hu)]
        exact e
      refine ite2 (fun h => ?_) (fun h => ?_)
      · have h' : b < 0 := of_decide_eq_true h
        refine ⟨_, rfl, _, rfl, ?_⟩
        exact fin _ (by unfold KM.sg; rw [if_pos h']) _
      · have h' : ¬ b < 0 := fun z => h (decide_eq_true z)
        exact fin _ (by unfold KM.sg; rw [if_neg h']) _
end
end K03
set_option Elab.async false
set_option linter.all false
set_option maxRecDepth 100000
set_option maxHeartbeats 4000000
namespace K03
open PySem PySem.Spec PyProof.Rows L2
open C8 (Cal Mak Met pe_c pe_mk pe_mt pe_mt0)
section
variable {P : Program} {w : World} {K : PySem.W.Frag} {mg : Str → Option Value} {base : Heap} {f C : Addr} {fd : FuncData}
abbrev MakS (P : Program) (w : World) (K : PySem.W.Frag) (mg : Str → Option Value) (base : Heap) (C : Addr) : Prop := Mak P w K mg base 2 "Share" C (spInit C) []
/-- Share(t, b): what is left to show -/
theorem mk_at {H1 : Hp} {t b : Int} {n : Nat} {Q : VK} (hb : b ≠ 0) (hn : b.natAbs < 2 ^ n) (hn0 : 0 < n) (hn9 : n ≤ 9000)
    (hQ : ∀ r H', Same H1 H' → H1 r = none → Sh C H' r (KM.low t b) → Q (.ref r) H') :
    ∀ x dx, H1 x = none → H1 dx = none → dx ≠ x → spInit C (.ref x :: ([V.int t, V.int b] ++ [])) (upd (upd H1 dx (.own x)) x (.ins C dx [])) (fun v H2 => v = .non ∧ Q (.ref x) H2) E0 := by
  intro x dx nx nd ne
  refine ⟨x, dx, t, b, n, rfl, hb, hn, hn0, hn9, upd_same, fun H' kp hp => ⟨rfl, hQ x H' (fun a o e => ?_) nx ⟨dx, hp⟩⟩⟩
  refine kp a o (ne_of_none e nx) ?_
  rw [upd_ne (ne_of_none e nx), upd_ne (ne_of_none e nd)]
  exact e
theorem mul_pos_ne {a b : Int} (ha : 0 < a) (hb : 0 < b) : a * b ≠ 0 := fun z => by
  have := Int.mul_pos ha hb
  omega
def two (n : Nat) (a b : Int × Int) : Prop := Bd n a ∧ Bd n b ∧ 0 < n ∧ n ≤ 4000

def sp_plus (C : Addr) : Sp := fun vs H Q _ => ∃ (p q : Addr) (a b : Int × Int) (n : Nat), vs = [.ref p, .ref q] ∧ Sh C H p a ∧ Sh C H q b ∧ two n a b ∧
  ∀ r H', Same H H' → H r = none → Sh C H' r (KM.low (a.1 * b.2 + b.1 * a.2) (a.2 * b.2)) → Q (.ref r) H'
theorem ok_plus (F : Dn K d_Share_plus f fd) (M : MakS P w K mg base C) (T : Cl K mg C) : FnOk P w K mg base CX0 4 f fd ["self", "other"] (sp_plus C) := by
  refine F.ok sc_Share_plus (fun vs H Q E h => ?_) (fun cdv A outer s H vs Q E hr h => ?_)
  · obtain ⟨p, q, a, b, n, rfl, _⟩ := h
    rfl
  · obtain ⟨p, q, a, b, n, rfl, ⟨dp, hp⟩, ⟨dq, hq⟩, ⟨ba, bb, hn0, hn9⟩, hQ⟩ := h
    refine ⟨_, PSs.nox (pss_one (ps_ret (pe_mk M hr (by decide) rfl (pa_cons (pe_op op_add (pe_op op_mulW (pe_fld (pv 0) rfl) (pe_fld (pv 1) rfl)) (pe_op op_mulW (pe_fld (pv 1) rfl) (pe_fld (pv 0) rfl)))
      (pa_cons (pe_op op_mulW (pe_fld (pv 0) rfl) (pe_fld (pv 1) rfl)) pa_nil))))), ?_⟩
    refine ⟨_, rfl, p, C, dp, _, _, rfl, hp, T.cl, T.nt, shF_top a, _, rfl, q, C, dq, _, _, rfl, hq, T.cl, T.nb, shF_bot b, _, _, rfl, rfl, wide_mul ba.1 bb.2.2 hn0 hn0 (by omega), ?_⟩
    refine ⟨_, rfl, q, C, dq, _, _, rfl, hq, T.cl, T.nt, shF_top b, _, rfl, p, C, dp, _, _, rfl, hp, T.cl, T.nb, shF_bot a, _, _, rfl, rfl, wide_mul bb.1 ba.2.2 hn0 hn0 (by omega), _, _, rfl, rfl, ?_⟩
    refine ⟨_, rfl, p, C, dp, _, _, rfl, hp, T.cl, T.nb, shF_bot a, _, rfl, q, C, dq, _, _, rfl, hq, T.cl, T.nb, shF_bot b, _, _, rfl, rfl, wide_mul ba.2.2 bb.2.2 hn0 hn0 (by omega), ?_⟩
    exact mk_at (n := n + n) (mul_pos_ne ba.2.1 bb.2.1) (wide_lt ba.2.2 bb.2.2) (by omega) (by omega) hQ

def sp_less (C : Addr) : Sp := fun vs H Q _ => ∃ (p q : Addr) (a b : Int × Int) (n : Nat), vs = [.ref p, .ref q] ∧ Sh C H p a ∧ Sh C H q b ∧ two n a b ∧
  ∀ r H', Same H H' → H r = none → Sh C H' r (KM.low (a.1 * b.2 - b.1 * a.2) (a.2 * b.2)) → Q (.ref r) H'
theorem ok_less (F : Dn K d_Share_less f fd) (M : MakS P w K mg base C) (T : Cl K mg C) : FnOk P w K mg base CX0 4 f fd ["self", "other"] (sp_less C) := by
  refine F.ok sc_Share_less (fun vs H Q E h => ?_) (fun cdv A outer s H vs Q E hr h => ?_)
  · obtain ⟨p, q, a, b, n, rfl, _⟩ := h
    rfl
  · obtain ⟨p, q, a, b, n, rfl, ⟨dp, hp⟩, ⟨dq, hq⟩, ⟨ba, bb, hn0, hn9⟩, hQ⟩ := h
    refine ⟨_, PSs.nox (pss_one (ps_ret (pe_mk M hr (by decide) rfl (pa_cons (pe_op op_sub (pe_op op_mulW (pe_fld (pv 0) rfl) (pe_fld (pv 1) rfl)) (pe_op op_mulW (pe_fld (pv 1) rfl) (pe_fld (pv 0) rfl)))
      (pa_cons (pe_op op_mulW (pe_fld (pv 0) rfl) (pe_fld (pv 1) rfl)) pa_nil))))), ?_⟩
    refine ⟨_, rfl, p, C, dp, _, _, rfl, hp, T.cl, T.nt, shF_top a, _, rfl, q, C, dq, _, _, rfl, hq, T.cl, T.nb, shF_bot b, _, _, rfl, rfl, wide_mul ba.1 bb.2.2 hn0 hn0 (by omega), ?_⟩
    refine ⟨_, rfl, q, C, dq, _, _, rfl, hq, T.cl, T.nt, shF_top b, _, rfl, p, C, dp, _, _, rfl, hp, T.cl, T.nb, shF_bot a, _, _, rfl, rfl, wide_mul bb.1 ba.2.2 hn0 hn0 (by omega), _, _, rfl, rfl, ?_⟩
    refine ⟨_, rfl, p, C, dp, _, _, rfl, hp, T.cl, T.nb, shF_bot a, _, rfl, q, C, dq, _, _, rfl, hq, T.cl, T.nb, shF_bot b, _, _, rfl, rfl, wide_mul ba.2.2 bb.2.2 hn0 hn0 (by omega), ?_⟩
    exact mk_at (n := n + n) (mul_pos_ne ba.2.1 bb.2.1) (wide_lt ba.2.2 bb.2.2) (by omega) (by omega) hQ
end
end K03
set_option Elab.async false
set_option linter.all false
set_option maxRecDepth 100000
set_option maxHeartbeats 4000000
namespace K03
open PySem PySem.Spec PyProof.Rows L2
open C8 (Cal Mak Met pe_c pe_mk pe_mt pe_mt0)
/-- the held dict's pairs -/
def hd0 (l : Addr) (n m : Int) : List (Key × V) := [(Sum.inr "cells", .ref l), (Sum.inr "at", .int n), (Sum.inr "left", .int m)]
theorem hd_cells (l : Addr) (n m : Int) : valV (hd0 l n m) (Sum.inr "cells") = some (.ref l) := valV_pos rfl
theorem k1 : ¬ (("cells" : Str) = "at") := by decide +kernel
theorem k2 : ¬ (("cells" : Str) = "left") := by decide +kernel
theorem k3 : ¬ (("at" : Str) = "left") := by decide +kernel
theorem k1' : ¬ (("at" : Str) = "cells") := by decide +kernel
theorem k3' : ¬ (("left" : Str) = "at") := by decide +kernel
theorem inr_ne {x y : Str} (h : ¬ x = y) : ¬ ((Sum.inr x : Key) = Sum.inr y) := fun z => h (Sum.inr.inj z)
theorem hd_at (l : Addr) (n m : Int) : valV (hd0 l n m) (Sum.inr "at") = some (.int n) := (valV_neg (inr_ne k1)).trans (valV_pos rfl)
theorem hd_left (l : Addr) (n m : Int) : valV (hd0 l n m) (Sum.inr "left") = some (.int m) := (valV_neg (inr_ne k2)).trans ((valV_neg (inr_ne k3)).trans (valV_pos rfl))
theorem put_at (l : Addr) (n m k : Int) : putK (hd0 l n m) (Sum.inr "at") (.int k) = hd0 l k m := by
  unfold putK hd0
  simp [k1, k3']
theorem put_left (l : Addr) (n m k : Int) : putK (hd0 l n m) (Sum.inr "left") (.int k) = hd0 l n k := by
  unfold putK hd0
  simp [k2, k3]
theorem hd_merge (l : Addr) (n m : Int) : mergeK [] (hd0 l n m) = hd0 l n m := by
  simp [mergeK, hd0, putK, k1, k2, k3]
/-- the held dict at h, good for c draws more -/
def Held (H : Hp) (h : Addr) (c : Nat) : Prop := ∃ (l : Addr) (ns : List Int) (n m : Int), H h = some (.dK (hd0 l n m)) ∧ H l = some (.lst (ns.map V.int)) ∧ 0 ≤ n ∧ n + c ≤ 1000000000
theorem Held.weak {H : Hp} {h : Addr} {c c' : Nat} (hc : c' ≤ c) (x : Held H h c) : Held H h c' := by
  obtain ⟨l, ns, n, m, h1, h2, h3, h4⟩ := x
  exact ⟨l, ns, n, m, h1, h2, h3, by omega⟩
/-- all but h is kept -/
def Kp (h : Addr) (H H' : Hp) : Prop := (∀ b o, H b = some o → b ≠ h → H' b = some o) ∧ ∀ l n m, H h = some (.dK (hd0 l n m)) → ∃ n' m', H' h = some (.dK (hd0 l n' m'))
theorem Kp.refl (h : Addr) (H : Hp) : Kp h H H := ⟨fun _ _ e _ => e, fun _ n m e => ⟨n, m, e⟩⟩
theorem Kp.trans {h : Addr} {H H1 H2 : Hp} (a : Kp h H H1) (b : Kp h H1 H2) : Kp h H H2 := ⟨fun c o e n => b.1 c o (a.1 c o e n) n, fun l n m e => let ⟨n', m', e'⟩ := a.2 l n m e; b.2 l n' m' e'⟩
theorem Kp.same {h : Addr} {H H1 : Hp} (a : Same H H1) : Kp h H H1 := ⟨fun c o e _ => a c o e, fun _ n m e => ⟨n, m, a _ _ e⟩⟩
theorem hd_inj {l l' : Addr} {n m n' m' : Int} (h : HO.dK (hd0 l n m) = HO.dK (hd0 l' n' m')) : l = l' := by
  injection h with h
  injection h with h _
  injection h with _ h
  injection h
/-- the held dict put anew -/
theorem Kp.put {h l : Addr} {H : Hp} {n m : Int} (n' m' : Int) (e : H h = some (.dK (hd0 l n m))) : Kp h H (upd H h (.dK (hd0 l n' m'))) := by
  refine ⟨fun c o z ne => by rw [upd_ne ne]; exact z, fun l' n1 m1 z => ⟨n', m', ?_⟩⟩
  rw [upd_same, hd_inj (Option.some.inj (z.symm.trans e))]
theorem Held.same {H H' : Hp} {h : Addr} {c : Nat} (s : Same H H') (x : Held H h c) : Held H' h c := by
  obtain ⟨l, ns, n, m, h1, h2, h3, h4⟩ := x
  exact ⟨l, ns, n, m, s _ _ h1, s _ _ h2, h3, h4⟩
theorem same_new {H : Hp} {p : Addr} {o : HO} (h : H p = none) : Same H (upd H p o) := fun a u e => by
  rw [upd_ne (ne_of_none e h)]
  exact e
theorem dpInts {K : PySem.W.Frag} {H : Hp} : ∀ ns : List Int, DpAll K H (ns.map V.int) (ns.map PyData.int)
  | [] => .nil
  | n :: ns => .cons (.int n) (dpInts ns)
section
variable {P : Program} {w : World} {K : PySem.W.Frag} {mg : Str → Option Value} {base : Heap} {f C : Addr} {fd : FuncData}
def spHeld (K : PySem.W.Frag) : Sp := fun vs H Q _ => ∃ (a : Addr) (ns : List Int), vs = [.ref a] ∧ SqL K H a (ns.map V.int) ∧ ns.length ≤ 63 ∧ ∀ h H', Same H H' → H h = none → Held H' h 900000000 → Q (.ref h) H'
theorem ok_held (F : Dn K d_l_held f fd) (b : Bl mg) : FnOk P w K mg base CX0 1 f fd ["_law_script"] (spHeld K) := by
  refine F.ok sc_l_held (fun vs H Q E h => ?_) (fun cdv A outer s H vs Q E hr h => ?_)
  · obtain ⟨a, ns, rfl, _⟩ := h
    rfl
  · obtain ⟨a, ns, rfl, hS, hlen, hQ⟩ := h
    refine ⟨_, PSs.nox (pss_one (ps_ret (pe_disp (pps_cons pe_str (pe_callTy call_list_of rfl b.list boot_list (pa_cons (pe_slice sl_list (pv 0) po_none (po_some pe_int)) pa_nil)) (pps_cons pe_str pe_int (pps_cons pe_str pe_int pps_nil))) rfl rfl (by simp) (by decide)))), ?_⟩
    intro h hh
    have sS : SqL K (upd H h (.dK [])) a (ns.map V.int) := (same_new hh).seq hS
    refine ⟨_, rfl, 63, rfl, a, _, rfl, sS, fun p hp => ⟨p, _, rfl, Or.inl (SqL.of upd_same), fun l hl => ?_⟩⟩
    have nhp : h ≠ p := ne_of_none upd_same hp
    have nhl : h ≠ l := ne_of_none (by rw [upd_ne nhp]; exact upd_same) hl
    refine ⟨by rw [upd_ne nhl, upd_ne nhp, upd_same], hd0 l 0 0, rfl, by show 3 ≤ 15; decide, ?_⟩
    have e : cutV (ns.map V.int) none (some 63) = (ns.take 63).map V.int := by
      unfold cutV
      simp [HT.sIx, List.map_take]
    refine hQ h _ (fun c o z => ?_) hh ⟨l, ns.take 63, 0, 0, ?_, ?_, by decide, by decide⟩
    · have z1 : c ≠ h := ne_of_none z hh
      have z2 : (upd H h (.dK [])) c = some o := by rw [upd_ne z1]; exact z
      have z3 : c ≠ p := ne_of_none z2 hp
      have z4 : c ≠ l := ne_of_none (by rw [upd_ne z3]; exact z2) hl
      rw [upd_ne z1, upd_ne z4, upd_ne z3]
      exact z2
    · rw [upd_same, hd_merge]
    · rw [upd_ne nhl.symm, upd_same, ← e]

def spDraw : Sp := fun vs H Q _ => ∃ (h : Addr) (c : Nat) (k : Int), vs = [.ref h, .int k] ∧ Held H h (c + 1) ∧ 0 < k ∧ k < 1073741824 ∧
  ∀ r H', 0 ≤ r → r < k → Held H' h c → Kp h H H' → Q (.int r) H'
theorem cb_l {i j : Int} (h1 : -(2 ^ 64) < i) (h2 : i < 2 ^ 64) : CMul i j := .inl ⟨h1, h2⟩
theorem cb_r {i j : Int} (h1 : -(2 ^ 64) < j) (h2 : j < 2 ^ 64) : CMul i j := .inr ⟨h1, h2⟩
theorem ok_draw (F : Dn K d_l_draw f fd) (b : Bl mg) : FnOk P w K mg base CX0 1 f fd ["_law_held_here", "_law_many"] spDraw := by
  refine F.ok sc_l_draw (fun vs H Q E h => ?_) (fun cdv A outer s H vs Q E hr h => ?_)
  · obtain ⟨h, c, k, rfl, _⟩ := h
    rfl
  · obtain ⟨h, c, k, rfl, ⟨l, ns, n, m, hh, hl, hn, hc⟩, hk0, hk1, hQ⟩ := h
    have hu := hu_of hr
    have hu64 : (A.deeper (envOfC d_l_draw.qual d_l_draw.scope s.heap.objs.size f cdv)).units + 64 < cLine := by have := hr.un; omega
    have nlh : l ≠ h := ne_of hl hh (by intro z; cases z)
    refine ⟨_, PSs.nox (pss_cons (ps_if (pt_cmpR op_gt (pe_dget hu (pv 0) pe_str (fun _ _ => rfl)) pe_int (nomark _))
         (pss_cons (ps_set (i := 2) sc_l_draw.nd rfl (.inl rfl) (pe_op op_mod (pe_dget hu (pv 0) pe_str (fun _ _ => rfl)) (pv 1)))
         (pss_cons (ps_dput hu (pv 0) pe_str (pe_op op_fdiv (pe_dget hu (pv 0) pe_str (fun _ _ => rfl)) (pv 1)) rfl)
         (pss_one (ps_ret (pv 2))))) pss_nil)
      (pss_cons (ps_set (i := 3) sc_l_draw.nd rfl (.inl rfl) (pe_dget hu (pv 0) pe_str (fun _ _ => rfl)))
      (pss_cons (ps_dput hu (pv 0) pe_str (pe_op op_add (pv 3) pe_int) rfl)
      (C8.pss_cut (ps_set (i := 4) sc_l_draw.nd rfl (.inl rfl) (pe_ifExp (pt_cmpR (op_neD hu64) (pe_dget hu (pv 0) pe_str (fun _ _ => rfl)) (pe_lst pa_nil) (nomark _))
        (pe_ix ix_list (pe_dget hu (pv 0) pe_str (fun _ _ => rfl)) (pe_op op_mod (pv 3) (pe_callB call_len_seq rfl b.len boot_len (pa_cons (pe_dget hu (pv 0) pe_str (fun _ _ => rfl)) pa_nil))) (fun _ _ => rfl)) pe_int))
      (pss_cons (ps_if (PW.pt (pw_and (pt_cmpR op_ge (pv 4) (pe_op op_pow pe_int pe_int) (nomark _)) (pw_and1 (pt_cmpR op_lt (pv 3) (pe_callB call_len_seq rfl b.len boot_len (pa_cons (pe_dget hu (pv 0) pe_str (fun _ _ => rfl)) pa_nil)) (nomark _)))))
         (pss_cons (ps_dput hu (pv 0) pe_str (pe_op op_fdiv (pe_op op_sub (pv 4) (pe_op op_pow pe_int pe_int)) (pv 1)) rfl)
         (pss_one (ps_ret (pe_op op_mod (pe_op op_sub (pv 4) (pe_op op_pow pe_int pe_int)) (pv 1))))) pss_nil)
      (pss_cons (ps_set (i := 5) sc_l_draw.nd rfl (.inl rfl) (pe_op op_mod (pe_op op_add (pe_op op_add (pe_op op_add (pe_op op_mul (pe_op op_mod (pv 4) pe_int) pe_int) (pe_op op_mul (pe_op op_mul pe_int (pv 3)) (pv 3))) (pe_op op_mul pe_int (pv 3))) pe_int) pe_int))
      (pss_cons (ps_set (i := 5) sc_l_draw.nd rfl (.inl rfl) (pe_op op_mod (pe_op op_add (pe_op op_add (pe_op op_mul (pv 5) pe_int) (pe_op op_fdiv (pv 5) pe_int)) pe_int) pe_int))
      (pss_one (ps_ret (pe_op op_mod (pe_op op_fdiv (pv 5) pe_int) (pv 1))))))))))), ?_⟩
    have cM : ∀ x y : Int, 0 < y → (0 ≤ x % y ∧ x % y < y) := fun x y hy => ⟨Int.emod_nonneg _ (by omega), Int.emod_lt_of_pos _ hy⟩
    refine ⟨_, rfl, h, _, rfl, hd_left l n m ▸ DGet.k (k := Sum.inr "left") hh, _, _, rfl, rfl, _, rfl, ?_⟩
    refine ite2 (fun h1 => ?_) (fun h1 => ?_)
    · refine ⟨_, rfl, h, _, rfl, hd_left l n m ▸ DGet.k (k := Sum.inr "left") hh, _, rfl, _, _, rfl, rfl, hk0, ?_⟩
      refine ⟨_, rfl, h, _, rfl, hd_left l n m ▸ DGet.k (k := Sum.inr "left") hh, _, rfl, _, _, rfl, rfl, ⟨hk0, hk1⟩, _, rfl, h, _, rfl, DPut.k (k := Sum.inr "left") hh (by show 3 < sizeLine; decide), ?_⟩
      refine ⟨_, rfl, hQ _ _ (cM _ _ hk0).1 (cM _ _ hk0).2 ⟨l, ns, n, m / k, ?_, ?_, hn, by omega⟩ ?_⟩
      · rw [upd_same, put_left]
      · rw [upd_ne nlh]; exact hl
      · rw [put_left]; exact Kp.put _ _ hh
    · refine ⟨_, rfl, h, _, rfl, hd_at l n m ▸ DGet.k (k := Sum.inr "at") hh, ?_⟩
      refine ⟨_, rfl, _, _, rfl, rfl, _, rfl, h, _, rfl, DPut.k (k := Sum.inr "at") hh (by show 3 < sizeLine; decide), ?_⟩
      rw [put_at]
      have hh1 : (upd H h (.dK (hd0 l (n + 1) m))) h = some (.dK (hd0 l (n + 1) m)) := upd_same
      have hl1 : (upd H h (.dK (hd0 l (n + 1) m))) l = some (.lst (ns.map V.int)) := by rw [upd_ne nlh]; exact hl
      have kp1 : Kp h H (upd H h (.dK (hd0 l (n + 1) m))) := Kp.put _ _ hh
      refine ⟨fun σ' H' => ∃ (cell : Int), σ' = [some (.ref h), some (.int k), none, some (.int n), some (.int cell), none] ∧ H' h = some (.dK (hd0 l (n + 1) m)) ∧ H' l = some (.lst (ns.map V.int)) ∧ Kp h H H', ?_, ?_⟩
      · refine ⟨_, rfl, h, _, rfl, hd_cells l (n + 1) m ▸ DGet.k (k := Sum.inr "cells") hh1, (by show 0 ≤ sizeLine; decide), fun e he => ?_⟩
        have nhe : h ≠ e := ne_of_none hh1 he
        have nle : l ≠ e := ne_of_none hl1 he
        have hh2 : (upd (upd H h (.dK (hd0 l (n + 1) m))) e (.lst [])) h = some (.dK (hd0 l (n + 1) m)) := by rw [upd_ne nhe]; exact hh1
        have hl2 : (upd (upd H h (.dK (hd0 l (n + 1) m))) e (.lst [])) l = some (.lst (ns.map V.int)) := by rw [upd_ne nle]; exact hl1
        have kp2 : Kp h H (upd (upd H h (.dK (hd0 l (n + 1) m))) e (.lst [])) := kp1.trans (Kp.same (same_new he))
        refine ⟨.list (ns.map .int), .list [], Dp.lst (SqL.of hl2) (dpInts ns), Dp.lst (SqL.of upd_same) .nil, PySem.W.ke_shaped_ints ns, by decide, _, rfl, ?_⟩
        cases ns with
        | nil => exact iteF ⟨0, rfl, hh2, hl2, kp2⟩
        | cons z zs =>
          refine iteT ?_
          have hlen : (0 : Int) < (((z :: zs).map V.int).length : Int) := by simp
          refine ⟨_, rfl, h, _, rfl, hd_cells l (n + 1) m ▸ DGet.k (k := Sum.inr "cells") hh2, _, rfl, _, rfl, h, _, rfl, hd_cells l (n + 1) m ▸ DGet.k (k := Sum.inr "cells") hh2, l, _, rfl, Or.inl (SqL.of hl2), _, _, rfl, rfl, hlen, ?_⟩
          obtain ⟨q, hq⟩ := Int.eq_ofNat_of_zero_le (cM n _ hlen).1
          have hq2 := (cM n _ hlen).2
          rw [hq] at hq2
          have hq3 : q < (z :: zs).length := by rw [List.length_map] at hq2; omega
          refine ⟨l, _, _, .int ((z :: zs)[q]), rfl, rfl, SqL.of hl2, (by rw [hq]; exact atI_nat (by rw [List.getElem?_map, List.getElem?_eq_getElem hq3]; rfl)), ?_⟩
          exact ⟨_, rfl, hh2, hl2, kp2⟩
      · rintro σ' H' ⟨cell, rfl, hh2, hl2, kp2⟩
        have stay : ∀ m', Held (upd H' h (.dK (hd0 l (n + 1) m'))) h c := fun m' => ⟨l, ns, n + 1, m', upd_same, by rw [upd_ne nlh]; exact hl2, by omega, by omega⟩
        have stay0 : Held H' h c := ⟨l, ns, n + 1, m, hh2, hl2, by omega, by omega⟩
        have last : ∀ D : Ends, D.rt = Q → tSeq (tAsg (tOp (rI (fun _ j => 0 < j) fun i j => .int (i % j)) (tOp (rI0 fun i j => .int (i + j)) (tOp (rI0 fun i j => .int (i + j)) (tOp (rI0 fun i j => .int (i + j))
            (tOp (rI CMul fun i j => .int (i * j)) (tOp (rI (fun _ j => 0 < j) fun i j => .int (i % j)) (tVar 4) (tC (.int 2147483587))) (tC (.int 40692))) (tOp (rI CMul fun i j => .int (i * j)) (tOp (rI CMul fun i j => .int (i * j)) (tC (.int 7907)) (tVar 3)) (tVar 3)))
            (tOp (rI CMul fun i j => .int (i * j)) (tC (.int 104729)) (tVar 3))) (tC (.int 17))) (tC (.int 2147483629))) (gName 5))
          (tSeq (tAsg (tOp (rI (fun _ j => 0 < j) fun i j => .int (i % j)) (tOp (rI0 fun i j => .int (i + j)) (tOp (rI0 fun i j => .int (i + j)) (tOp (rI CMul fun i j => .int (i * j)) (tVar 5) (tC (.int 48271))) (tOp (rI CDiv fun i j => .int (i / j)) (tVar 5) (tC (.int 127)))) (tC (.int 31))) (tC (.int 2147483647))) (gName 5))
          (tRet (tOp (rI (fun _ j => 0 < j) fun i j => .int (i % j)) (tOp (rI CDiv fun i j => .int (i / j)) (tVar 5) (tC (.int 89))) (tVar 1)))) D [some (.ref h), some (.int k), none, some (.int n), some (.int cell), none] H' := by
          intro D hD
          refine ⟨_, rfl, _, _, rfl, rfl, (by decide : (0 : Int) < 2147483587), _, _, rfl, rfl, cb_r (by decide) (by decide), _, rfl, _, _, rfl, rfl, cb_l (by decide) (by decide), _, rfl, _, _, rfl, rfl, cb_r (by omega) (by omega), _, _, rfl, rfl, ?_⟩
          refine ⟨_, rfl, _, _, rfl, rfl, cb_l (by decide) (by decide), _, _, rfl, rfl, _, _, rfl, rfl, _, _, rfl, rfl, (by decide : (0 : Int) < 2147483629), ?_⟩
          refine ⟨_, rfl, _, _, rfl, rfl, cb_r (by decide) (by decide), _, rfl, _, _, rfl, rfl, ⟨by decide, by decide⟩, _, _, rfl, rfl, _, _, rfl, rfl, _, _, rfl, rfl, (by decide : (0 : Int) < 2147483647), ?_⟩
          refine ⟨_, rfl, _, _, rfl, rfl, ⟨by decide, by decide⟩, _, rfl, _, _, rfl, rfl, hk0, ?_⟩
          rw [hD]
          exact hQ _ _ (cM _ _ hk0).1 (cM _ _ hk0).2 stay0 kp2
        refine ⟨_, rfl, _, _, rfl, rfl, ⟨by decide, by decide, by decide⟩, _, _, rfl, rfl, _, rfl, ?_⟩
        refine ite2 (fun g1 => ?_) (fun g1 => iteF (last _ rfl))
        refine ⟨_, rfl, _, rfl, h, _, rfl, hd_cells l (n + 1) m ▸ DGet.k (k := Sum.inr "cells") hh2, l, _, rfl, Or.inl (SqL.of hl2), _, _, rfl, rfl, _, rfl, ?_⟩
        refine ite2 (fun g2 => ?_) (fun g2 => last _ rfl)
        refine ⟨_, rfl, _, _, rfl, rfl, ⟨by decide, by decide, by decide⟩, _, _, rfl, rfl, _, rfl, _, _, rfl, rfl, ⟨hk0, hk1⟩, _, rfl, h, _, rfl, DPut.k (k := Sum.inr "left") hh2 (by show 3 < sizeLine; decide), ?_⟩
        refine ⟨_, rfl, _, _, rfl, rfl, ⟨by decide, by decide, by decide⟩, _, _, rfl, rfl, _, rfl, _, _, rfl, rfl, hk0, ?_⟩
        rw [put_left]
        refine hQ _ _ (cM _ _ hk0).1 (cM _ _ hk0).2 (stay _) (kp2.trans (Kp.put _ _ hh2))
end
end K03
set_option linter.all false
namespace KM
/-- top and bottom of a rational number -/
def pr (r : Rat) : Int × Int := (r.num, (r.den : Int))
theorem pr_inj {r s : Rat} (h : pr r = pr s) : r = s := by
  have h1 : r.num = s.num := congrArg Prod.fst h
  have h2 : (r.den : Int) = (s.den : Int) := congrArg Prod.snd h
  rw [← Rat.num_divInt_den r, ← Rat.num_divInt_den s, h1, h2]
theorem den_ne (r : Rat) : (r.den : Int) ≠ 0 := by
  have := r.den_nz
  omega
theorem den_pos (r : Rat) : 0 < (r.den : Int) := by
  have := r.den_nz
  omega
theorem low_eq {t b : Int} (h : b ≠ 0) : low t b = pr (Rat.divInt t b) := by
  have hp := low_pos (t := t) h
  have hc := low_cop (t := t) h
  obtain ⟨d, hd⟩ := Int.eq_ofNat_of_zero_le (Int.le_of_lt hp)
  have hd0 : d ≠ 0 := by
    intro z
    rw [z] at hd
    omega
  have hcop : (low t b).1.natAbs.Coprime d := by
    have : Int.gcd (low t b).1 (low t b).2 = 1 := hc
    rw [hd] at this
    exact this
  have e1 : Rat.divInt (low t b).1 (d : Int) = Rat.divInt t b := by
    rw [Rat.divInt_eq_divInt_iff (by omega) h, ← hd]
    have h1 := low_top (t := t) (b := b)
    have h2 := low_bot (t := t) (b := b)
    calc (low t b).1 * b = (low t b).1 * (sg t b * (low t b).2) := by rw [h2]
      _ = sg t b * (low t b).1 * (low t b).2 := by rw [← Int.mul_assoc, Int.mul_comm (low t b).1]
      _ = t * (low t b).2 := by rw [h1]
  have e2 : ({ num := (low t b).1, den := d, den_nz := hd0, reduced := hcop } : Rat) = Rat.divInt t b := by rw [Rat.mk_eq_divInt, e1]
  rw [← e2]
  exact Prod.ext rfl hd
theorem pr_plus (r s : Rat) : low ((pr r).1 * (pr s).2 + (pr s).1 * (pr r).2) ((pr r).2 * (pr s).2) = pr (r + s) := by
  show low (r.num * s.den + s.num * r.den) (r.den * s.den) = _
  rw [low_eq (Int.mul_ne_zero (den_ne r) (den_ne s)), ← Rat.divInt_add_divInt _ _ (den_ne r) (den_ne s), Rat.num_divInt_den, Rat.num_divInt_den]
theorem pr_less (r s : Rat) : low ((pr r).1 * (pr s).2 - (pr s).1 * (pr r).2) ((pr r).2 * (pr s).2) = pr (r - s) := by
  show low (r.num * s.den - s.num * r.den) (r.den * s.den) = _
  rw [low_eq (Int.mul_ne_zero (den_ne r) (den_ne s)), ← Rat.divInt_sub_divInt _ _ (den_ne r) (den_ne s), Rat.num_divInt_den, Rat.num_divInt_den]
theorem pr_times (r : Rat) (k : Int) : low ((pr r).1 * k) (pr r).2 = pr (r * (Rat.divInt k 1)) := by
  show low (r.num * k) r.den = _
  have e : Rat.divInt (r.num * k) (r.den : Int) = Rat.divInt r.num r.den * Rat.divInt k 1 := by rw [Rat.divInt_mul_divInt, Int.mul_one]
  rw [low_eq (den_ne r), e, Rat.num_divInt_den]
theorem pr_over (r : Rat) {k : Int} (h : k ≠ 0) : low (pr r).1 ((pr r).2 * k) = pr (r * (Rat.divInt 1 k)) := by
  show low r.num (r.den * k) = _
  have e : Rat.divInt r.num (r.den * k : Int) = Rat.divInt r.num r.den * Rat.divInt 1 k := by rw [Rat.divInt_mul_divInt, Int.mul_one]
  rw [low_eq (Int.mul_ne_zero (den_ne r) h), e, Rat.num_divInt_den]
theorem inv_k {k : Int} (h : k ≠ 0) : Rat.divInt k 1 * Rat.divInt 1 k = 1 := by
  rw [Rat.divInt_mul_divInt, Int.mul_one, Int.one_mul]
  exact Rat.divInt_self' h
theorem pr_lt (r s : Rat) : ((pr r).1 * (pr s).2 < (pr s).1 * (pr r).2) ↔ r < s := (Rat.lt_iff r s).symm
theorem pr_bot (r : Rat) : 0 < (pr r).2 := den_pos r
theorem add_back (r s : Rat) : r + s - s = r := by
  rw [Rat.sub_eq_add_neg, Rat.add_assoc, Rat.add_neg_cancel, Rat.add_zero]
theorem sub_back (r s : Rat) : r - s + s = r := by
  rw [Rat.sub_eq_add_neg, Rat.add_assoc, Rat.neg_add_cancel, Rat.add_zero]
theorem mul_back (r : Rat) {k : Int} (h : k ≠ 0) : r * Rat.divInt k 1 * Rat.divInt 1 k = r := by
  rw [Rat.mul_assoc, inv_k h, Rat.mul_one]
theorem div_back (r : Rat) {k : Int} (h : k ≠ 0) : r * Rat.divInt 1 k * Rat.divInt k 1 = r := by
  rw [Rat.mul_assoc, Rat.mul_comm (Rat.divInt 1 k), inv_k h, Rat.mul_one]
/-- small -/
def Sz (n : Nat) (r : Rat) : Prop := r.num.natAbs < 2 ^ n ∧ r.den < 2 ^ n
theorem Sz.mono {n m : Nat} {r : Rat} (h : Sz n r) (hm : n ≤ m) : Sz m r := ⟨Nat.lt_of_lt_of_le h.1 (Nat.pow_le_pow_right (by decide) hm), Nat.lt_of_lt_of_le h.2 (Nat.pow_le_pow_right (by decide) hm)⟩
theorem sz_of_low {t b : Int} {n : Nat} (hb : b ≠ 0) (h1 : t.natAbs < 2 ^ n) (h2 : b.natAbs < 2 ^ n) : Sz n (Rat.divInt t b) := by
  have e := low_eq (t := t) hb
  have e1 : (low t b).1 = (Rat.divInt t b).num := congrArg Prod.fst e
  have e2 : (low t b).2 = ((Rat.divInt t b).den : Int) := congrArg Prod.snd e
  have l1 := low_top_le (t := t) hb
  have l2 := low_bot_le (t := t) hb
  constructor
  · rw [← e1]; omega
  · have : ((low t b).2).natAbs < 2 ^ n := by omega
    rw [e2] at this
    simpa using this
theorem two_lt {x y n m : Nat} (h1 : x < 2 ^ n) (h2 : y < 2 ^ m) : x * y < 2 ^ (n + m) := by
  rw [Nat.pow_add]
  exact Nat.mul_lt_mul'' h1 h2
theorem sz_sum {a b c d : Int} {n m : Nat} (h1 : a.natAbs < 2 ^ n) (h2 : d.natAbs < 2 ^ m) (h3 : c.natAbs < 2 ^ m) (h4 : b.natAbs < 2 ^ n) : (a * d + c * b).natAbs < 2 ^ (n + m + 1) ∧ (a * d - c * b).natAbs < 2 ^ (n + m + 1) := by
  have e1 : (a * d).natAbs < 2 ^ (n + m) := by rw [Int.natAbs_mul]; exact two_lt h1 h2
  have e2 : (c * b).natAbs < 2 ^ (n + m) := by rw [Int.natAbs_mul, Nat.add_comm]; exact two_lt h3 h4
  have e3 : 2 ^ (n + m + 1) = 2 * 2 ^ (n + m) := by rw [Nat.pow_succ, Nat.mul_comm]
  omega
theorem sz_plus {n m : Nat} {r s : Rat} (hr : Sz n r) (hs : Sz m s) : Sz (n + m + 1) (r + s) ∧ Sz (n + m + 1) (r - s) := by
  have d1 : ((r.den : Int)).natAbs < 2 ^ n := by simpa using hr.2
  have d2 : ((s.den : Int)).natAbs < 2 ^ m := by simpa using hs.2
  have hd : ((r.den : Int) * s.den).natAbs < 2 ^ (n + m + 1) := by
    have : ((r.den : Int) * s.den).natAbs < 2 ^ (n + m) := by rw [Int.natAbs_mul]; exact two_lt d1 d2
    exact Nat.lt_of_lt_of_le this (Nat.pow_le_pow_right (by decide) (by omega))
  have hn := sz_sum hr.1 d2 hs.1 d1
  have ne := Int.mul_ne_zero (den_ne r) (den_ne s)
  constructor
  · have := sz_of_low ne hn.1 hd
    rw [← Rat.divInt_add_divInt _ _ (den_ne r) (den_ne s), Rat.num_divInt_den, Rat.num_divInt_den] at this
    exact this
  · have := sz_of_low ne hn.2 hd
    rw [← Rat.divInt_sub_divInt _ _ (den_ne r) (den_ne s), Rat.num_divInt_den, Rat.num_divInt_den] at this
    exact this
theorem sz_times {n m : Nat} {r : Rat} {k : Int} (hr : Sz n r) (hk : k.natAbs < 2 ^ m) : Sz (n + m) (r * Rat.divInt k 1) := by
  have e : r * Rat.divInt k 1 = Rat.divInt (r.num * k) r.den := by
    have : Rat.divInt (r.num * k) (r.den : Int) = Rat.divInt r.num r.den * Rat.divInt k 1 := by rw [Rat.divInt_mul_divInt, Int.mul_one]
    rw [this, Rat.num_divInt_den]
  rw [e]
  refine sz_of_low (den_ne r) (by rw [Int.natAbs_mul]; exact two_lt hr.1 hk) ?_
  have d1 : ((r.den : Int)).natAbs < 2 ^ n := by simpa using hr.2
  exact Nat.lt_of_lt_of_le d1 (Nat.pow_le_pow_right (by decide) (by omega))
theorem sz_over {n m : Nat} {r : Rat} {k : Int} (hr : Sz n r) (h : k ≠ 0) (hk : k.natAbs < 2 ^ m) : Sz (n + m) (r * Rat.divInt 1 k) := by
  have e : r * Rat.divInt 1 k = Rat.divInt r.num (r.den * k) := by
    have : Rat.divInt r.num (r.den * k : Int) = Rat.divInt r.num r.den * Rat.divInt 1 k := by rw [Rat.divInt_mul_divInt, Int.mul_one]
    rw [this, Rat.num_divInt_den]
  rw [e]
  have d1 : ((r.den : Int)).natAbs < 2 ^ n := by simpa using hr.2
  refine sz_of_low (Int.mul_ne_zero (den_ne r) h) (Nat.lt_of_lt_of_le hr.1 (Nat.pow_le_pow_right (by decide) (by omega))) ?_
  rw [Int.natAbs_mul]
  exact two_lt d1 hk
end KM
set_option Elab.async false
set_option linter.all false
set_option maxRecDepth 100000
set_option maxHeartbeats 4000000
/-! KW: calls by keywords alone: f(k = v, ..), o.m(k = v, ..). -/
namespace KW
open PySem PySem.Spec PyProof.Rows L2
section
variable {X : Cx} {k j : Nat} {C f : Addr} {fd : FuncData} {ps ks : List Str} {sp : Sp} {x m : Str} {p pos apos : Pos} {o : Expr} {kws : List Keyword} {ta : TE} {tk : TA} {g : List Value → List Value → List Value} {gV : List V → List V → List V}
theorem pe_cK (F : FnOk X.prog X.w X.K X.mg X.base CX0 k f fd ps sp) (hr : Room k X.A) (hg : Gl X x) (hm : X.mg x = some (.ref f)) (hk : PySem.W.keepIn X.K (.ref f) = true) (hb : KBn X.K fd ps 0 ks g gV) (hkw : PK X kws tk)
    (hall : (backToKw pos (keywordEach kws X.env)).all (·.1.isSome) = true := by rfl) (hks : (backToKw pos (keywordEach kws X.env)).filterMap (·.1) = ks := by rfl) (hdb : (x == ("__debug__" : Str)) = false := by decide)
    (hpl : ((backTo pos (starEach [] X.env)).any (·.1) || (backToKw pos (keywordEach kws X.env)).any (·.1.isNone)) = false := by rfl) :
    PE X (.Call (.Name x p) [] kws pos) (fun σ H Q => tk σ H fun zs H1 => zs.length = ks.length ∧ sp (gV [] zs) H1 Q E0) := by
  refine ⟨fun pins s σ H Q I h => wpAny_Call_Name_kw (ld_glob I hg hm (PySem.W.callWith_KW0 (h₀ := X.base) I.ok.mod.kin hk hall ?_ hpl) hdb)⟩
  refine thn (hkw.run pos pins s σ H _ I h) fun ws s2 ⟨zs, H2, I2, rz, l2, q2⟩ => ⟨I2.kIn, ?_⟩
  rw [hks]
  exact run_fnN (us := []) (vs := []) F hr hb (fun _ _ _ _ _ _ _ h => False.elim h) I2 .nil rz rfl l2 q2
theorem pe_mtK {pl : Sem Bool} (he : PE X o ta) (c : Cls X.K C) (hm : Meth X.K C m f) (F : FnOk X.prog X.w X.K X.mg X.base CX0 k f fd ps sp) (hr : Room k X.A) (hb : KBn X.K fd ps 1 ks g gV) (hkw : PK X kws tk)
    (hall : (backToKw pos (keywordEach kws X.env)).all (·.1.isSome) = true := by rfl) (hks : (backToKw pos (keywordEach kws X.env)).filterMap (·.1) = ks := by rfl)
    (hpl : ((backTo pos (starEach [] X.env)).any (·.1) || (backToKw pos (keywordEach kws X.env)).any (·.1.isNone)) = false := by rfl)
    (ht : eval (.Call (.Attribute o m apos) [] kws pos) X.env = (do
      let ov ← eval o X.env
      standAt apos.atName
      let (f, first) ← holding [ov] (getMethod ov m pl)
      callWith pos f first (backTo pos (starEach [] X.env)) (backToKw pos (keywordEach kws X.env))) := by rfl) :
    PE X (.Call (.Attribute o m apos) [] kws pos) (fun σ H Q => ta σ H fun x H1 => ∃ a dx fs, x = .ref a ∧ H1 a = some (.ins C dx fs) ∧ fs.lookup m = none ∧ tk σ H1 fun zs H2 => zs.length = ks.length ∧ sp (gV [.ref a] zs) H2 Q E0) := by
  refine ⟨fun pins s σ H Q I h => ?_⟩
  refine PySem.W.methodCall_KW (pl := pl) (thn (he.run pins s σ H _ I h) fun u s1 ⟨x, H1, I1, rx, a, dx, fs, ex, ea, l, q⟩ => ?_) ht
  subst ex
  obtain rfl : u = Value.ref a := rx
  refine getmeth_ok I1 ea c hm l (PySem.W.callWith_KW0 (first := [.ref a]) (h₀ := X.base) I.ok.mod.kin hm.kp hall ?_ hpl)
  refine thn (hkw.run pos pins s1 σ H1 _ I1 q) fun ws s2 ⟨zs, H2, I2, rz, l2, q2⟩ => ⟨I2.kIn, ?_⟩
  rw [hks]
  exact run_fnN (us := [.ref a]) (vs := [.ref a]) F hr hb (fun _ _ _ _ _ _ _ h => False.elim h) I2 (.cons rfl .nil) rz rfl l2 q2
end
end KW
set_option Elab.async false
set_option linter.all false
set_option maxRecDepth 100000
set_option maxHeartbeats 4000000
namespace K03
open PySem PySem.Spec PyProof.Rows L2
open C8 (Cal Mak Met pe_c pe_mk pe_mt pe_mt0)
open KM (pr Sz)
/-- what isinstance asks of the class -/
structure IsC (K : PySem.W.Frag) (C : Addr) : Prop where
  ha : PySem.W.findIn K (.ref C) "__class__" = some (some (.builtin "object.__class__"))
  hn : PySem.W.specialIn K (.builtin "object.__class__") "__get__" = some (some (.builtin "getset_descriptor.__get__"))
  htk : PySem.W.takesIn K (.builtin "object.__class__") = some true
  hm : PySem.W.mroIn K C (.type "object") = some true
  kit : PySem.W.kitOne K (.ref C) (.ref C) = some true
theorem bd_of {n : Nat} {r : Rat} (h : Sz n r) : Bd n (pr r) := ⟨h.1, KM.den_pos r, by simpa [pr] using h.2⟩

section
variable {P : Program} {w : World} {K : PySem.W.Frag} {mg : Str → Option Value} {base : Heap} {f C : Addr} {fd : FuncData}
abbrev CalD (P : Program) (w : World) (K : PySem.W.Frag) (mg : Str → Option Value) (base : Heap) : Prop := Cal P w K mg base 1 "_law_draw" spDraw []
def tupP (q : Int × Int) : HO := .tup [.int q.1, .int q.2]
def spLow : Sp := fun vs H Q _ => ∃ (t b : Int) (n : Nat), vs = [.int t, .int b] ∧ b ≠ 0 ∧ b.natAbs < 2 ^ n ∧ 0 < n ∧ n ≤ 9000 ∧ ∀ r, H r = none → Q (.ref r) (upd H r (tupP (KM.low t b)))
theorem ok_low (F : Dn K d_l_low f fd) (b : Bl mg) : FnOk P w K mg base CX0 1 f fd ["_law_top", "_law_bottom"] spLow := by
  refine F.ok sc_l_low (fun vs H Q E h => ?_) (fun cdv A outer s H vs Q E hr h => ?_)
  · obtain ⟨t, b, n, rfl, _⟩ := h
    rfl
  · obtain ⟨x, y, n, rfl, hy, hn, hn0, hn9, hQ⟩ := h
    refine ⟨_, PSs.nox (pss_cons (ps_par (i := 2) (j := 3) rfl sc_l_low.nd rfl rfl (by decide) rfl rfl (pa_cons (pe_callB call_abs rfl b.abs boot_abs (pa_cons (pv 0) pa_nil)) (pa_cons (pe_callB call_abs rfl b.abs boot_abs (pa_cons (pv 1) pa_nil)) pa_nil)) rfl)
      (pss_cons (ps_while PassesOwn.never (pt_cmpR op_gt (pv 3) pe_int (nomark _)) (pss_one (ps_par (i := 2) (j := 3) rfl sc_l_low.nd rfl rfl (by decide) rfl rfl (pa_cons (pv 3) (pa_cons (pe_op op_mod (pv 2) (pv 3)) pa_nil)) rfl)))
      (C8.pss_cut (ps_if (pt_cmpR op_lt (pv 1) pe_int (nomark _)) (pss_one (ps_set (i := 2) sc_l_low.nd rfl (.inl rfl) (pe_op op_sub pe_int (pv 2)))) pss_nil)
      (pss_one (ps_ret (pe_tup (pa_cons (pe_op op_fdW (pv 0) (pv 2)) (pa_cons (pe_op op_fdW (pv 1) (pv 2)) pa_nil)))))))), ?_⟩
    refine ⟨_, rfl, _, rfl, _, rfl, _, rfl, _, _, rfl, while_by (fun σ H2 => H2 = H ∧ ∃ a c : Int, σ = [some (.int x), some (.int y), some (.int a), some (.int c)] ∧ 0 ≤ a ∧ 0 ≤ c ∧ Int.gcd a c = Int.gcd x y)
      (fun σ _ => match σ with | [_, _, _, some (.int c)] => c.toNat | _ => 0) ⟨rfl, _, _, rfl, ?_, ?_, ?_⟩ ?_ ?_⟩
    · split <;> omega
    · split <;> omega
    · rw [abs_eq, abs_eq]
      rfl
    · rintro σ H2 ⟨rfl, a, c, rfl, ha, hc, hg⟩
      refine ⟨_, rfl, _, _, rfl, rfl, _, rfl, ?_⟩
      refine ite2 (fun g => ?_) (fun g => ?_)
      · have hp : 0 < c := of_decide_eq_true g
        refine ⟨_, rfl, _, rfl, _, rfl, _, _, rfl, rfl, hp, _, _, rfl, ⟨rfl, _, _, rfl, hc, Int.emod_nonneg _ (by omega), ?_⟩, ?_⟩
        · rw [KM.gcd_turn ha hp, hg]
        · show (a % c).toNat < c.toNat
          have h1 := Int.emod_nonneg a (show c ≠ 0 by omega)
          have h2 := Int.emod_lt_of_pos a hp
          omega
      · have h0 : c = 0 := by
          have : ¬ 0 < c := fun z => g (decide_eq_true z)
          omega
        subst h0
        have e : Int.gcd x y = a.natAbs := by rw [← hg]; simp
        refine ⟨fun σ' H' => H' = H2 ∧ ∃ v, σ' = [some (.int x), some (.int y), some (.int (KM.sg x y)), v], ?_, ?_⟩
        · refine ⟨_, rfl, _, _, rfl, rfl, _, rfl, ?_⟩
          refine ite2 (fun g1 => ?_) (fun g1 => ?_)
          · refine ⟨_, rfl, _, _, rfl, rfl, rfl, some (.int 0), ?_⟩
            have e2 : KM.sg x y = 0 - a := by unfold KM.sg; rw [if_pos (of_decide_eq_true g1), e]; omega
            rw [e2]
            rfl
          · refine ⟨rfl, some (.int 0), ?_⟩
            have e2 : KM.sg x y = a := by unfold KM.sg; rw [if_neg (fun z => g1 (decide_eq_true z)), e]; omega
            rw [e2]
        · rintro σ' H' ⟨rfl, v, rfl⟩
          have hs9 : (KM.sg x y).natAbs.log2 < 9000 := log_lt (Nat.lt_of_le_of_lt (KM.sg_le hy) hn) hn0 hn9
          refine ⟨_, rfl, _, rfl, _, _, rfl, rfl, ⟨KM.sg_ne hy, hs9⟩, _, rfl, _, rfl, _, _, rfl, rfl, ⟨KM.sg_ne hy, hs9⟩, (by show 2 ≤ sizeLine; decide), fun r hr => hQ r hr⟩
    · rintro σ H2 Q1 Q2 hm ⟨v, hv, i, j, e1, e2, k, hk, q⟩
      exact ⟨v, hv, i, j, e1, e2, k, hk, hm _ _ q⟩
abbrev CalL (P : Program) (w : World) (K : PySem.W.Frag) (mg : Str → Option Value) (base : Heap) : Prop := Cal P w K mg base 1 "_law_low" spLow []
def spAdd : Sp := fun vs H Q _ => ∃ (p q : Addr) (a b : Int × Int) (n : Nat), vs = [.ref p, .ref q] ∧ H p = some (tupP a) ∧ H q = some (tupP b) ∧ two n a b ∧
  ∀ r, H r = none → Q (.ref r) (upd H r (tupP (KM.low (a.1 * b.2 + b.1 * a.2) (a.2 * b.2))))
theorem at0 {a b : V} : atI [a, b] 0 = some a := rfl
theorem at1 {a b : V} : atI [a, b] 1 = some b := rfl
theorem ok_add (F : Dn K d_l_add f fd) (cL : CalL P w K mg base) : FnOk P w K mg base CX0 2 f fd ["_law_one", "_law_other"] spAdd := by
  refine F.ok sc_l_add (fun vs H Q E h => ?_) (fun cdv A outer s H vs Q E hr h => ?_)
  · obtain ⟨p, q, a, b, n, rfl, _⟩ := h
    rfl
  · obtain ⟨p, q, a, b, n, rfl, hp, hq, ⟨ba, bb, hn0, hn9⟩, hQ⟩ := h
    refine ⟨_, PSs.nox (pss_one (ps_ret (pe_c cL hr (by decide) rfl (pa_cons (pe_op op_add (pe_op op_mulW (pe_ix ix_tup (pv 0) pe_int (fun _ _ => rfl)) (pe_ix ix_tup (pv 1) pe_int (fun _ _ => rfl))) (pe_op op_mulW (pe_ix ix_tup (pv 1) pe_int (fun _ _ => rfl)) (pe_ix ix_tup (pv 0) pe_int (fun _ _ => rfl))))
      (pa_cons (pe_op op_mulW (pe_ix ix_tup (pv 0) pe_int (fun _ _ => rfl)) (pe_ix ix_tup (pv 1) pe_int (fun _ _ => rfl))) pa_nil))))), ?_⟩
    refine ⟨_, rfl, p, _, _, _, rfl, rfl, SqT.of hp, at0, _, rfl, q, _, _, _, rfl, rfl, SqT.of hq, at1, _, _, rfl, rfl, wide_mul ba.1 bb.2.2 hn0 hn0 (by omega), ?_⟩
    refine ⟨_, rfl, q, _, _, _, rfl, rfl, SqT.of hq, at0, _, rfl, p, _, _, _, rfl, rfl, SqT.of hp, at1, _, _, rfl, rfl, wide_mul bb.1 ba.2.2 hn0 hn0 (by omega), _, _, rfl, rfl, ?_⟩
    refine ⟨_, rfl, p, _, _, _, rfl, rfl, SqT.of hp, at1, _, rfl, q, _, _, _, rfl, rfl, SqT.of hq, at1, _, _, rfl, rfl, wide_mul ba.2.2 bb.2.2 hn0 hn0 (by omega), ?_⟩
    exact ⟨_, _, n + n, rfl, mul_pos_ne ba.2.1 bb.2.1, wide_lt ba.2.2 bb.2.2, by omega, by omega, hQ⟩
def spPair (C : Addr) : Sp := fun vs H Q _ => ∃ (p : Addr) (q : Int × Int), vs = [.ref p] ∧ Sh C H p q ∧ ∀ r H', Same H H' → H r = none → H' r = some (tupP q) → Q (.ref r) H'
theorem ok_pair (F : Dn K d_l_pair f fd) (b : Bl mg) (T : Cl K mg C) (S : IsC K C) : FnOk P w K mg base CX0 1 f fd ["_law_share"] (spPair C) := by
  refine F.ok sc_l_pair (fun vs H Q E h => ?_) (fun cdv A outer s H vs Q E hr h => ?_)
  · obtain ⟨p, q, rfl, _⟩ := h
    rfl
  · obtain ⟨p, q, rfl, ⟨dp, hp⟩, hQ⟩ := h
    refine ⟨_, PSs.nox (pss_cons (ps_if (pt_not (pt_val (pe_callB call_isi rfl b.isi boot_isinstance (pa_cons (pv 0) (pa_cons (pe_glob (v := .ref C) rfl T.g rfl) pa_nil))))) pss_never pss_nil)
      (pss_cons (ps_for PassesOwn.never rfl (pi_tup (pe_tup (pa_cons (pe_fld (pv 0) rfl) (pa_cons (pe_fld (pv 0) rfl) pa_nil)))) (pg_name (i := 1) sc_l_pair.nd rfl (.inl rfl))
        (pss_one (ps_if (PW.pt (pw_or (pt_not (pt_val (pe_callB call_isi rfl b.isi boot_isinstance (pa_cons (pv 1) (pa_cons (pe_bltn (v := .ty "int") rfl b.int boot_int rfl) pa_nil)))))
          (pw_or1 (pt_val (pe_callB call_isi rfl b.isi boot_isinstance (pa_cons (pv 1) (pa_cons (pe_bltn (v := .ty "bool") rfl b.bool boot_bool rfl) pa_nil))))))) pss_never pss_nil)))
      (pss_one (ps_ret (pe_tup (pa_cons (pe_fld (pv 0) rfl) (pa_cons (pe_fld (pv 0) rfl) pa_nil))))))), ?_⟩
    refine ⟨_, rfl, _, _, _, _, true, rfl, ClsV.own C, TyX.base (TyOf.ins hp T.cl S.ha S.hn S.htk S.hm), S.kit, true, rfl, ?_⟩
    refine iteF ?_
    refine ⟨_, rfl, p, C, dp, _, _, rfl, hp, T.cl, T.nt, shF_top q, _, rfl, p, C, dp, _, _, rfl, hp, T.cl, T.nb, shF_bot q, by show 2 ≤ sizeLine; decide, fun u hu => ?_⟩
    have npu : p ≠ u := ne_of_none hp hu
    refine ⟨u, rfl, ⟨_, SqT.of upd_same⟩, for_tup (K := K) (xs := [.int q.1, .int q.2]) (fun i σ H2 => H2 = upd H u (.tup [.int q.1, .int q.2]) ∧ ∃ v, σ = [some (.ref p), v])
      ⟨rfl, none, rfl⟩ (fun i σ H2 _ h => by rw [h.1]; exact SqT.of upd_same) ?_ ?_⟩
    · rintro i y σ H2 hi ⟨rfl, v, rfl⟩
      have hy : ∃ n : Int, y = .int n := by
        match i, hi with
        | 0, e => exact ⟨_, (Option.some.inj e).symm⟩
        | 1, e => exact ⟨_, (Option.some.inj e).symm⟩
      obtain ⟨n, rfl⟩ := hy
      refine ⟨_, rfl, _, _, _, _, true, rfl, ClsV.ty _, TyX.base (TyOf.int n), kit_ty (by decide +kernel), true, rfl, ?_⟩
      refine iteF ?_
      refine ⟨_, rfl, _, _, _, _, false, rfl, ClsV.ty _, TyX.base (TyOf.int n), kit_ty (by decide +kernel), false, rfl, ?_⟩
      exact iteF ⟨rfl, _, rfl⟩
    · rintro σ H2 ⟨rfl, v, rfl⟩
      have hp2 : (upd H u (.tup [.int q.1, .int q.2])) p = some (.ins C dp (shF q)) := by rw [upd_ne npu]; exact hp
      refine ⟨_, rfl, p, C, dp, _, _, rfl, hp2, T.cl, T.nt, shF_top q, _, rfl, p, C, dp, _, _, rfl, hp2, T.cl, T.nb, shF_bot q, by show 2 ≤ sizeLine; decide, fun r hr => ?_⟩
      exact hQ r _ ((same_new hu).trans (same_new hr)) ((same_new hu).free hr) upd_same
/-- two Shares in, a Share out -/
def sp2 (C : Addr) (g : Rat → Rat → Rat) : Sp := fun vs H Q _ => ∃ (p q : Addr) (r s : Rat) (n : Nat), vs = [.ref p, .ref q] ∧ Sh C H p (pr r) ∧ Sh C H q (pr s) ∧ Sz n r ∧ Sz n s ∧ 0 < n ∧ n ≤ 4000 ∧
  ∀ t H', Same H H' → H t = none → Sh C H' t (pr (g r s)) → Q (.ref t) H'
theorem plusR {vs : List V} {H : Hp} {Q : VK} {E : XK} (h : sp2 C (· + ·) vs H Q E) : sp_plus C vs H Q E := by
  obtain ⟨p, q, r, s, n, e, hp, hq, sr, ss, n0, n9, k⟩ := h
  refine ⟨p, q, _, _, n, e, hp, hq, ⟨bd_of sr, bd_of ss, n0, n9⟩, fun t H' a b c => k t H' a b ?_⟩
  rw [KM.pr_plus] at c
  exact c
abbrev MakS1 (P : Program) (w : World) (K : PySem.W.Frag) (mg : Str → Option Value) (base : Heap) (C : Addr) : Prop := Mak P w K mg base 2 "Share" C (spInit C) [.int 1]
theorem mk_in {C x dx : Addr} {H1 : Hp} {t b : Int} {n : Nat} {Qv : VK} {E : XK} (nx : H1 x = none) (nd : H1 dx = none) (hb : b ≠ 0) (hn : b.natAbs < 2 ^ n) (hn0 : 0 < n) (hn9 : n ≤ 9000)
    (hQ : ∀ H', Same H1 H' → Sh C H' x (pr (Rat.divInt t b)) → Qv .non H') : spInit C [.ref x, .int t, .int b] (upd (upd H1 dx (.own x)) x (.ins C dx [])) Qv E := by
  refine ⟨x, dx, t, b, n, rfl, hb, hn, hn0, hn9, upd_same, fun H' kp hp => hQ H' (fun a o e => ?_) ⟨dx, KM.low_eq hb ▸ hp⟩⟩
  refine kp a o (ne_of_none e nx) ?_
  rw [upd_ne (ne_of_none e nx), upd_ne (ne_of_none e nd)]
  exact e
end
end K03
set_option Elab.async false
set_option linter.all false
set_option maxRecDepth 100000
set_option maxHeartbeats 4000000
/-! NM: the names that a law draws: words by a base, a place, a spot and a way. -/
namespace NM
open PySem PySem.Spec
def ok (l : List Nat) : Prop := 1 ≤ l.length ∧ l.length ≤ 8 ∧ ∀ c ∈ l, 97 ≤ c ∧ c ≤ 122
def words : List (List Nat) := [[108, 97, 116, 101], [105, 110], [111, 117, 116], [114, 105, 100, 101], [104, 97, 110, 100], [108, 97, 99, 107], [121, 101, 115], [110, 111], [110, 97, 109, 101, 115], [103, 111, 110, 101], [116, 101, 120, 116], [112, 108, 97, 110], [117, 110, 100, 111], [117, 115, 117, 97, 108], [98, 97, 99, 107], [108, 101, 97, 118, 101]]
def lets : List Nat := (List.range 26).map (97 + ·)
def w0 (bs : List Nat) (at_ spot k : Nat) : List Nat := bs.take at_ ++ [97 + (spot + 5 * k) % 26] ++ bs.drop (at_ + 1)
def w1 (bs : List Nat) (at_ spot k : Nat) : List Nat := (w0 bs at_ spot k).take (bs.length - k % (bs.length - at_))
def w2 (spot k : Nat) : List Nat := (List.replicate 8 (97 + (spot + k / 8) % 26)).take (k % 8 + 1)
def w3 (spot k : Nat) : List Nat := words.getD ((spot + k) % 16) []
def word (bs : List Nat) (at_ spot way k : Nat) : List Nat := if way = 1 then w1 bs at_ spot k else if way = 2 then w2 spot k else if way = 3 then w3 spot k else w0 bs at_ spot k
theorem words_ok : ∀ i, i < 16 → ok (words.getD i []) := by
  have : ∀ i : Fin 16, 1 ≤ (words.getD i.1 []).length ∧ (words.getD i.1 []).length ≤ 8 ∧ (words.getD i.1 []).all (fun c => decide (97 ≤ c ∧ c ≤ 122)) = true := by decide +kernel
  intro i hi
  obtain ⟨h1, h2, h3⟩ := this ⟨i, hi⟩
  refine ⟨h1, h2, fun c hc => ?_⟩
  have := List.all_eq_true.mp h3 c hc
  exact of_decide_eq_true this
theorem words_inj : ∀ i j, i < 16 → j < 16 → words.getD i [] = words.getD j [] → i = j := by
  have : ∀ i j : Fin 16, words.getD i.1 [] = words.getD j.1 [] → i = j := by decide +kernel
  intro i j hi hj e
  exact congrArg Fin.val (this ⟨i, hi⟩ ⟨j, hj⟩ e)
section
variable {bs : List Nat} {at_ spot k : Nat}
theorem w0_len (h : at_ < bs.length) : (w0 bs at_ spot k).length = bs.length := by
  unfold w0
  simp only [List.length_append, List.length_take, List.length_drop, List.length_cons, List.length_nil]
  omega
theorem w0_at (h : at_ < bs.length) : (w0 bs at_ spot k)[at_]? = some (97 + (spot + 5 * k) % 26) := by
  unfold w0
  rw [List.append_assoc, List.getElem?_append_right (by rw [List.length_take]; omega), List.length_take, Nat.min_eq_left (by omega), Nat.sub_self]
  rfl
theorem w0_mem (hb : ∀ c ∈ bs, 97 ≤ c ∧ c ≤ 122) : ∀ c ∈ w0 bs at_ spot k, 97 ≤ c ∧ c ≤ 122 := by
  intro c hc
  unfold w0 at hc
  rcases List.mem_append.mp hc with hc | hc
  · rcases List.mem_append.mp hc with hc | hc
    · exact hb c (List.mem_of_mem_take hc)
    · rw [List.mem_singleton] at hc
      omega
  · exact hb c (List.mem_of_mem_drop hc)
theorem w1_len (h : at_ < bs.length) : at_ + 1 ≤ (w1 bs at_ spot k).length ∧ (w1 bs at_ spot k).length ≤ bs.length := by
  unfold w1
  rw [List.length_take, w0_len h]
  have := Nat.mod_lt k (show 0 < bs.length - at_ by omega)
  omega
theorem w1_at (h : at_ < bs.length) : (w1 bs at_ spot k)[at_]? = some (97 + (spot + 5 * k) % 26) := by
  have h1 := (w1_len (spot := spot) (k := k) h).1
  unfold w1 at h1 ⊢
  rw [List.length_take, w0_len h] at h1
  rw [List.getElem?_take_of_lt (by omega)]
  exact w0_at h
theorem spot_inj {i j : Nat} (hi : i < 16) (hj : j < 16) (e : 97 + (spot + 5 * i) % 26 = 97 + (spot + 5 * j) % 26) : i = j := by omega
theorem word_ok (hb0 : 1 ≤ bs.length) (hb8 : bs.length ≤ 8) (hb : ∀ c ∈ bs, 97 ≤ c ∧ c ≤ 122) (h : at_ < bs.length) (way : Nat) : ok (word bs at_ spot way k) := by
  unfold word
  split
  · have := w1_len (spot := spot) (k := k) h
    exact ⟨by omega, by omega, fun c hc => w0_mem hb c (List.mem_of_mem_take hc)⟩
  split
  · unfold w2
    refine ⟨by rw [List.length_take, List.length_replicate]; omega, by rw [List.length_take, List.length_replicate]; omega, fun c hc => ?_⟩
    have := List.eq_of_mem_replicate (List.mem_of_mem_take hc)
    omega
  split
  · exact words_ok _ (Nat.mod_lt _ (by decide))
  · exact ⟨by rw [w0_len h]; exact hb0, by rw [w0_len h]; exact hb8, w0_mem hb⟩
theorem word_inj (h : at_ < bs.length) (way : Nat) {i j : Nat} (hi : i < 16) (hj : j < 16) (e : word bs at_ spot way i = word bs at_ spot way j) : i = j := by
  unfold word at e
  split at e
  · have h1 := w1_at (spot := spot) (k := i) h
    rw [e, w1_at h] at h1
    exact (spot_inj hj hi (Option.some.inj h1)).symm
  split at e
  · unfold w2 at e
    have hl := congrArg List.length e
    rw [List.length_take, List.length_take, List.length_replicate, List.length_replicate] at hl
    have h0 : ((List.replicate 8 (97 + (spot + i / 8) % 26)).take (i % 8 + 1))[0]? = ((List.replicate 8 (97 + (spot + j / 8) % 26)).take (j % 8 + 1))[0]? := by rw [e]
    rw [List.getElem?_take_of_lt (by omega), List.getElem?_take_of_lt (by omega), List.getElem?_replicate, List.getElem?_replicate, if_pos (by decide), if_pos (by decide)] at h0
    have := Option.some.inj h0
    omega
  split at e
  · have := words_inj _ _ (Nat.mod_lt _ (by decide)) (Nat.mod_lt _ (by decide)) e
    omega
  · have h1 := w0_at (spot := spot) (k := i) h
    rw [e, w0_at h] at h1
    exact (spot_inj hj hi (Option.some.inj h1)).symm
/-- as many as are asked: unlike ones -/
theorem all_unlike (h : at_ < bs.length) (way n : Nat) (hn : n ≤ 16) : ((List.range n).map (word bs at_ spot way)).Pairwise (· ≠ ·) := by
  rw [List.pairwise_map]
  refine (List.pairwise_lt_range (n := n)).imp_of_mem fun {a b} ha hb hlt e => ?_
  have := word_inj h way (by have := List.mem_range.mp ha; omega) (by have := List.mem_range.mp hb; omega) e
  omega
end
end NM
set_option Elab.async false
set_option linter.all false
set_option maxRecDepth 100000
set_option maxHeartbeats 4000000
/-! NH: the names that a law with a held dict draws. -/
namespace NH
open PySem PySem.Spec
def word (bs : List Nat) (at_ begin_ step lot k : Nat) : List Nat := bs.take at_ ++ [97 + (begin_ + step * k) % 26] ++ (bs.drop at_).take (if lot = 0 then 8 else k % (bs.length - at_ + 1))
def steps : List Nat := [1, 3, 5, 7, 9, 11, 15, 17]
section
variable {bs : List Nat} {at_ begin_ step lot k : Nat}
theorem word_at (h : at_ ≤ bs.length) : (word bs at_ begin_ step lot k)[at_]? = some (97 + (begin_ + step * k) % 26) := by
  unfold word
  rw [List.append_assoc, List.getElem?_append_right (by rw [List.length_take]; omega), List.length_take, Nat.min_eq_left h, Nat.sub_self]
  rfl
theorem step_inj {i j : Nat} (hs : step ∈ steps) (hi : i < 13) (hj : j < 13) (e : 97 + (begin_ + step * i) % 26 = 97 + (begin_ + step * j) % 26) : i = j := by
  simp only [steps, List.mem_cons, List.not_mem_nil, or_false] at hs
  rcases hs with rfl | rfl | rfl | rfl | rfl | rfl | rfl | rfl <;> omega
theorem word_inj (h : at_ ≤ bs.length) (hs : step ∈ steps) {i j : Nat} (hi : i < 13) (hj : j < 13) (e : word bs at_ begin_ step lot i = word bs at_ begin_ step lot j) : i = j := by
  have h1 := word_at (begin_ := begin_) (step := step) (lot := lot) (k := i) h
  rw [e, word_at h] at h1
  exact (step_inj hs hj hi (Option.some.inj h1)).symm
theorem word_ok (h8 : bs.length ≤ 7) (hb : ∀ c ∈ bs, 97 ≤ c ∧ c ≤ 122) (h : at_ ≤ bs.length) : NM.ok (word bs at_ begin_ step lot k) := by
  unfold word
  refine ⟨?_, ?_, fun c hc => ?_⟩
  · simp only [List.length_append, List.length_take, List.length_drop, List.length_cons, List.length_nil]
    omega
  · simp only [List.length_append, List.length_take, List.length_drop, List.length_cons, List.length_nil]
    omega
  · rcases List.mem_append.mp hc with hc | hc
    · rcases List.mem_append.mp hc with hc | hc
      · exact hb c (List.mem_of_mem_take hc)
      · rw [List.mem_singleton] at hc
        omega
    · exact hb c (List.mem_of_mem_drop (List.mem_of_mem_take hc))
theorem all_unlike (h : at_ ≤ bs.length) (hs : step ∈ steps) (n : Nat) (hn : n ≤ 13) : ((List.range n).map (word bs at_ begin_ step lot)).Pairwise (· ≠ ·) := by
  rw [List.pairwise_map]
  refine (List.pairwise_lt_range (n := n)).imp_of_mem fun {a b} ha hb hlt e => ?_
  have := word_inj h hs (by have := List.mem_range.mp ha; omega) (by have := List.mem_range.mp hb; omega) e
  omega
end
end NH
set_option Elab.async false
set_option linter.all false
set_option maxRecDepth 100000
set_option maxHeartbeats 4000000
namespace K03
open PySem PySem.Spec PyProof.Rows L2
open C8 (Cal Mak Met pe_c pe_mk pe_mt pe_mt0)
open SX (S)
theorem lets_S : (Str.ofString "abcdefghijklmnopqrstuvwxyz").cps.toList = NM.lets := by decide +kernel
theorem at_lets {x : Int} {j : Nat} (e : x = (j : Int)) (hj : j < 26) : atI (Str.ofString "abcdefghijklmnopqrstuvwxyz").cps.toList x = some (97 + j) := by
  rw [e, lets_S]
  refine atI_nat ?_
  unfold NM.lets
  rw [List.getElem?_map, List.getElem?_range hj]
  rfl
theorem cut_t {l : List Nat} {x : Int} {j : Nat} (e : x = (j : Int)) (h : j ≤ l.length) : cutS (S l) none (some x) = S (l.take j) := by
  rw [e]
  unfold cutS
  rw [HT.sIx_nat, HT.sIx_none, SX.S_len, Nat.min_eq_left h]
  simp [S]
theorem cut_m {l : List Nat} {x y : Int} {j m : Nat} (e : x = (j : Int)) (e2 : y = ((j + m : Nat) : Int)) (h : j ≤ l.length) : cutS (S l) (some x) (some y) = S ((l.drop j).take m) := by
  rw [e, e2]
  unfold cutS
  rw [HT.sIx_nat, HT.sIx_nat, SX.S_len, Nat.min_eq_left h]
  have e3 : (l.drop j).take (min (j + m) l.length - j) = (l.drop j).take m := by
    by_cases c : j + m ≤ l.length
    · rw [Nat.min_eq_left c, Nat.add_sub_cancel_left]
    · rw [Nat.min_eq_right (by omega), List.take_of_length_le (Nat.le_of_eq (List.length_drop ..)), List.take_of_length_le (by rw [List.length_drop]; omega)]
  simp [S, e3]
theorem ones : ∀ bs : List Nat, ((bs.map fun c => S [c]).map (·.length)).sum = bs.length
  | [] => rfl
  | b :: bs => by
    rw [List.map_cons, List.map_cons, List.sum_cons, ones bs, List.length_cons, SX.S_len]
    simp
    omega
theorem joined : ∀ bs : List Nat, TL.joinL [] (bs.map fun c => [c]) = bs
  | [] => rfl
  | [b] => rfl
  | b :: d :: bs => by
    have := joined (d :: bs)
    simp only [List.map_cons, TL.joinL] at this ⊢
    simp [this]
theorem Held.ne_new {H : Hp} {h u : Addr} {c : Nat} (x : Held H h c) (e : H u = none) : u ≠ h := by
  obtain ⟨l, ns, n, m, h1, _⟩ := x
  exact (ne_of_none h1 e).symm
/-- the held dict's cells aren't at D -/
def Cel (h D : Addr) (H : Hp) : Prop := ∃ la n m, H h = some (.dK (hd0 la n m)) ∧ la ≠ D ∧ h ≠ D
theorem Cel.kp {h D : Addr} {H H' : Hp} (x : Cel h D H) (k : Kp h H H') : Cel h D H' := by
  obtain ⟨la, n, m, e, n1, n2⟩ := x
  obtain ⟨n', m', e'⟩ := k.2 _ _ _ e
  exact ⟨la, n', m', e', n1, n2⟩
theorem Cel.of {h D : Addr} {H : Hp} {c : Nat} (x : Held H h c) (f : H D = none) : Cel h D H := by
  obtain ⟨la, ns, n, m, e1, e2, _⟩ := x
  exact ⟨la, n, m, e1, ne_of_none e2 f, ne_of_none e1 f⟩
theorem Cel.ne {h D : Addr} {H : Hp} (x : Cel h D H) : D ≠ h := by
  obtain ⟨_, _, _, _, _, n⟩ := x
  exact n.symm
theorem Held.put {h D : Addr} {H : Hp} {o : HO} {c : Nat} (x : Held H h c) (y : Cel h D H) : Held (upd H D o) h c := by
  obtain ⟨la, ns, n, m, e1, e2, e3⟩ := x
  obtain ⟨la', n', m', e', n1, n2⟩ := y
  cases hd_inj (Option.some.inj (e1.symm.trans e'))
  exact ⟨la, ns, n, m, by rw [upd_ne n2]; exact e1, by rw [upd_ne n1]; exact e2, e3⟩
theorem Cel.put {h D D' : Addr} {H : Hp} {o : HO} (x : Cel h D H) (n : h ≠ D') : Cel h D (upd H D' o) := by
  obtain ⟨la', n', m', e', n1, n2⟩ := x
  exact ⟨la', n', m', by rw [upd_ne n]; exact e', n1, n2⟩
theorem Kp.new {h st : Addr} {H1 H2 : Hp} {o : HO} (k : Kp h H1 H2) (f : H1 st = none) : Kp h H1 (upd H2 st o) :=
  ⟨fun b u e ne => by rw [upd_ne (ne_of_none e f)]; exact k.1 b u e ne, fun l n m e => by
    obtain ⟨n', m', e'⟩ := k.2 l n m e
    exact ⟨n', m', by rw [upd_ne (ne_of_none e f)]; exact e'⟩⟩
theorem pick {α : Type} (g : α → V) {L : List α} {i : Int} (i0 : 0 ≤ i) (i1 : i < (L.length : Int)) : ∃ x ∈ L, atI (L.map g) i = some (g x) := by
  obtain ⟨j, rfl⟩ := Int.eq_ofNat_of_zero_le i0
  have hj : j < L.length := by omega
  exact ⟨L[j], List.getElem_mem hj, atI_nat (j := j) (by rw [List.getElem?_map, List.getElem?_eq_getElem hj]; rfl)⟩
section
variable {P : Program} {w : World} {K : PySem.W.Frag} {mg : Str → Option Value} {base : Heap} {f C : Addr} {fd : FuncData}
def spNames : Sp := fun vs H Q _ => ∃ (h : Addr) (c n : Nat), vs = [.ref h, .int n] ∧ Held H h (c + 40) ∧ n ≤ 13 ∧
  ∀ (o : Addr) (zs : List (List Nat)) (H' : Hp), Held H' h c → Kp h H H' → H o = none → H' o = some (.lst (zs.map fun l => V.str (S l))) → zs.length = n → (∀ z ∈ zs, NM.ok z) → zs.Pairwise (· ≠ ·) → Q (.ref o) H'
theorem ok_names (F : Dn K d_l_names f fd) (bl : Bl mg) (cD : CalD P w K mg base) : FnOk P w K mg base CX0 2 f fd ["_law_held_here", "_law_many"] spNames := by
  refine F.ok sc_l_names (fun vs H Q E h => ?_) (fun cdv A outer s H vs Q E hr h => ?_)
  · obtain ⟨p, c, n, rfl, _⟩ := h
    rfl
  · obtain ⟨p, c, n, rfl, pen, hn, hQ⟩ := h
    refine ⟨_, PSs.nox (pss_cons (ps_set (i := 2) sc_l_names.nd rfl (.inr rfl) pe_str)
      (pss_cons (ps_set (i := 3) sc_l_names.nd rfl (.inl rfl) (pe_c cD hr (by decide) rfl (pa_cons (pv 0) (pa_cons pe_int pa_nil))))
      (C8.pss_cut (ps_set (i := 5) sc_l_names.nd rfl (.inl rfl) (pe_join pe_str (pe_lc (own := [("_law_k", 4)]) (g := gName 4) (tt := tYes) rfl sc_l_names.nd (pi_range1 rfl bl.range (pa_cons (pv 3) pa_nil)) (blkOk_by (N := N_l_names) (sc := defScope s_l_names) (by decide +kernel))
          (fun _ _ _ _ _ => pg_name (i := 4) sc_l_names.nd rfl (Or.inl rfl)) (fun _ _ _ _ _ => pts_nil) (fun _ _ _ _ _ => pe_ix ix_str (pv 2) (pe_c cD hr (by decide) rfl (pa_cons (pv 0) (pa_cons pe_int pa_nil))) (fun _ _ => rfl)))))
      (pss_cons (ps_par (i := 6) (j := 7) rfl sc_l_names.nd rfl rfl (by decide) rfl rfl (pa_cons (pe_c cD hr (by decide) rfl (pa_cons (pv 0) (pa_cons (pe_op op_add (pv 3) pe_int) pa_nil))) (pa_cons (pe_c cD hr (by decide) rfl (pa_cons (pv 0) (pa_cons pe_int pa_nil))) pa_nil)) rfl)
      (pss_cons (ps_par (i := 8) (j := 9) rfl sc_l_names.nd rfl rfl (by decide) rfl rfl (pa_cons (pe_ix ix_list (pe_lst (pa_cons pe_int (pa_cons pe_int (pa_cons pe_int (pa_cons pe_int (pa_cons pe_int (pa_cons pe_int (pa_cons pe_int (pa_cons pe_int pa_nil))))))))) (pe_c cD hr (by decide) rfl (pa_cons (pv 0) (pa_cons pe_int pa_nil))) (fun _ _ => rfl)) (pa_cons (pe_c cD hr (by decide) rfl (pa_cons (pv 0) (pa_cons pe_int pa_nil))) pa_nil)) rfl)
      (pss_cons (ps_set (i := 10) sc_l_names.nd rfl (.inl rfl) (pe_lst pa_nil))
      (pss_cons (ps_for PassesOwn.never rfl (pi_range1 rfl bl.range (pa_cons (pv 1) pa_nil)) (pg_name (i := 4) sc_l_names.nd rfl (.inl rfl))
        (C8.pss_cut (ps_set (i := 11) sc_l_names.nd rfl (.inl rfl) (pe_slice sl_str (pv 5) (po_some (pv 6)) (po_some (pe_op op_add (pv 6) (pe_ix ix_list (pe_lst (pa_cons pe_int (pa_cons (pe_op op_mod (pv 4) (pe_op op_add (pe_op op_sub (pv 3) (pv 6)) pe_int)) pa_nil))) (pv 9) (fun _ _ => rfl))))))
        (pss_one (ps_expr (pe_bm PySem.F.plainAttrs_list PySem.F.slot_list_append PySem.F.type_list_append mt_append (pv 10) (pa_cons (pe_op op_add_str (pe_op op_add_str (pe_slice sl_str (pv 5) po_none (po_some (pv 6))) (pe_ix ix_str (pv 2) (pe_op op_mod (pe_op op_add (pv 7) (pe_op op_mul (pv 8) (pv 4))) pe_int) (fun _ _ => rfl))) (pv 11)) pa_nil))))))
      (pss_one (ps_ret (pv 10)))))))))), ?_⟩
    -- the size
    refine ⟨_, rfl, p, c + 39, _, rfl, pen, by decide, by decide, fun z0 H2 a2 b2 pen2 k2 => ?_⟩
    obtain ⟨sz, rfl⟩ := Int.eq_ofNat_of_zero_le a2
    have sz7 : sz ≤ 7 := by omega
    -- the base
    refine ⟨fun σ' H' => ∃ bs : List Nat, σ' = [some (.ref p), some (.int n), some (.str (Str.ofString "abcdefghijklmnopqrstuvwxyz")), some (.int (sz : Int)), none, some (.str (S bs)), none, none, none, none, none, none] ∧ bs.length = sz ∧ (∀ c ∈ bs, 97 ≤ c ∧ c ≤ 122) ∧
      Held H' p (c + 30) ∧ Kp p H H', ?_, ?_⟩
    · refine ⟨⟨_, rfl⟩, _, rfl, _, rfl, by omega, by omega, ?_⟩
      rw [Int.toNat_natCast]
      intro D hD
      have offD := Cel.of pen2 hD
      have sD := same_new (o := .lst []) hD
      refine lc_range (n := sz) (fun i H3 => ∃ bs : List Nat, bs.length = i ∧ (∀ c ∈ bs, 97 ≤ c ∧ c ≤ 122) ∧ H3 D = some (.lst (bs.map fun c => V.str (S [c]))) ∧ Held H3 p (c + 39 - i) ∧ Kp p H2 H3 ∧ Cel p D H3) ?_ ?_ ?_
      · exact ⟨[], rfl, by simp, upd_same, pen2.same sD, Kp.same sD, offD.kp (Kp.same sD)⟩
      · rintro i H3 hi ⟨bs, hbl, hbc, hd, pen3, k3, off3⟩
        refine ⟨rfl, ?_⟩
        refine ⟨_, rfl, _, rfl, p, c + 39 - (i + 1), _, rfl, pen3.weak (by omega), by decide, by decide, fun r H4 r0 r1 pen4 k4 => ?_⟩
        obtain ⟨rn, rfl⟩ := Int.eq_ofNat_of_zero_le r0
        have hd4 := k4.1 _ _ hd off3.ne
        have off4 := off3.kp k4
        refine ⟨_, _, 97 + rn, rfl, rfl, by decide +kernel, at_lets rfl (by omega), _, hd4, ?_, bs ++ [97 + rn], by simp [hbl], ?_, ?_, pen4.put off4, (k3.trans k4).new hD, ?_⟩
        · rw [List.length_map, hbl]
          exact Nat.lt_of_lt_of_le (by omega : i < 64) (by decide)
        · intro c' hc'
          rcases List.mem_append.mp hc' with hc' | hc'
          · exact hbc c' hc'
          · rw [List.mem_singleton] at hc'
            omega
        · rw [upd_same]
          simp [S]
        · exact off4.put off4.ne.symm
      · rintro H3 ⟨bs, hbl, hbc, hd, pen3, k3, off3⟩
        have ey : (bs.map fun c => V.str (S [c])) = (bs.map fun c => S [c]).map V.str := by rw [List.map_map]; rfl
        refine ⟨_, D, bs.map fun c => S [c], rfl, rfl, .inl (by rw [← ey]; exact SqL.of hd), ?_, bs, ?_, hbl, hbc, pen3.weak (by omega), k2.trans k3⟩
        · rw [ones bs, List.length_map]
          have e2 : (Str.ofString "").length = 0 := by decide +kernel
          rw [e2, hbl]
          omega
        · have e3 : Txt.join (Str.ofString "") (bs.map fun c => S [c]) = S bs := by
            have e4 : Str.ofString "" = S [] := by decide +kernel
            have e5 : (bs.map fun c => S [c]) = (bs.map fun c => [c]).map S := by rw [List.map_map]; rfl
            rw [e4, e5, SX.join_S, joined]
          rw [e3]
          rfl
    clear pen pen2 k2
    rintro σ' H3 ⟨bs, rfl, hbl, hbc, pen3, k3⟩
    refine ⟨_, rfl, _, rfl, _, _, rfl, rfl, p, c + 29, _, rfl, pen3, by omega, by omega, fun at_ H4 a4 b4 pen4 k4 => ?_⟩
    refine ⟨_, rfl, p, c + 28, _, rfl, pen4, by decide, by decide, fun bg H5 a5 b5 pen5 k5 => ⟨_, _, rfl, ?_⟩⟩
    refine ⟨by show 8 ≤ sizeLine; decide, fun u fu => ?_⟩
    have su := same_new (o := .lst [.int 1, .int 3, .int 5, .int 7, .int 9, .int 11, .int 15, .int 17]) fu
    refine ⟨_, rfl, p, c + 27, 8, rfl, pen5.same su, by decide, by decide, fun q6 H6 a6 b6 pen6 k6 => ?_⟩
    have hu6 := k6.1 u _ upd_same (pen5.ne_new fu)
    obtain ⟨st, hst, est⟩ := pick (fun n : Nat => V.int (n : Int)) (L := NH.steps) a6 (by simpa [NH.steps] using b6)
    refine ⟨u, _, _, _, rfl, rfl, SqL.of hu6, est, ?_⟩
    refine ⟨_, rfl, p, c + 26, 2, rfl, pen6, by decide, by decide, fun lot H7 a7 b7 pen7 k7 => ⟨_, _, rfl, ?_⟩⟩
    obtain ⟨at_, rfl⟩ := Int.eq_ofNat_of_zero_le a4
    obtain ⟨bg, rfl⟩ := Int.eq_ofNat_of_zero_le a5
    obtain ⟨lot, rfl⟩ := Int.eq_ofNat_of_zero_le a7
    have hat : at_ ≤ bs.length := by omega
    have k07 := ((k3.trans k4).trans k5).trans (((Kp.same su).trans k6).trans k7)
    have st17 : st ≤ 17 := by
      simp only [NH.steps, List.mem_cons, List.not_mem_nil, or_false] at hst
      omega
    clear k3 k4 k5 k6 k7 su pen3 pen4 pen5 pen6
    refine ⟨by show 0 ≤ sizeLine; decide, fun o fo => ?_⟩
    have so := same_new (o := .lst []) fo
    refine ⟨_, rfl, _, rfl, by omega, by omega, ?_⟩
    rw [Int.toNat_natCast]
    have fo0 : H o = none := by
      cases e : H o with
      | none => rfl
      | some ob =>
        by_cases z : o = p
        · rw [z] at fo
          obtain ⟨l0, ns0, n0, m0, h0, _⟩ := pen7
          rw [h0] at fo
          cases fo
        · rw [k07.1 o ob e z] at fo
          cases fo
    refine for_range (n := n) (fun i σ H8 => ∃ (v4 v11 : Option V), σ = [some (.ref p), some (.int n), some (.str (Str.ofString "abcdefghijklmnopqrstuvwxyz")), some (.int (sz : Int)), v4, some (.str (S bs)), some (.int (at_ : Int)), some (.int (bg : Int)), some (.int (st : Int)), some (.int (lot : Int)), some (.ref o), v11] ∧
        H8 o = some (.lst (((List.range i).map (NH.word bs at_ bg st lot)).map fun l => V.str (S l))) ∧ Held H8 p c ∧ Kp p H H8 ∧ Cel p o H8)
      ⟨none, none, rfl, upd_same, (pen7.same so).weak (by omega), k07.trans (Kp.same so), (Cel.of pen7 fo).kp (Kp.same so)⟩ ?_ ?_
    · rintro i σ H8 hi ⟨v4, v11, rfl, ho8, pen8, k8, off8⟩
      have len0 : (S bs).length ≤ sizeLine := by rw [SX.S_len]; exact Nat.le_trans (by omega : bs.length ≤ 8) (by decide)
      have lets_len : (Str.ofString "abcdefghijklmnopqrstuvwxyz").length ≤ sizeLine := by decide +kernel
      obtain ⟨m, hm⟩ : ∃ m : Nat, (if lot = 0 then 8 else i % (bs.length - at_ + 1)) = m := ⟨_, rfl⟩
      refine ⟨fun σ' H' => σ' = [some (.ref p), some (.int n), some (.str (Str.ofString "abcdefghijklmnopqrstuvwxyz")), some (.int (sz : Int)), some (.int (0 + (i : Int))), some (.str (S bs)), some (.int (at_ : Int)), some (.int (bg : Int)), some (.int (st : Int)), some (.int (lot : Int)), some (.ref o), some (.str (S ((bs.drop at_).take m)))] ∧ Same H8 H', ?_, ?_⟩
      · refine ⟨_, rfl, _, rfl, _, rfl, _, rfl, _, rfl, _, rfl, _, rfl, _, _, rfl, rfl, _, _, rfl, rfl, _, _, rfl, rfl, by omega, by show 2 ≤ sizeLine; decide, fun u2 fu2 => ?_⟩
        have eix : atI [V.int 8, .int ((0 + (i : Int)) % ((sz : Int) - (at_ : Int) + 1))] (lot : Int) = some (.int (m : Nat)) := by
          rcases (show lot = 0 ∨ lot = 1 by omega) with rfl | rfl
          · rw [← hm]
            rfl
          · have h1 : ((sz : Int) - (at_ : Int) + 1) = ((bs.length - at_ + 1 : Nat) : Int) := by omega
            rw [h1, Int.zero_add, ← Int.natCast_emod, ← hm]
            rfl
        refine ⟨_, rfl, u2, _, _, _, rfl, rfl, SqL.of upd_same, eix, _, _, rfl, rfl, _, rfl, _, rfl, len0, ?_⟩
        rw [cut_m (j := at_) (m := m) rfl (by omega) hat]
        exact ⟨rfl, same_new fu2⟩
      · rintro σ' H9 ⟨rfl, s9⟩
        have ho9 := s9 _ _ ho8
        have e5 : ((bg : Int) + (st : Int) * (0 + (i : Int))) % 26 = (((bg + st * i) % 26 : Nat) : Int) := by
          rw [Int.zero_add, ← Int.natCast_mul, ← Int.natCast_add]
          exact (Int.natCast_emod _ 26).symm
        refine ⟨_, rfl, Or.inl ⟨rfl, _, SqL.of ho9⟩, _, rfl, _, rfl, _, rfl, _, rfl, len0, ?_⟩
        rw [cut_t rfl hat]
        refine ⟨_, rfl, _, rfl, _, rfl, _, rfl, _, _, rfl, rfl, cb_l (by omega) (by omega), _, _, rfl, rfl, _, _, rfl, rfl, (by decide : (0 : Int) < 26), _, _, _, rfl, rfl, lets_len, at_lets e5 (Nat.mod_lt _ (by decide)), _, _, rfl, rfl, ?_, ?_⟩
        · rw [SX.S_len, List.length_take]
          exact Nat.le_trans (by show min at_ bs.length + 1 ≤ 64; omega) (by decide)
        have ec : S (bs.take at_) ++ (⟨#[97 + (bg + st * i) % 26]⟩ : Str) = S (bs.take at_ ++ [97 + (bg + st * i) % 26]) := SX.S_cat _ _
        rw [ec]
        refine ⟨_, rfl, _, _, rfl, rfl, ?_, ?_⟩
        · rw [SX.S_len, SX.S_len, List.length_append, List.length_take, List.length_take, List.length_drop]
          exact Nat.le_trans (by show min at_ bs.length + 1 + min m (bs.length - at_) ≤ 64; omega) (by decide)
        rw [SX.S_cat]
        have ew : bs.take at_ ++ [97 + (bg + st * i) % 26] ++ (bs.drop at_).take m = NH.word bs at_ bg st lot i := by rw [← hm]; rfl
        rw [ew]
        refine ⟨o, _, _, rfl, rfl, ho9, ?_, _, _, rfl, ?_, (pen8.same s9).put (off8.kp (Kp.same s9)), (k8.trans (Kp.same s9)).new fo0, (off8.kp (Kp.same s9)).put off8.ne.symm⟩
        · rw [List.length_map, List.length_map, List.length_range]
          exact Nat.lt_of_lt_of_le (by omega : i < 64) (by decide)
        · rw [upd_same, List.range_succ, List.map_append, List.map_append]
          rfl
    · rintro σ H8 ⟨v4, v11, rfl, ho8, pen8, k8, off8⟩
      refine ⟨_, rfl, hQ o _ H8 pen8 k8 fo0 ho8 (by simp) (fun z hz => ?_) (NH.all_unlike hat hst n hn)⟩
      obtain ⟨k, _, rfl⟩ := List.mem_map.mp hz
      exact NH.word_ok (by omega) hbc hat
end
end K03
set_option Elab.async false
set_option linter.all false
set_option maxRecDepth 100000
set_option maxHeartbeats 4000000
/-! OW: ==, !=, str and repr of instances of an own class by its own __eq__, __str__, __repr__. -/
namespace OW
open PySem PySem.Spec PyProof.Rows L2
/-- what is known of a special def of the class: where it stands, that it keeps its promise -/
structure Spc (P : Program) (w : World) (K : PySem.W.Frag) (mg : Str → Option Value) (base : Heap) (k : Nat) (C : Addr) (m : Str) (sp : Sp) : Prop where
  ex : ∃ (f : Addr) (fd : FuncData) (ps : List Str), PySem.W.findIn K (.ref C) m = some (some (.ref f)) ∧ PySem.W.isFn K (.ref f) = true ∧ FnOk P w K mg base CX0 k f fd ps sp ∧ Binds K fd ps []
section
variable {X : Cx} {pins : List (Addr × Obj)} {σ : L2.St} {H : Hp} {s : Shared} {Q : VK} {k : Nat} {C a b : Addr} {sp : Sp}
/-- a def called at any around with room -/
theorem run_at {f : Addr} {fd : FuncData} {ps : List Str} {A : Around} {us : List Value} {vs : List V} {E' : Value → Shared → Prop} (F : FnOk X.prog X.w X.K X.mg X.base CX0 k f fd ps sp) (hb : Binds X.K fd ps []) (hr : Room k A) (I : Inv X pins σ H s)
    (he : Env0 X.prog X.w X.K X.mg X.base A X.stack s H) (r : Vals vs us) (h : sp vs H Q E0) : wpAny (model X.prog X.w) A (call (.ref f) us) (EP X pins σ Q) E' s := by
  have hl : us.length = ps.length := by rw [← r.length]; exact F.len _ _ _ _ h
  have b := hb s us I.kIn (by rw [List.append_nil]; exact hl)
  rw [List.append_nil] at b
  refine wpAny_call (codeAny_mono (F.run A X.stack s H ⟨us, []⟩ us vs Q E0 hr he b r h) fun r s' hq => ?_)
  cases r with
  | error e => exact False.elim hq
  | ok fl =>
    cases fl with
    | ret u => exact I.after hq
    | next => exact False.elim hq
    | brk => exact False.elim hq
    | cont => exact False.elim hq
theorem same_first : PySem.W.notFirst X.K C (.ref C) = true := by
  unfold PySem.W.notFirst
  rw [beq_self_eq_true, Bool.true_or]
/-- x == y, both of the class -/
def rEqO (C : Addr) (sp : Sp) : R2 := fun x y H Q => ∃ a dx fs b dy gs, x = .ref a ∧ y = .ref b ∧ H a = some (.ins C dx fs) ∧ H b = some (.ins C dy gs) ∧ sp [x, y] H (fun v H' => ∃ z, v = .bl z ∧ Q (.bl z) H') E0
def rNeO (C : Addr) (sp : Sp) : R2 := fun x y H Q => ∃ a dx fs b dy gs, x = .ref a ∧ y = .ref b ∧ H a = some (.ins C dx fs) ∧ H b = some (.ins C dy gs) ∧ sp [x, y] H (fun v H' => ∃ z, v = .bl z ∧ Q (.bl (!z)) H') E0
theorem op_eqO (S : Spc X.prog X.w X.K X.mg X.base k C "__eq__" sp) (hr : Room k X.A) : OpR X (compareOp .Eq) (rEqO C sp) := by
  obtain ⟨f, fd, ps, h1, h2, F, hb⟩ := S.ex
  intro pins s σ H x y v u Q I rx ry h
  obtain ⟨a, dx, fs, b, dy, gs, rfl, rfl, ea, eb, q⟩ := h
  cases (show v = Value.ref a from rx)
  cases (show u = Value.ref b from ry)
  obtain ⟨mA, O, _⟩ := ins_get I.hok ea
  obtain ⟨od, J, _⟩ := O.look
  obtain ⟨mB, O', _⟩ := ins_get I.hok eb
  obtain ⟨od', J', _⟩ := O'.look
  obtain ⟨m, hF⟩ := I.fr
  show wpAny _ _ (richCompare .Eq (.ref a) (.ref b)) _ _ _
  refine PySem.W.cmp_K (op := .Eq) (tb := .ref C) hr.units0 hF I.ok.mod.kin J J'.type same_first h1 h2 ?_
  refine wpAny_mono (run_at (E' := X.xe) (vs := [.ref a, .ref b]) F hb hr I I.env0 (.cons rfl (.cons rfl .nil)) q) (fun w s' z => ?_) fun _ _ x => x
  obtain ⟨z', H', I', rz, z, rfl, qz⟩ := z
  cases (show w = Value.bool z from rz)
  exact ⟨.bl z, H', I', rfl, qz⟩
open Builtin in
theorem op_neO (S : Spc X.prog X.w X.K X.mg X.base (k + 1) C "__eq__" sp) (hn : PySem.W.findIn X.K (.ref C) "__ne__" = some (some (.builtin "object.__ne__"))) (hm : PySem.W.mroIn X.K C (.type "object") = some true) (hr : Room (k + 2) X.A) : OpR X (compareOp .NotEq) (rNeO C sp) := by
  obtain ⟨f, fd, ps, h1, h2, F, hb⟩ := S.ex
  intro pins s σ H x y v u Q I rx ry h
  obtain ⟨a, dx, fs, b, dy, gs, rfl, rfl, ea, eb, q⟩ := h
  cases (show v = Value.ref a from rx)
  cases (show u = Value.ref b from ry)
  obtain ⟨mA, O, _⟩ := ins_get I.hok ea
  obtain ⟨od, J, _⟩ := O.look
  obtain ⟨mB, O', _⟩ := ins_get I.hok eb
  obtain ⟨od', J', _⟩ := O'.look
  have KI := I.kIn
  have callEq : wpAny (model X.prog X.w) X.A.in1 (call (.ref f) [.ref a, .ref b]) (fun v s' => ∃ z, v = .bool z ∧ EP X pins σ Q (.bool (!z)) s') X.xe s := by
    refine wpAny_mono (run_at (E' := X.xe) (vs := [.ref a, .ref b]) F hb hr.in1 I I.env0.in1 (.cons rfl (.cons rfl .nil)) q) (fun w s' z => ?_) fun _ _ x => x
    obtain ⟨z', H', I', rz, z, rfl, qz⟩ := z
    exact ⟨z, rz, .bl (!z), H', I', rfl, qz⟩
  have slot := PySem.F.cmp_object.ne
  have sub : PySem.W.Looks (model X.prog X.w) s.heap (isInstance (.ref a) (.type "object")) true := J.type.andThen (PySem.W.looks_mroIn KI hm)
  have uu : X.A.in1.units < cLine := hr.in1.units0
  have body : wpAny (model X.prog X.w) X.A.in1 (Builtin.«object.__ne__» ⟨[.ref a, .ref b], []⟩) (fun fin s' => match fin with | .done f => (match f with | .ret v => EP X pins σ Q v s' ∧ ∃ z, v = .bool z | _ => False) | .again _ => False) X.xe s := by
    unfold Builtin.«object.__ne__»
    repeat (first
      | with_reducible refine wpAny_cRoomFor uu ?_
      | (refine wpAny_bind (m := callSpecialIfBound? (.ref a) (Str.ofString "__eq__") [.ref b]) (PySem.W.ifBound_K KI J h1 h2 (wpAny_mono callEq (fun r s' hr => by
          obtain ⟨z, rfl, hq⟩ := hr
          repeat (first | exact ⟨hq, _, rfl⟩ | exact wpAny_pure ⟨hq, _, rfl⟩ | (refine wpAny_bind (m := truthy (.bool _)) (wpAny_truthy_bool ?_)) | wp_step)) fun _ _ e => e)))
      | wp_step)
  have callNe : wpAny (model X.prog X.w) X.A (call (.builtin "object.__ne__") [.ref a, .ref b]) (fun v s' => EP X pins σ Q v s' ∧ ∃ z, v = .bool z) X.xe s := by
    refine wpAny_call (codeAny_call_builtin slot.plain PySem.F.cmpEntry_ne (PySem.W.check_slot PySem.F.cmpKind_ne PySem.F.cmpSplit_ne sub (PySem.F.cmpArgs_ne _ _) ?_))
    refine wpAny_mono body (fun fin s' z => ?_) fun _ _ x => x
    cases fin with
    | done fl =>
      cases fl with
      | ret v => exact z
      | next => exact z.elim
      | brk => exact z.elim
      | cont => exact z.elim
    | again c => exact z.elim
  show wpAny _ _ (richCompare .NotEq (.ref a) (.ref b)) _ _ _
  unfold richCompare
  simp only [oneThing_ref]
  refine wpAny_holding (wpAny_bind (wpAny_cRoomFor hr.units0 ?_))
  rw [cmpInfo_NotEq]
  dsimp only
  refine wpAny_bind (J.type.here (wpAny_bind (J'.type.here ?_)))
  rw [show (Value.ref C != Value.ref C) = false from by simp]
  simp only [Bool.false_eq_true, if_false]
  refine wpAny_bind (wpAny_pure ?_)
  simp only [Bool.false_eq_true, if_false, tryCompare]
  have fin : wpAny (model X.prog X.w) X.A (call (.builtin "object.__ne__") ([.ref a] ++ [.ref b]) >>= fun v => pure (some v)) (fun r s' => ∃ v, r = some v ∧ EP X pins σ Q v s' ∧ ∃ z, v = .bool z) X.xe s :=
    wpAny_bind (wpAny_mono callNe (fun v s' h' => wpAny_pure ⟨v, rfl, h'⟩) fun _ _ h' => h')
  have bound : wpAny (model X.prog X.w) X.A (callSpecialIfBound? (.ref a) "__ne__" [.ref b]) (fun r s' => ∃ v, r = some v ∧ EP X pins σ Q v s' ∧ ∃ z, v = .bool z) X.xe s := by
    simp only [callSpecialIfBound?, bindSpecialIfBound?]
    refine wpAny_holding (wpAny_bind (wpAny_bind (wpAny_bind (J.type.here ((PySem.W.looks_findIn KI hn).here ?_)))))
    simp only [slot.bind]
    refine wpAny_bind (wpAny_askSetting (wpAny_ite ?_))
    split
    · exact wpAny_bind (wpAny_pure (wpAny_pure fin))
    · exact wpAny_tryCatch (wpAny_bind (wpAny_pure (wpAny_pure fin)))
  refine wpAny_bind (wpAny_bind (wpAny_mono bound (fun r s' z => ?_) fun _ _ h => h))
  obtain ⟨v, rfl, hq, z, rfl⟩ := z
  first | exact wpAny_pure (wpAny_pure hq) | exact wpAny_pure hq
/-- str(x), repr(x) -/
def rStrO (C : Addr) (sp : Sp) : List V → Hp → VK → Prop := fun xs H Q => ∃ a dx fs, xs = [.ref a] ∧ H a = some (.ins C dx fs) ∧ sp [.ref a] H (fun v H' => ∃ z, v = .str z ∧ Q (.str z) H') E0
theorem call_strO (S : Spc X.prog X.w X.K X.mg X.base k C "__str__" sp) (hr : Room (k + 2) X.A) : CallR X (.type "str") (rStrO C sp) := by
  obtain ⟨f, fd, ps, h1, h2, F, hb⟩ := S.ex
  intro pins s σ H xs us Q I r h
  obtain ⟨a, dx, fs, rfl, ea, q⟩ := h
  obtain ⟨u, rfl, ru⟩ := vals1 r
  cases (show u = Value.ref a from ru)
  obtain ⟨mA, O, _⟩ := ins_get I.hok ea
  obtain ⟨od, J, _⟩ := O.look
  refine PySem.W.kso_call hr.in1.in1.units0 I.kIn J h1 h2 ?_
  refine wpAny_mono (run_at (E' := X.xe) (vs := [.ref a]) F hb hr.in1.in1 I I.env0.in1.in1 (.cons rfl .nil) q) (fun w s' z => ?_) fun _ _ x => x
  obtain ⟨z', H', I', rz, z, rfl, qz⟩ := z
  obtain ⟨t, rfl⟩ := rz
  exact ⟨.str z, H', I', ⟨t, rfl⟩, qz⟩
theorem call_reprO (S : Spc X.prog X.w X.K X.mg X.base k C "__repr__" sp) (hr : Room (k + 1) X.A) : CallR X (.builtin "repr") (rStrO C sp) := by
  obtain ⟨f, fd, ps, h1, h2, F, hb⟩ := S.ex
  intro pins s σ H xs us Q I r h
  obtain ⟨a, dx, fs, rfl, ea, q⟩ := h
  obtain ⟨u, rfl, ru⟩ := vals1 r
  cases (show u = Value.ref a from ru)
  obtain ⟨mA, O, _⟩ := ins_get I.hok ea
  obtain ⟨od, J, _⟩ := O.look
  obtain ⟨m, hF⟩ := I.fr
  refine PySem.W.repr_K hr.in1.units0 hF I.ok.mod.kin J h1 h2 ?_
  refine wpAny_mono (run_at (E' := X.xe) (vs := [.ref a]) F hb hr.in1 I I.env0.in1 (.cons rfl .nil) q) (fun w s' z => ?_) fun _ _ x => x
  obtain ⟨z', H', I', rz, z, rfl, qz⟩ := z
  obtain ⟨t, rfl⟩ := rz
  exact ⟨.str z, H', I', ⟨t, rfl⟩, qz⟩
end
end OW
set_option linter.all false
set_option Elab.async false
set_option maxRecDepth 100000
/-! TX: the texts of whole numbers and of fractions, sign by sign. -/
namespace TX
open PySem SX TL NumText
/-- the signs of a whole number -/
def intL (i : Int) : List Nat := if i < 0 then 45 :: numL i.natAbs else numL i.natAbs
theorem tl_int (i : Int) : Str.ofString (toString i) = S (intL i) := by
  by_cases h : i < 0
  · obtain ⟨n, rfl⟩ : ∃ n : Nat, i = -((n + 1 : Nat) : Int) := ⟨i.natAbs - 1, by omega⟩
    have e : toString (-((n + 1 : Nat) : Int)) = "-" ++ toString ((n + 1 : Nat) : Int) := by rfl
    unfold intL
    rw [if_pos h, e]
    have e2 : (-((n + 1 : Nat) : Int)).natAbs = n + 1 := by omega
    rw [e2]
    refine TL.ext_tl ?_
    have e3 : (Str.ofString (toString ((n + 1 : Nat) : Int))).cps.toList = numL (n + 1) := tl_num (n + 1)
    show (Str.ofString ("-" ++ toString ((n + 1 : Nat) : Int))).cps.toList = 45 :: numL (n + 1)
    rw [← e3]
    rw [Str.ofString_eq_toList, Str.ofString_eq_toList, String.toList_append]
    rfl
  · obtain ⟨n, rfl⟩ := Int.eq_ofNat_of_zero_le (by omega : 0 ≤ i)
    unfold intL
    rw [if_neg h]
    exact num_S n
theorem no_minus (n : Nat) : 45 ∉ numL n := numL_free (.inl (by decide))
theorem no_stroke_int (i : Int) : 47 ∉ intL i := by
  unfold intL
  split
  · intro h
    rcases List.mem_cons.mp h with z | z
    · cases z
    · exact numL_free (.inl (by decide)) z
  · exact numL_free (.inl (by decide))
theorem minus_S : (Str.ofString "-") = S [45] := by decide +kernel
theorem stroke_S : (Str.ofString "/") = S [47] := by decide +kernel
theorem one_S : (Str.ofString "1") = S [49] := by decide +kernel
theorem zero_S : (Str.ofString "0") = S [48] := by decide +kernel
theorem empty_S : (Str.ofString "") = S [] := by decide +kernel
theorem rp_cons (l : List Nat) : Txt.removeprefix (S (45 :: l)) (S [45]) = S l := by
  rw [StrLaws.removeprefix_eq, StrLaws.subAt_eq]
  have h1 : (decide (0 + (S [45]).length ≤ (S (45 :: l)).length)) = true := by
    rw [S_len, S_len]
    simp
  rw [h1]
  have h2 : (((S (45 :: l)).cps.toList.drop 0).take (S [45]).length == (S [45]).cps.toList) = true := by
    rw [S_len]
    simp
  rw [h2]
  simp only [Bool.and_self, if_true]
  rw [S_len, S_len]
  simp
theorem rp_other {c : Nat} {l : List Nat} (h : c ≠ 45) : Txt.removeprefix (S (c :: l)) (S [45]) = S (c :: l) := by
  rw [StrLaws.removeprefix_eq, StrLaws.subAt_eq]
  have h2 : (((S (c :: l)).cps.toList.drop 0).take (S [45]).length == (S [45]).cps.toList) = false := by
    rw [S_len]
    simp [h]
  rw [h2, Bool.and_false]
  simp
theorem rp_int (i : Int) : Txt.removeprefix (S (intL i)) (S [45]) = S (numL i.natAbs) := by
  unfold intL
  split
  · exact rp_cons _
  · have hne := numL_ne i.natAbs
    have hno := no_minus i.natAbs
    cases hl : numL i.natAbs with
    | nil => exact absurd hl hne
    | cons c l =>
      rw [hl] at hno
      exact rp_other fun z => hno (by rw [z]; exact List.mem_cons_self ..)
theorem intL_len {i : Int} {k : Nat} (hk : 0 < k) (h : i.natAbs < 10 ^ k) : (intL i).length ≤ k + 1 := by
  have := numL_len hk h
  unfold intL
  split
  · rw [List.length_cons]; omega
  · omega
theorem int_int {i : Int} (h : (intL i).length ≤ 4300) : intText? (S (intL i)) = some i := by
  unfold intL at h ⊢
  split
  · rename_i hi
    have e := intText_neg (x := S (45 :: numL i.natAbs)) (cs := numL i.natAbs) rfl (numL_digits _) (numL_ne _) (by rw [S_len]; rw [if_pos hi] at h; exact h)
    rw [e, numL_val]
    congr 1
    omega
  · rename_i hi
    have e := intText_digits (x := S (numL i.natAbs)) (numL_digits _) (numL_ne _) (by rw [S_len]; rw [if_neg hi] at h; exact h)
    rw [e]
    show some ((digitsVal (numL i.natAbs) : Nat) : Int) = some i
    rw [numL_val]
    congr 1
    omega
/-- the text of a fraction -/
def txL (r : Rat) : List Nat := if r.den = 1 then intL r.num else intL r.num ++ (47 :: numL r.den)
theorem numL_head : ∀ n : Nat, 0 < n → ∃ c l, numL n = c :: l ∧ c ≠ 48 := by
  intro n
  induction n using Nat.strongRecOn with
  | _ n ih =>
    intro hn
    by_cases h : n < 10
    · rw [numL_lt h]
      exact ⟨48 + n, [], rfl, by omega⟩
    · rw [numL_step (by omega)]
      obtain ⟨c, l, e, hc⟩ := ih (n / 10) (by omega) (by omega)
      exact ⟨c, l ++ [48 + n % 10], by rw [e]; rfl, hc⟩
theorem numL_zero : numL 0 = [48] := numL_lt (by decide)
theorem part_one (i : Int) : Txt.partition (S (intL i)) (S [47]) = (S (intL i), S [], S []) := partition_none (by simp) (par_head_none (no_stroke_int i))
theorem part_two (i : Int) (l : List Nat) : Txt.partition (S (intL i ++ (47 :: l))) (S [47]) = (S (intL i), S [47], S l) := partition_some (by simp) (par_head (sep := []) l (no_stroke_int i))
theorem numL_pow {n k : Nat} (h : n < 2 ^ k) (hk : 0 < k) : (numL n).length ≤ k := numL_len hk (Nat.lt_of_lt_of_le h (Nat.pow_le_pow_left (by decide) k))
theorem intL_pow {i : Int} {k : Nat} (h : i.natAbs < 2 ^ k) (hk : 0 < k) : (intL i).length ≤ k + 1 := intL_len hk (Nat.lt_of_lt_of_le h (Nat.pow_le_pow_left (by decide) k))
theorem txL_len {r : Rat} {k : Nat} (h : KM.Sz k r) (hk : 0 < k) : (txL r).length ≤ 2 * k + 2 := by
  have h1 := intL_pow h.1 hk
  have h2 := numL_pow h.2 hk
  unfold txL
  split
  · omega
  · rw [List.length_append, List.length_cons]; omega
end TX
set_option Elab.async false
set_option linter.all false
set_option maxRecDepth 100000
set_option maxHeartbeats 4000000
/-! data: texts, pairs -/
namespace DQ
open PySem PySem.Spec PyProof.Rows L2
def pD (q : Int × Int) : PyData := .tuple [.int q.1, .int q.2]
theorem all_strs : ∀ xs : List Str, (∀ x ∈ xs, PyData.strOk x = true) → PyData.canLayAll0 (xs.map PyData.str) = true ∧ PyData.depthAll (xs.map PyData.str) = 0
  | [], _ => ⟨rfl, rfl⟩
  | x :: r, h => by
    obtain ⟨h1, h2⟩ := all_strs r fun y hy => h y (List.mem_cons_of_mem _ hy)
    have h3 := h x List.mem_cons_self
    exact ⟨by simp [PyData.canLayAll0, PyData.canLay0, h1, h3], by simp [PyData.depthAll, PyData.depth, h2]⟩
theorem sh_strs {xs : List Str} (h : ∀ x ∈ xs, PyData.strOk x = true) : SeqAt.shaped (.list (xs.map PyData.str)) = true := by
  obtain ⟨h1, h2⟩ := all_strs xs h
  simp [SeqAt.shaped, PyData.canLay0, PyData.depth, h1, h2]
theorem all_pairs : ∀ qs : List (Int × Int), PyData.canLayAll0 (qs.map pD) = true ∧ PyData.depthAll (qs.map pD) ≤ 2
  | [] => ⟨rfl, by decide⟩
  | _ :: r => by
    obtain ⟨h1, h2⟩ := all_pairs r
    refine ⟨by simp [PyData.canLayAll0, PyData.canLay0, pD, h1], ?_⟩
    show max (PyData.depth (pD _)) (PyData.depthAll (r.map pD)) ≤ 2
    have h3 : ∀ q, PyData.depth (pD q) ≤ 2 := fun q => by show 1 ≤ 2; decide
    exact Nat.max_le.mpr ⟨h3 _, h2⟩
theorem sh_pair (q : Int × Int) : SeqAt.shaped (pD q) = true := rfl
theorem sh_pairs (qs : List (Int × Int)) : SeqAt.shaped (.list (qs.map pD)) = true := by
  obtain ⟨h1, h2⟩ := all_pairs qs
  have h3 : PyData.depthAll (qs.map pD) + 1 ≤ 64 := by omega
  simp [SeqAt.shaped, PyData.canLay0, PyData.depth, h1]
  omega
theorem eq_strs (xs : List Str) : PyData.eqv (.list (xs.map PyData.str)) (.list (xs.map PyData.str)) = true := by
  refine PySem.W.eqv_refl_alike _ ?_
  induction xs with
  | nil => rfl
  | cons x xs ih => simpa [PySem.W.alike, PySem.W.alikeAll] using ih
theorem eq_pair (q : Int × Int) : PyData.eqv (pD q) (pD q) = true := PySem.W.eqv_refl_alike _ rfl
theorem eq_pairs (qs : List (Int × Int)) : PyData.eqv (.list (qs.map pD)) (.list (qs.map pD)) = true := by
  refine PySem.W.eqv_refl_alike _ ?_
  induction qs with
  | nil => rfl
  | cons x xs ih => simpa [PySem.W.alike, PySem.W.alikeAll, pD] using ih
theorem dp_strs {K : PySem.W.Frag} {H : Hp} : ∀ xs : List Str, DpAll K H (xs.map V.str) (xs.map PyData.str)
  | [] => .nil
  | x :: xs => .cons (.str x) (dp_strs xs)
theorem dp_pair {K : PySem.W.Frag} {H : Hp} {t : Addr} {q : Int × Int} (h : H t = some (.tup [.int q.1, .int q.2])) : Dp K H (.ref t) (pD q) := .tup (SqT.of h) (.cons (.int _) (.cons (.int _) .nil))
theorem dp_pairs {K : PySem.W.Frag} {H : Hp} : ∀ L : List (Addr × (Int × Int)), (∀ p ∈ L, H p.1 = some (.tup [.int p.2.1, .int p.2.2])) → DpAll K H (L.map fun p => V.ref p.1) ((L.map (·.2)).map pD)
  | [], _ => .nil
  | p :: L, h => .cons (dp_pair (h p List.mem_cons_self)) (dp_pairs L fun q hq => h q (List.mem_cons_of_mem _ hq))
/-- a dict by names -/
theorem val_map (f : Str → V) {y : Str} : ∀ {l : List Str}, y ∈ l → valV (l.map fun x => ((Sum.inr x : Key), f x)) (Sum.inr y) = some (f y)
  | x :: l, h => by
    rw [List.map_cons]
    by_cases e : x = y
    · rw [valV_pos (by rw [e])]
      rw [e]
    · rw [valV_neg (fun z => e (Sum.inr.inj z))]
      exact val_map f ((List.mem_cons.mp h).resolve_left fun z => e z.symm)
theorem val_none (f : Str → V) {y : Str} : ∀ {l : List Str}, y ∉ l → valV (l.map fun x => ((Sum.inr x : Key), f x)) (Sum.inr y) = none
  | [], _ => rfl
  | x :: l, h => by
    rw [List.map_cons, valV_neg (fun z => h (by rw [Sum.inr.inj z]; exact List.mem_cons_self))]
    exact val_none f fun z => h (List.mem_cons_of_mem _ z)
theorem put_new (f : Str → V) {y : Str} {l : List Str} (h : y ∉ l) : putK (l.map fun x => ((Sum.inr x : Key), f x)) (Sum.inr y) (f y) = (l ++ [y]).map fun x => ((Sum.inr x : Key), f x) := by
  rw [putK_new _ (val_none f h), List.map_append]
  rfl
theorem put_old (f : Str → V) {y : Str} {v : V} {l : List Str} (h : y ∈ l) : putK (l.map fun x => ((Sum.inr x : Key), f x)) (Sum.inr y) v = l.map fun x => ((Sum.inr x : Key), if x = y then v else f x) := by
  have a : ((l.map fun x => ((Sum.inr x : Key), f x)).any fun kv => decide (kv.1 = Sum.inr y)) = true := by
    rw [List.any_eq_true]
    exact ⟨(Sum.inr y, f y), List.mem_map.mpr ⟨y, h, rfl⟩, by simp⟩
  unfold putK
  rw [if_pos a, List.map_map]
  refine List.map_congr_left fun x _ => ?_
  show (if (Sum.inr x : Key) = Sum.inr y then ((Sum.inr x : Key), v) else (Sum.inr x, f x)) = _
  by_cases e : x = y
  · rw [if_pos (by rw [e]), if_pos e]
  · rw [if_neg (fun z => e (Sum.inr.inj z)), if_neg e]
theorem merge_map (f : Str → V) : ∀ {l m : List Str}, (m ++ l).Nodup → mergeK (m.map fun x => ((Sum.inr x : Key), f x)) (l.map fun x => ((Sum.inr x : Key), f x)) = (m ++ l).map fun x => ((Sum.inr x : Key), f x)
  | [], m, _ => by rw [List.append_nil]; rfl
  | y :: l, m, h => by
    have h' : (m ++ [y] ++ l).Nodup := by rw [List.append_assoc]; exact h
    have ny : y ∉ m := fun z => by
      have := (List.nodup_append.mp h).2.2 y z y List.mem_cons_self
      exact this rfl
    show mergeK (putK _ (Sum.inr y) (f y)) (l.map fun x => ((Sum.inr x : Key), f x)) = _
    rw [put_new f ny, merge_map f h', List.append_assoc]
    rfl
end DQ
set_option Elab.async false
set_option linter.all false
set_option maxRecDepth 100000
set_option maxHeartbeats 4000000
/-! ts.index(x) of a tuple of texts -/
namespace TI
open PySem PySem.Spec PyProof.Rows L2
def rIxOf (K : PySem.W.Frag) : V → List V → Hp → VK → Prop := fun x xs H Q => ∃ (a : Addr) (ys : List Str) (k : Str), x = .ref a ∧ xs = [.str k] ∧ SqT K H a (ys.map V.str) ∧ k ∈ ys ∧ Q (.int (ys.idxOf k : Nat)) H
theorem mt_tindex {X : Cx} : MtR X "tuple.index" (rIxOf X.K) := by
  intro pins s σ H x xs v us Q I rx rxs h
  obtain ⟨a, ys, k, rfl, rfl, hs, hk, q⟩ := h
  cases rx
  obtain ⟨u, rfl, ru⟩ := rxs.one
  obtain ⟨t, rfl⟩ := ru
  obtain ⟨its, rv, it, hlen⟩ := I.tuple hs
  exact PySem.SeqAt.tuple_index_strs (vs := its) it (Vals.strs rv) hk ⟨.int _, H, I.tok _, ⟨_, rfl⟩, q⟩
/-- len of a list or a tuple, where the reading must be named -/
def rLen (K : PySem.W.Frag) : List V → Hp → VK → Prop := fun xs H Q => ∃ (p : Addr) (ys : List V), xs = [V.ref p] ∧ (SqL K H p ys ∨ SqT K H p ys) ∧ Q (V.int (ys.length : Nat)) H
theorem call_lenK {X : Cx} : CallR X (.builtin "len") (rLen X.K) := call_len_seq
end TI
set_option Elab.async false
set_option linter.all false
set_option maxRecDepth 100000
set_option maxHeartbeats 4000000
namespace K03
open PySem PySem.Spec PyProof.Rows L2
open C8 (Cal Mak Met pe_c pe_mk pe_mt pe_mt0)
open KM (pr Sz)
section
variable {P : Program} {w : World} {K : PySem.W.Frag} {mg : Str → Option Value} {base : Heap} {f C CT : Addr} {fd : FuncData}
theorem log_1920 {i : Int} {n : Nat} (h : i.natAbs < 2 ^ n) (h0 : 0 < n) (h9 : n ≤ 1920) : i.natAbs.log2 < 1920 := Nat.lt_of_lt_of_le (PySem.Flt.log2_lt_of h0 h) h9
def spStr (C : Addr) (g : Rat → Str) : Sp := fun vs H Q _ => ∃ (p : Addr) (r : Rat) (n : Nat), vs = [.ref p] ∧ Sh C H p (pr r) ∧ Sz n r ∧ 0 < n ∧ n ≤ 1900 ∧ Q (.str (g r)) H
theorem S_len_le {l : List Nat} {k : Nat} (h : l.length ≤ k) (hk : k ≤ 100000) : (SX.S l).length ≤ sizeLine := by
  rw [SX.S_len]
  exact Nat.le_trans h (Nat.le_trans hk (by decide))
theorem ok_str (F : Dn K d_Share_str f fd) (T : Cl K mg C) : FnOk P w K mg base CX0 1 f fd ["self"] (spStr C fun r => SX.S (TX.txL r)) := by
  refine F.ok sc_Share_str (fun vs H Q E h => ?_) (fun cdv A outer s H vs Q E hr h => ?_)
  · obtain ⟨p, r, n, rfl, _⟩ := h
    rfl
  · obtain ⟨p, r, n, rfl, ⟨dp, hp⟩, sr, n0, n9, hQ⟩ := h
    refine ⟨_, PSs.nox (pss_cons (ps_if (pt_cmpR op_eq (pe_fld (pv 0) rfl) pe_int (nomark _)) (pss_one (ps_ret (pe_joined1 (pe_fmt (pe_fld (pv 0) rfl))))) pss_nil)
      (pss_one (ps_ret (pe_joined (.cons (pe_fmt (pe_fld (pv 0) rfl)) (.cons pe_str (.cons (pe_fmt (pe_fld (pv 0) rfl)) .nil))))))), ?_⟩
    have l1 : (pr r).1.natAbs.log2 < 1920 := log_1920 (bd_of sr).1 n0 (by omega)
    have l2 : (pr r).2.natAbs.log2 < 1920 := log_1920 (bd_of sr).2.2 n0 (by omega)
    refine ⟨_, rfl, p, C, dp, _, _, rfl, hp, T.cl, T.nb, shF_bot _, rfl, _, rfl, ?_⟩
    refine ite2 (fun h1 => ?_) (fun h1 => ?_)
    · have e1 : r.den = 1 := by
        have : (pr r).2 = 1 := V.int.inj (of_decide_eq_true h1)
        have : (r.den : Int) = 1 := this
        omega
      refine ⟨_, rfl, p, C, dp, _, _, rfl, hp, T.cl, T.nt, shF_top _, .inr ⟨_, rfl, l1, ?_⟩⟩
      have e2 : (Str.ofString (toString (pr r).1)) = SX.S (TX.txL r) := by
        rw [TX.tl_int]
        unfold TX.txL
        rw [if_pos e1]
        rfl
      show Q (.str (Str.ofString (toString (pr r).1))) H
      rw [e2]
      exact hQ
    · have e1 : ¬ r.den = 1 := fun z => h1 (by
        have : (pr r).2 = 1 := by show (r.den : Int) = 1; omega
        rw [this]
        rfl)
      have k1 : (TX.intL r.num).length ≤ n + 1 := TX.intL_pow sr.1 n0
      have k2 := TX.numL_pow sr.2 n0
      refine ⟨_, rfl, p, C, dp, _, _, rfl, hp, T.cl, T.nt, shF_top _, .inr ⟨_, rfl, l1, _, rfl, ?_, _, rfl, ?_, _, rfl, p, C, dp, _, _, rfl, hp, T.cl, T.nb, shF_bot _, .inr ⟨_, rfl, l2, _, rfl, ?_, ?_⟩⟩⟩
      · show (Str.empty ++ Str.ofString (toString (pr r).1)).length ≤ sizeLine
        rw [show Str.empty ++ Str.ofString (toString (pr r).1) = SX.S (TX.intL r.num) from by rw [TX.tl_int]; exact SX.S_cat [] _]
        exact S_len_le k1 (by omega)
      · show (Str.empty ++ Str.ofString (toString (pr r).1) ++ Str.ofString "/").length ≤ sizeLine
        rw [show Str.empty ++ Str.ofString (toString (pr r).1) = SX.S (TX.intL r.num) from by rw [TX.tl_int]; exact SX.S_cat [] _, TX.stroke_S, SX.S_cat]
        exact S_len_le (k := n + 2) (by rw [List.length_append]; simp; omega) (by omega)
      · show (Str.empty ++ Str.ofString (toString (pr r).1) ++ Str.ofString "/" ++ Str.ofString (toString (pr r).2)).length ≤ sizeLine
        rw [show Str.empty ++ Str.ofString (toString (pr r).1) = SX.S (TX.intL r.num) from by rw [TX.tl_int]; exact SX.S_cat [] _, TX.stroke_S, SX.S_cat,
          show Str.ofString (toString (pr r).2) = SX.S (TL.numL r.den) from SX.num_S r.den, SX.S_cat]
        exact S_len_le (k := n + 2 + n) (by rw [List.length_append, List.length_append]; simp; omega) (by omega)
      · show Q (.str (Str.empty ++ Str.ofString (toString (pr r).1) ++ Str.ofString "/" ++ Str.ofString (toString (pr r).2))) H
        rw [show Str.empty ++ Str.ofString (toString (pr r).1) = SX.S (TX.intL r.num) from by rw [TX.tl_int]; exact SX.S_cat [] _, TX.stroke_S, SX.S_cat,
          show Str.ofString (toString (pr r).2) = SX.S (TL.numL r.den) from SX.num_S r.den, SX.S_cat,
          show TX.intL r.num ++ [47] ++ TL.numL r.den = TX.txL r from by unfold TX.txL; rw [if_neg e1]; simp]
        exact hQ
/-- the text that repr tells -/
def rpS (r : Rat) : Str := Str.empty ++ Str.ofString "Share(" ++ Str.ofString (toString (pr r).1) ++ Str.ofString ", " ++ Str.ofString (toString (pr r).2) ++ Str.ofString ")"
theorem ok_repr (F : Dn K d_Share_repr f fd) (T : Cl K mg C) : FnOk P w K mg base CX0 1 f fd ["self"] (spStr C rpS) := by
  refine F.ok sc_Share_repr (fun vs H Q E h => ?_) (fun cdv A outer s H vs Q E hr h => ?_)
  · obtain ⟨p, r, n, rfl, _⟩ := h
    rfl
  · obtain ⟨p, r, n, rfl, ⟨dp, hp⟩, sr, n0, n9, hQ⟩ := h
    refine ⟨_, PSs.nox (pss_one (ps_ret (pe_joined (.cons pe_str (.cons (pe_fmt (pe_fld (pv 0) rfl)) (.cons pe_str (.cons (pe_fmt (pe_fld (pv 0) rfl)) (.cons pe_str .nil)))))))), ?_⟩
    have l1 : (pr r).1.natAbs.log2 < 1920 := log_1920 (bd_of sr).1 n0 (by omega)
    have l2 : (pr r).2.natAbs.log2 < 1920 := log_1920 (bd_of sr).2.2 n0 (by omega)
    have k1 : (TX.intL r.num).length ≤ n + 1 := TX.intL_pow sr.1 n0
    have k2 := TX.numL_pow sr.2 n0
    have t1 : Str.ofString (toString (pr r).1) = SX.S (TX.intL r.num) := TX.tl_int r.num
    have t2 : Str.ofString (toString (pr r).2) = SX.S (TL.numL r.den) := SX.num_S r.den
    have c1 : Str.empty ++ Str.ofString "Share(" = SX.S [83, 104, 97, 114, 101, 40] := by decide +kernel
    have c2 : Str.ofString ", " = SX.S [44, 32] := by decide +kernel
    have c3 : Str.ofString ")" = SX.S [41] := by decide +kernel
    refine ⟨_, rfl, ?_, _, rfl, p, C, dp, _, _, rfl, hp, T.cl, T.nt, shF_top _, .inr ⟨_, rfl, l1, _, rfl, ?_, _, rfl, ?_, _, rfl, p, C, dp, _, _, rfl, hp, T.cl, T.nb, shF_bot _, .inr ⟨_, rfl, l2, _, rfl, ?_, _, rfl, ?_, hQ⟩⟩⟩
    · show (Str.empty ++ Str.ofString "Share(").length ≤ sizeLine
      rw [c1]
      exact S_len_le (k := 6) (by decide) (by decide)
    · show (Str.empty ++ Str.ofString "Share(" ++ Str.ofString (toString (pr r).1)).length ≤ sizeLine
      rw [c1, t1, SX.S_cat]
      exact S_len_le (k := n + 7) (by rw [List.length_append]; simp; omega) (by omega)
    · show (Str.empty ++ Str.ofString "Share(" ++ Str.ofString (toString (pr r).1) ++ Str.ofString ", ").length ≤ sizeLine
      rw [c1, t1, c2, SX.S_cat, SX.S_cat]
      exact S_len_le (k := n + 9) (by rw [List.length_append, List.length_append]; simp; omega) (by omega)
    · show (Str.empty ++ Str.ofString "Share(" ++ Str.ofString (toString (pr r).1) ++ Str.ofString ", " ++ Str.ofString (toString (pr r).2)).length ≤ sizeLine
      rw [c1, t1, c2, t2, SX.S_cat, SX.S_cat, SX.S_cat]
      exact S_len_le (k := n + 9 + n) (by rw [List.length_append, List.length_append, List.length_append]; simp; omega) (by omega)
    · show (Str.empty ++ Str.ofString "Share(" ++ Str.ofString (toString (pr r).1) ++ Str.ofString ", " ++ Str.ofString (toString (pr r).2) ++ Str.ofString ")").length ≤ sizeLine
      rw [c1, t1, c2, t2, c3, SX.S_cat, SX.S_cat, SX.S_cat, SX.S_cat]
      exact S_len_le (k := n + 10 + n) (by rw [List.length_append, List.length_append, List.length_append, List.length_append]; simp; omega) (by omega)
end
end K03
set_option Elab.async false
set_option linter.all false
set_option maxRecDepth 100000
set_option maxHeartbeats 4000000
namespace K03
open PySem PySem.Spec PyProof.Rows L2
open C8 (Cal Mak Met pe_c pe_mk pe_mt pe_mt0)
open KM (pr Sz)
section
variable {P : Program} {w : World} {K : PySem.W.Frag} {mg : Str → Option Value} {base : Heap} {f C : Addr} {fd : FuncData}
def sp_below (C : Addr) : Sp := fun vs H Q _ => ∃ (p q : Addr) (a b : Int × Int) (n : Nat), vs = [.ref p, .ref q] ∧ Sh C H p a ∧ Sh C H q b ∧ two n a b ∧ Q (.bl (decide (a.1 * b.2 < b.1 * a.2))) H
theorem ok_below (F : Dn K d_Share_below f fd) (T : Cl K mg C) : FnOk P w K mg base CX0 1 f fd ["self", "other"] (sp_below C) := by
  refine F.ok sc_Share_below (fun vs H Q E h => ?_) (fun cdv A outer s H vs Q E hr h => ?_)
  · obtain ⟨p, q, a, b, n, rfl, _⟩ := h
    rfl
  · obtain ⟨p, q, a, b, n, rfl, ⟨dp, hp⟩, ⟨dq, hq⟩, ⟨ba, bb, hn0, hn9⟩, hQ⟩ := h
    refine ⟨_, PSs.nox (pss_one (ps_ret (pe_cmpR op_lt (pe_op op_mulW (pe_fld (pv 0) rfl) (pe_fld (pv 1) rfl)) (pe_op op_mulW (pe_fld (pv 1) rfl) (pe_fld (pv 0) rfl)) (nomark _)))), ?_⟩
    refine ⟨_, rfl, p, C, dp, _, _, rfl, hp, T.cl, T.nt, shF_top a, _, rfl, q, C, dq, _, _, rfl, hq, T.cl, T.nb, shF_bot b, _, _, rfl, rfl, wide_mul ba.1 bb.2.2 hn0 hn0 (by omega), ?_⟩
    exact ⟨_, rfl, q, C, dq, _, _, rfl, hq, T.cl, T.nt, shF_top b, _, rfl, p, C, dp, _, _, rfl, hp, T.cl, T.nb, shF_bot a, _, _, rfl, rfl, wide_mul bb.1 ba.2.2 hn0 hn0 (by omega), _, _, rfl, rfl, hQ⟩
def spLt (C : Addr) : Sp := fun vs H Q _ => ∃ (p q : Addr) (r s : Rat) (n : Nat), vs = [.ref p, .ref q] ∧ Sh C H p (pr r) ∧ Sh C H q (pr s) ∧ Sz n r ∧ Sz n s ∧ 0 < n ∧ n ≤ 4000 ∧ Q (.bl (decide (r < s))) H
theorem belowR {vs : List V} {H : Hp} {Q : VK} {E : XK} (h : spLt C vs H Q E) : sp_below C vs H Q E := by
  obtain ⟨p, q, r, s, n, e, hp, hq, sr, ss, n0, n9, k⟩ := h
  refine ⟨p, q, _, _, n, e, hp, hq, ⟨bd_of sr, bd_of ss, n0, n9⟩, ?_⟩
  have : decide ((pr r).1 * (pr s).2 < (pr s).1 * (pr r).2) = decide (r < s) := decide_eq_decide.mpr (KM.pr_lt r s)
  rw [this]
  exact k
end
end K03
set_option Elab.async false
set_option linter.all false
set_option maxRecDepth 100000
set_option maxHeartbeats 4000000
namespace K03
open PySem PySem.Spec PyProof.Rows L2
open C8 (Cal Mak Met pe_c pe_mk pe_mt pe_mt0)
open KM (pr Sz)
section
variable {P : Program} {w : World} {K : PySem.W.Frag} {mg : Str → Option Value} {base : Heap} {f C : Addr} {fd : FuncData}
def spEq (C : Addr) : Sp := fun vs H Q _ => ∃ (p q : Addr) (r s : Rat), vs = [.ref p, .ref q] ∧ Sh C H p (pr r) ∧ Sh C H q (pr s) ∧ Q (.bl (decide (r = s))) H
theorem ok_eq (F : Dn K d_Share_eq f fd) (b : Bl mg) (T : Cl K mg C) (S : IsC K C) : FnOk P w K mg base CX0 1 f fd ["self", "other"] (spEq C) := by
  refine F.ok sc_Share_eq (fun vs H Q E h => ?_) (fun cdv A outer s H vs Q E hr h => ?_)
  · obtain ⟨p, q, r, s, rfl, _⟩ := h
    rfl
  · obtain ⟨p, q, r, t, rfl, ⟨dp, hp⟩, ⟨dq, hq⟩, hQ⟩ := h
    refine ⟨_, PSs.nox (pss_one (ps_ret (pe_and (pe_callB call_isi rfl b.isi boot_isinstance (pa_cons (pv 1) (pa_cons (pe_glob (v := .ref C) rfl T.g rfl) pa_nil)))
      (pe_and (pe_cmpR op_eq (pe_fld (pv 0) rfl) (pe_fld (pv 1) rfl) (nomark _)) (pe_one (pe_cmpR op_eq (pe_fld (pv 0) rfl) (pe_fld (pv 1) rfl) (nomark _))))))), ?_⟩
    refine ⟨_, rfl, _, _, _, _, true, rfl, ClsV.own C, TyX.base (TyOf.ins hq T.cl S.ha S.hn S.htk S.hm), S.kit, true, rfl, iteT ?_⟩
    refine ⟨_, rfl, p, C, dp, _, _, rfl, hp, T.cl, T.nt, shF_top _, _, rfl, q, C, dq, _, _, rfl, hq, T.cl, T.nt, shF_top _, rfl, _, rfl, ?_⟩
    refine ite2 (fun h1 => ?_) (fun h1 => ?_)
    · have e1 : (pr r).1 = (pr t).1 := V.int.inj (of_decide_eq_true h1)
      refine ⟨_, rfl, p, C, dp, _, _, rfl, hp, T.cl, T.nb, shF_bot _, _, rfl, q, C, dq, _, _, rfl, hq, T.cl, T.nb, shF_bot _, rfl, ?_⟩
      have e : decide (V.int (pr r).2 = V.int (pr t).2) = decide (r = t) := by
        refine decide_eq_decide.mpr ⟨fun z => KM.pr_inj (Prod.ext e1 (V.int.inj z)), fun z => by rw [z]⟩
      rw [e]
      exact hQ
    · have e : decide (r = t) = false := decide_eq_false fun z => h1 (by rw [z]; simp)
      rw [e] at hQ
      exact hQ
/-- the sum from the left -/
def sumR (rs : List Rat) : Rat := rs.foldl (· + ·) 0
theorem fold_from (a : Rat) : ∀ rs : List Rat, rs.foldl (· + ·) a = a + sumR rs
  | [] => by show a = a + 0; rw [Rat.add_zero]
  | r :: rs => by
    show rs.foldl (· + ·) (a + r) = a + rs.foldl (· + ·) (0 + r)
    rw [fold_from (a + r) rs, fold_from (0 + r) rs, Rat.zero_add, Rat.add_assoc]
theorem sumR_app (xs ys : List Rat) : sumR (xs ++ ys) = sumR xs + sumR ys := by
  unfold sumR
  rw [List.foldl_append]
  exact fold_from _ ys
theorem sumR_cons (r : Rat) (rs : List Rat) : sumR (r :: rs) = r + sumR rs := by
  have := sumR_app [r] rs
  rw [List.singleton_append] at this
  rw [this]
  show (0 + r) + _ = _
  rw [Rat.zero_add]
theorem sumR_rev : ∀ rs : List Rat, sumR rs.reverse = sumR rs
  | [] => rfl
  | r :: rs => by
    rw [List.reverse_cons, sumR_app, sumR_rev rs, sumR_cons r rs, Rat.add_comm]
    show (0 + r) + _ = _
    rw [Rat.zero_add]
theorem sz_sum {k : Nat} : ∀ {rs : List Rat}, (∀ r ∈ rs, Sz k r) → Sz (1 + (k + 1) * rs.length) (sumR rs) := by
  intro rs
  induction rs with
  | nil =>
    intro _
    refine ⟨Nat.two_pow_pos _, ?_⟩
    show 1 < 2 ^ (1 + (k + 1) * 0)
    simp
  | cons r rs ih =>
    intro h
    rw [sumR_cons]
    have h1 := h r (List.mem_cons_self ..)
    have h2 := ih fun x hx => h x (List.mem_cons_of_mem _ hx)
    refine (KM.sz_plus h1 h2).1.mono ?_
    rw [List.length_cons, Nat.mul_add]
    omega
/-- a list of Shares at l -/
def ShL (K : PySem.W.Frag) (C : Addr) (H : Hp) (l : Addr) (L : List (Addr × Rat)) : Prop := SqL K H l (L.map fun x => V.ref x.1) ∧ ∀ x ∈ L, Sh C H x.1 (pr x.2)
theorem ShL.keep {H H' : Hp} {l : Addr} {L : List (Addr × Rat)} (s : Same H H') (h : ShL K C H l L) : ShL K C H' l L := ⟨s.seq h.1, fun x hx => (h.2 x hx).keep s⟩
def ratsOf (L : List (Addr × Rat)) : List Rat := L.map (·.2)
theorem no_below (q : Int × Int) : (shF q).lookup ("below" : Str) = none := shF_no q (by decide +kernel) (by decide +kernel)
def spTotal (K : PySem.W.Frag) (C : Addr) : Sp := fun vs H Q _ => ∃ (l : Addr) (L : List (Addr × Rat)) (m : Int), vs = [.ref l, .int m] ∧ ShL K C H l L ∧ m.natAbs < 4096 ∧ (∀ x ∈ L, Sz 50 x.2) ∧ L.length ≤ 20 ∧
  ∀ t H', Same H H' → H t = none → Sh C H' t (pr (Rat.divInt m 1 + sumR (ratsOf L))) → Q (.ref t) H'
theorem ok_total (F : Dn K d_total f fd) (M1 : MakS1 P w K mg base C) (mp : Met P w K mg base 4 C "plus" (sp2 C (· + ·)) []) : FnOk P w K mg base CX0 5 f fd ["shares", "start"] (spTotal K C) := by
  refine F.ok sc_total (fun vs H Q E h => ?_) (fun cdv A outer s H vs Q E hr h => ?_)
  · obtain ⟨l, L, m, rfl, _⟩ := h
    rfl
  · obtain ⟨l, L, m, rfl, hL, hm4, hS, hlen, hQ⟩ := h
    refine ⟨_, PSs.nox (pss_cons (ps_set (i := 2) sc_total.nd rfl (.inl rfl) (pe_mk M1 hr (by decide) rfl (pa_cons (pv 1) pa_nil)))
      (pss_cons (ps_for PassesOwn.never rfl (pi_list (pv 0)) (pg_name (i := 3) sc_total.nd rfl (.inl rfl))
        (pss_one (ps_set (i := 2) sc_total.nd rfl (.inl rfl) (pe_mt mp hr (by decide) (pv 2) (pa_cons (pv 3) pa_nil)))))
      (pss_one (ps_ret (pv 2))))), ?_⟩
    refine ⟨_, rfl, ?_⟩
    intro p pd np nd ne
    refine mk_in (n := 1) np nd (by decide) (by decide) (by decide) (by decide) fun H1 s1 hp => ⟨rfl, ?_⟩
    have szm : Sz 12 (Rat.divInt m 1) := KM.sz_of_low (by decide) (by show m.natAbs < 2 ^ 12; omega) (by decide)
    refine ⟨_, rfl, l, rfl, ⟨_, s1.seq hL.1⟩, for_list (K := K) (xs := L.map fun x => V.ref x.1) (fun i σ H2 => ∃ (q : Addr) (v : Option V), σ = [some (.ref l), some (.int m), some (.ref q), v] ∧ Same H H2 ∧ H q = none ∧ Sh C H2 q (pr (Rat.divInt m 1 + sumR (ratsOf (L.take i)))))
      ⟨p, none, rfl, s1, np, ?_⟩ (fun i σ H2 _ z => by obtain ⟨q, v, _, s2, _⟩ := z; exact s2.seq hL.1) ?_ ?_⟩
    · have e : Rat.divInt m 1 + sumR (ratsOf (L.take 0)) = Rat.divInt m 1 := by show _ + (0 : Rat) = _; rw [Rat.add_zero]
      rw [e]
      exact hp
    · rintro i y σ H2 hi ⟨q, v, rfl, s2, fq, hq⟩
      rw [List.getElem?_map] at hi
      obtain ⟨x, hx, rfl⟩ := Option.map_eq_some_iff.mp hi
      have hm : x ∈ L := List.mem_of_getElem? hx
      have hil : i < L.length := (List.getElem?_eq_some_iff.mp hx).1
      have et : L.take (i + 1) = L.take i ++ [x] := by rw [List.take_add_one, hx]; rfl
      have szt : Sz 1200 (Rat.divInt m 1 + sumR (ratsOf (L.take i))) := by
        have h1 : Sz (1 + (50 + 1) * (ratsOf (L.take i)).length) (sumR (ratsOf (L.take i))) := sz_sum (k := 50) fun r hr => by
          obtain ⟨x', hx', rfl⟩ := List.mem_map.mp hr
          exact hS x' (List.mem_of_mem_take hx')
        refine (KM.sz_plus szm h1).1.mono ?_
        unfold ratsOf
        rw [List.length_map, List.length_take]
        omega
      obtain ⟨dq, hq'⟩ := id hq
      refine ⟨_, rfl, q, dq, _, rfl, hq', shF_no _ (by decide +kernel) (by decide +kernel), _, rfl, q, x.1, _, x.2, 1200, rfl, hq, (hL.2 x hm).keep s2, szt, (hS x hm).mono (by decide), by decide, by decide, fun t H3 s3 ft ht => ?_⟩
      refine ⟨t, _, rfl, s2.trans s3, s2.free ft, ?_⟩
      have er : Rat.divInt m 1 + sumR (ratsOf (L.take i)) + x.2 = Rat.divInt m 1 + sumR (ratsOf (L.take (i + 1))) := by
        rw [et]
        unfold ratsOf
        rw [List.map_append, sumR_app, Rat.add_assoc]
        show _ = _ + (_ + (0 + x.2))
        rw [Rat.zero_add]
      rw [← er]
      exact ht
    · rintro σ H2 ⟨q, v, rfl, s2, fq, hq⟩
      rw [List.length_map, List.take_length] at hq
      exact ⟨_, rfl, hQ q H2 s2 fq hq⟩
def spGr (K : PySem.W.Frag) (C : Addr) : Sp := fun vs H Q _ => ∃ (l : Addr) (L : List (Addr × Rat)) (nv : V), vs = [.ref l, nv] ∧ ShL K C H l L ∧ (∀ x ∈ L, Sz 50 x.2) ∧ (L = [] → Q nv H) ∧ ∀ y ∈ L, (∀ x ∈ L, x.2 ≤ y.2) → Q (.ref y.1) H
theorem ok_gr (F : Dn K d_greatest f fd) (bl : Bl mg) (mB : Met P w K mg base 1 C "below" (spLt C) []) : FnOk P w K mg base CX0 2 f fd ["shares", "none"] (spGr K C) := by
  refine F.ok sc_greatest (fun vs H Q E h => ?_) (fun cdv A outer s H vs Q E hr h => ?_)
  · obtain ⟨l, L, nv, rfl, _⟩ := h
    rfl
  · obtain ⟨l, L, nv, rfl, hL, hS, h0, hQ⟩ := h
    refine ⟨_, PSs.nox (pss_cons (ps_if (pt_cmpR op_eq (pe_callB call_len_seq rfl bl.len boot_len (pa_cons (pv 0) pa_nil)) pe_int (nomark _)) (pss_one (ps_ret (pv 1))) pss_nil)
      (pss_cons (ps_set (i := 2) sc_greatest.nd rfl (.inl rfl) (pe_ix ix_list (pv 0) pe_int (fun _ _ => rfl)))
      (pss_cons (ps_for PassesOwn.never rfl (pi_list (pv 0)) (pg_name (i := 3) sc_greatest.nd rfl (.inl rfl))
        (pss_one (ps_if (pt_val (pe_mt mB hr (by decide) (pv 2) (pa_cons (pv 3) pa_nil))) (pss_one (ps_set (i := 2) sc_greatest.nd rfl (.inl rfl) (pv 3))) pss_nil)))
      (pss_one (ps_ret (pv 2)))))), ?_⟩
    refine ⟨_, rfl, l, _, rfl, .inl hL.1, rfl, _, rfl, ?_⟩
    refine ite2 (fun q => ?_) (fun q => ?_)
    · have e : L = [] := by
        have q := of_decide_eq_true q
        rw [List.length_map] at q
        have q2 : ((L.length : Nat) : Int) = 0 := V.int.inj q
        exact List.length_eq_zero_iff.mp (by omega)
      exact ⟨_, rfl, h0 e⟩
    · have ne : 0 < L.length := by
        rcases Nat.eq_zero_or_pos L.length with z | z
        · exfalso
          apply q
          rw [List.length_map, z]
          rfl
        · exact z
      refine ⟨_, rfl, l, _, 0, .ref L[0].1, rfl, rfl, hL.1, atI_nat (j := 0) (by rw [List.getElem?_map, List.getElem?_eq_getElem ne]; rfl), ?_⟩
      refine ⟨_, rfl, l, rfl, ⟨_, hL.1⟩, for_list (K := K) (xs := L.map fun x => V.ref x.1) (fun i σ H2 => H2 = H ∧ ∃ (y : Addr × Rat) (v : Option V), σ = [some (.ref l), some nv, some (.ref y.1), v] ∧ y ∈ L ∧ ∀ x ∈ L.take i, x.2 ≤ y.2)
        ⟨rfl, L[0], none, rfl, List.getElem_mem ne, fun x hx => (nomatch hx)⟩ (fun i σ H2 _ z => by obtain ⟨rfl, _⟩ := z; exact hL.1) ?_ ?_⟩
      · rintro i v σ H2 hi ⟨e2, y, v3, rfl, hy, hb⟩
        have e2 := e2.symm
        subst e2
        rw [List.getElem?_map] at hi
        obtain ⟨x, hx, rfl⟩ := Option.map_eq_some_iff.mp hi
        have hm : x ∈ L := List.mem_of_getElem? hx
        have et : L.take (i + 1) = L.take i ++ [x] := by rw [List.take_add_one, hx]; rfl
        obtain ⟨dy, hy'⟩ := hL.2 y hy
        refine ⟨_, rfl, y.1, dy, _, rfl, hy', no_below _, _, rfl, y.1, x.1, y.2, x.2, 50, rfl, ⟨dy, hy'⟩, hL.2 x hm, hS y hy, hS x hm, by decide, by decide, _, rfl, ?_⟩
        refine ite2 (fun q => ?_) (fun q => ?_)
        · have q := of_decide_eq_true q
          refine ⟨_, rfl, rfl, x, _, rfl, hm, fun x' hx' => ?_⟩
          rw [et] at hx'
          rcases List.mem_append.mp hx' with g | g
          · have := hb x' g
            grind
          · rw [List.mem_singleton.mp g]
            exact Rat.le_refl
        · have q : ¬ y.2 < x.2 := fun z => q (decide_eq_true z)
          refine ⟨rfl, y, _, rfl, hy, fun x' hx' => ?_⟩
          rw [et] at hx'
          rcases List.mem_append.mp hx' with g | g
          · exact hb x' g
          · rw [List.mem_singleton.mp g]
            grind
      · rintro σ H2 ⟨e2, y, v3, rfl, hy, hb⟩
        have e2 := e2.symm
        subst e2
        rw [List.length_map, List.take_length] at hb
        exact ⟨_, rfl, hQ y hy hb⟩
end
end K03
set_option linter.all false
set_option Elab.async false
/-! IO: names put in order by worths, one behind another. -/
namespace IO
open PySem
/-- x is ahead of y, as texts -/
def slt (x y : Str) : Prop := x.cps.toList < y.cps.toList
instance (x y : Str) : Decidable (slt x y) := inferInstanceAs (Decidable (x.cps.toList < y.cps.toList))
theorem slt_trans_not {x y z : Str} (h1 : ¬ slt y x) (h2 : ¬ slt z y) : ¬ slt z x := by
  have a : x.cps.toList ≤ y.cps.toList := h1
  have b : y.cps.toList ≤ z.cps.toList := h2
  exact List.le_trans a b
theorem slt_antisymm {x y : Str} (h1 : ¬ slt y x) (h2 : ¬ slt x y) : x = y := by
  have a : x.cps.toList ≤ y.cps.toList := h1
  have b : y.cps.toList ≤ x.cps.toList := h2
  exact TL.ext_tl (List.le_antisymm a b)
theorem rising : ∀ (l : List Str) (p : Str), PyProof.Rows.risingS p l = true → (p :: l).Pairwise fun a b => ¬ slt b a
  | [], p, _ => List.pairwise_singleton ..
  | x :: r, p, h => by
    have h' : (!PySem.Spec.ltCps x.cps.toList p.cps.toList && PyProof.Rows.risingS x r) = true := h
    rw [Bool.and_eq_true, PyProof.Rows.ltCps_eq] at h'
    have h1 : ¬ slt x p := by
      have := h'.1
      simpa [slt] using this
    have ih := rising r x h'.2
    refine List.pairwise_cons.mpr ⟨fun y hy => ?_, ih⟩
    rcases List.mem_cons.mp hy with e | hy
    · rw [e]; exact h1
    · exact slt_trans_not h1 ((List.pairwise_cons.mp ih).1 y hy)
theorem sorted_pw {l : List Str} (h : PyProof.Rows.sortedS l = true) : l.Pairwise fun a b => ¬ slt b a := by
  cases l with
  | nil => exact List.Pairwise.nil
  | cons x r => exact rising r x h
/-- two lists in order, of the same texts, are one -/
theorem sorted_same {l m : List Str} (h1 : l.Pairwise fun a b => ¬ slt b a) (h2 : m.Pairwise fun a b => ¬ slt b a) (p : l.Perm m) : l = m :=
  List.Perm.eq_of_pairwise (le := fun a b => ¬ slt b a) (fun a b _ _ x y => slt_antisymm x y) h1 h2 p
/-- by worths, alike ones by names -/
def le (ρ : Str → Rat) (x y : Str) : Prop := ρ x < ρ y ∨ (ρ x = ρ y ∧ ¬ slt y x)
theorem le_rat {ρ : Str → Rat} {x y : Str} (h : le ρ x y) : ρ x ≤ ρ y := by
  rcases h with h | h
  · exact Rat.le_of_lt h
  · rw [h.1]; exact Rat.le_refl
theorem put_in {ρ : Str → Rat} {zs : List Str} {x : Str} {j : Nat} (hz : zs.Pairwise (le ρ)) (hx : ∀ z ∈ zs, ¬ slt x z) (hj : j ≤ zs.length) (hi : ∀ z ∈ zs.drop j, ρ x < ρ z) (lo : ∀ z ∈ zs.take j, ρ z ≤ ρ x) :
    (zs.take j ++ [x] ++ zs.drop j).Pairwise (le ρ) := by
  have h0 := hz
  rw [← List.take_append_drop j zs] at h0
  obtain ⟨h1, h2, h3⟩ := List.pairwise_append.mp h0
  rw [List.append_assoc]
  refine List.pairwise_append.mpr ⟨h1, ?_, fun a ha b hb => ?_⟩
  · exact List.pairwise_cons.mpr ⟨fun b hb => .inl (hi b hb), h2⟩
  · rcases List.mem_cons.mp hb with e | hb
    · subst e
      rcases Rat.le_iff_lt_or_eq.mp (lo a ha) with h | h
      · exact .inl h
      · exact .inr ⟨h, hx a (List.mem_of_mem_take ha)⟩
    · exact h3 a ha b hb
theorem put_perm {zs : List Str} {x : Str} (j : Nat) : (zs.take j ++ [x] ++ zs.drop j).Perm (x :: zs) := by
  rw [List.append_assoc]
  have h : (zs.take j ++ ([x] ++ zs.drop j)).Perm (x :: (zs.take j ++ zs.drop j)) := List.perm_middle
  rw [List.take_append_drop] at h
  exact h
end IO
set_option Elab.async false
set_option linter.all false
set_option maxRecDepth 100000
set_option maxHeartbeats 4000000
namespace K03
open PySem PySem.Spec PyProof.Rows L2
open C8 (Cal Mak Met pe_c pe_mk pe_mt pe_mt0)
open KM (pr Sz)
section
variable {P : Program} {w : World} {K : PySem.W.Frag} {mg : Str → Option Value} {base : Heap} {f C : Addr} {fd : FuncData}
/-- a dict from names to Shares: who isn't in it has nought -/
def ShD (C : Addr) (H : Hp) (d : Addr) (kvs : List (Key × V)) (ρ : Str → Rat) : Prop := H d = some (.dK kvs) ∧ (∀ x v, valV kvs (Sum.inr x) = some v → ∃ p, v = .ref p ∧ Sh C H p (pr (ρ x))) ∧ ∀ x, valV kvs (Sum.inr x) = none → ρ x = 0
theorem ShD.keep {H H' : Hp} {d : Addr} {kvs : List (Key × V)} {ρ : Str → Rat} (s : Same H H') (h : ShD C H d kvs ρ) : ShD C H' d kvs ρ :=
  ⟨s _ _ h.1, fun x v e => let ⟨p, e1, e2⟩ := h.2.1 x v e; ⟨p, e1, e2.keep s⟩, h.2.2⟩
/-- what get tells -/
theorem ShD.get {H : Hp} {d n0 : Addr} {kvs : List (Key × V)} {ρ : Str → Rat} (h : ShD C H d kvs ρ) (h0 : Sh C H n0 (pr 0)) (x : Str) : ∃ p, ((valV kvs (Sum.inr x)).getD (.ref n0)) = .ref p ∧ Sh C H p (pr (ρ x)) := by
  cases e : valV kvs (Sum.inr x) with
  | none =>
    rw [h.2.2 x e]
    exact ⟨n0, rfl, h0⟩
  | some v =>
    obtain ⟨p, rfl, hp⟩ := h.2.1 x v e
    exact ⟨p, rfl, hp⟩
def spInOrder (K : PySem.W.Frag) (C : Addr) : Sp := fun vs H Q _ => ∃ (l d : Addr) (xs : List Str) (kvs : List (Key × V)) (ρ : Str → Rat) (n : Nat), vs = [.ref l, .ref d] ∧ SqL K H l (xs.map V.str) ∧ xs.length < 64 ∧ ShD C H d kvs ρ ∧ (∀ x, Sz n (ρ x)) ∧ 0 < n ∧ n ≤ 4000 ∧
  ∀ (o : Addr) (zs : List Str) (H' : Hp), Same H H' → H o = none → H' o = some (.lst (zs.map V.str)) → zs.Perm xs → zs.Pairwise (IO.le ρ) → Q (.ref o) H'
theorem ok_in_order (F : Dn K d_in_order f fd) (bl : Bl mg) (bs : mg "sorted" = none) (M1 : MakS1 P w K mg base C) (mb : Met P w K mg base 1 C "below" (spLt C) []) : FnOk P w K mg base CX0 4 f fd ["names", "shares"] (spInOrder K C) := by
  refine F.ok sc_in_order (fun vs H Q E h => ?_) (fun cdv A outer s H vs Q E hr h => ?_)
  · obtain ⟨l, d, xs, kvs, ρ, n, rfl, _⟩ := h
    rfl
  · obtain ⟨l, d, xs, kvs, ρ, n, rfl, hl, hlen, hd, hS, n0, n9, hQ⟩ := h
    have hu := hu_of hr
    refine ⟨_, PSs.nox (pss_cons (ps_set (i := 2) sc_in_order.nd rfl (.inl rfl) (pe_mk M1 hr (by decide) rfl (pa_cons pe_int pa_nil)))
      (pss_cons (ps_set (i := 3) sc_in_order.nd rfl (.inl rfl) (pe_lst pa_nil))
      (pss_cons (ps_for PassesOwn.never rfl (pi_list (pe_callB cr_sortedS rfl bs boot_sorted (pa_cons (pv 0) pa_nil))) (pg_name (i := 4) sc_in_order.nd rfl (.inl rfl))
        (pss_cons (ps_set (i := 5) sc_in_order.nd rfl (.inl rfl) (pe_dget2 hu (pv 1) (pv 4) (pv 2) ⟨rfl, rfl, rfl, rfl⟩))
        (pss_cons (ps_set (i := 6) sc_in_order.nd rfl (.inl rfl) (pe_callB call_len_seq rfl bl.len boot_len (pa_cons (pv 3) pa_nil)))
        (pss_cons (ps_while PassesOwn.never (PW.pt (pw_and (pt_cmpR op_gt (pv 6) pe_int (nomark _)) (pw_and1 (pt_val (pe_mt mb hr (by decide) (pv 5) (pa_cons (pe_dget2 hu (pv 1) (pe_ix ix_list (pv 3) (pe_op op_sub (pv 6) pe_int) (fun _ _ => rfl)) (pv 2) ⟨rfl, rfl, rfl, rfl⟩) pa_nil))))))
          (pss_one (ps_aug (i := 6) sc_in_order.nd rfl (.inl rfl) pe_int ip_sub)))
        (pss_one (ps_expr (pe_bm PySem.F.plainAttrs_list PySem.F.slot_list_insert PySem.F.type_list_insert mt_insert (pv 3) (pa_cons (pv 6) (pa_cons (pv 4) pa_nil)))))))))
      (pss_one (ps_ret (pv 3)))))), ?_⟩
    intro p pd np nd ne
    refine mk_in (n := 1) np nd (by decide) (by decide) (by decide) (by decide) fun H1 s1 hp => ⟨rfl, ?_⟩
    have z0 : Rat.divInt 0 1 = 0 := by rfl
    rw [z0] at hp
    refine ⟨by show 0 ≤ sizeLine; decide, fun o ho => ?_⟩
    have so := same_new (o := .lst []) ho
    refine ⟨_, rfl, l, xs, rfl, (s1.trans so).seq hl, hlen, fun ys q hperm hsort hq => ?_⟩
    have sq := same_new (o := .lst (ys.map V.str)) hq
    have noq : o ≠ q := ne_of_none upd_same hq
    have hpw := IO.sorted_pw hsort
    have s3 : Same H1 (upd (upd H1 o (.lst [])) q (.lst (ys.map V.str))) := so.trans sq
    have ho3 : (upd (upd H1 o (.lst [])) q (.lst (ys.map V.str))) o = some (.lst []) := by rw [upd_ne noq]; exact upd_same
    have hq3 : (upd (upd H1 o (.lst [])) q (.lst (ys.map V.str))) q = some (.lst (ys.map V.str)) := upd_same
    generalize upd (upd H1 o (.lst [])) q (.lst (ys.map V.str)) = H3 at s3 ho3 hq3 ⊢
    have ylen : ys.length < 64 := by rw [hperm.length_eq]; exact hlen
    refine ⟨q, rfl, ⟨_, SqL.of hq3⟩, for_list (K := K) (xs := ys.map V.str) (fun i σ H2 => Same H1 H2 ∧ H2 q = some (.lst (ys.map V.str)) ∧ ∃ (zs : List Str) (v4 v5 v6 : Option V), σ = [some (.ref l), some (.ref d), some (.ref p), some (.ref o), v4, v5, v6] ∧ H2 o = some (.lst (zs.map V.str)) ∧ zs.Perm (ys.take i) ∧ zs.Pairwise (IO.le ρ))
      ⟨s3, hq3, [], none, none, none, rfl, ho3, List.Perm.refl _, List.Pairwise.nil⟩ (fun i σ H2 _ z => SqL.of z.2.1) ?_ ?_⟩
    · rintro i y σ H2 hi ⟨s2, hq2, zs, v4, v5, v6, rfl, ho2, zperm, zpw⟩
      rw [List.getElem?_map] at hi
      cases hx : ys[i]? with
      | none =>
        rw [hx] at hi
        cases hi
      | some x =>
        rw [hx] at hi
        cases (Option.some.inj hi : V.str x = y)
        have hd2 := hd.keep (s1.trans s2)
        have hp2 := hp.keep s2
        obtain ⟨px, ex, hpx⟩ := hd2.get hp2 x
        refine ⟨_, rfl, d, rfl, .inl ⟨kvs, .inl hd2.1⟩, _, rfl, _, rfl, _, DGet.k (k := Sum.inr x) hd2.1, ?_⟩
        rw [ex]
        refine ⟨_, rfl, o, _, rfl, Or.inl (SqL.of ho2), ?_⟩
        have hzl : zs.length ≤ i := by rw [zperm.length_eq, List.length_take]; exact Nat.min_le_left _ _
        have hil : i < ys.length := (List.getElem?_eq_some_iff.mp hx).1
        rw [List.length_map]
        refine ⟨fun m σ' H' => H' = H2 ∧ m ≤ zs.length ∧ σ' = [some (.ref l), some (.ref d), some (.ref p), some (.ref o), some (.str x), some (.ref px), some (.int (m : Int))] ∧ ∀ z ∈ zs.drop m, ρ x < ρ z, ⟨zs.length, rfl, Nat.le_refl _, rfl, by simp⟩, ?_⟩
        rintro m σ' H' ⟨rfl, hm, rfl, hgt⟩
        refine ⟨_, rfl, _, _, rfl, rfl, _, rfl, ?_⟩
        have leave : (∀ z ∈ zs.take m, ρ z ≤ ρ x) → tDrop (tBM K "list" (fun x vs H Q => ∃ (l : Addr) (xs : List V) (i : Int) (y : V), x = .ref l ∧ vs = [.int i, y] ∧ H l = some (.lst xs) ∧ xs.length < sizeLine ∧ 0 ≤ i ∧ i < 2 ^ 63 ∧ Q .non (upd H l (.lst (xs.take i.toNat ++ [y] ++ xs.drop i.toNat))))
            (tVar 3) (tCons (tVar 6) (tCons (tVar 4) tNil))) { nx := fun σ' H' => Same H1 H' ∧ H' q = some (.lst (ys.map V.str)) ∧ ∃ (zs : List Str) (v4 v5 v6 : Option V), σ' = [some (.ref l), some (.ref d), some (.ref p), some (.ref o), v4, v5, v6] ∧ H' o = some (.lst (zs.map V.str)) ∧ zs.Perm (ys.take (i + 1)) ∧ zs.Pairwise (IO.le ρ), rt := Q }
            [some (.ref l), some (.ref d), some (.ref p), some (.ref o), some (.str x), some (.ref px), some (.int (m : Int))] H' := by
          intro hlo
          refine ⟨_, rfl, Or.inl ⟨rfl, _, SqL.of ho2⟩, _, rfl, _, rfl, o, _, _, _, rfl, rfl, ho2, ?_, Int.natCast_nonneg m, ?_, ?_⟩
          · rw [List.length_map]
            exact Nat.lt_of_lt_of_le (by omega : zs.length < 64) (by decide)
          · omega
          · refine ⟨fun a u e => ?_, ?_, zs.take m ++ [x] ++ zs.drop m, _, _, _, rfl, ?_, ?_, ?_⟩
            · rw [upd_ne (fun z => by rw [z, ho] at e; cases e)]
              exact s2 a u e
            · rw [upd_ne (Ne.symm noq)]
              exact hq2
            · rw [upd_same, Int.toNat_natCast]
              simp [List.map_append, List.map_take, List.map_drop]
            · refine (IO.put_perm m).trans ?_
              rw [List.take_add_one, hx]
              exact (List.Perm.cons x zperm).trans (List.perm_append_singleton x _).symm
            · refine IO.put_in zpw (fun z hz => ?_) hm hgt hlo
              have hz' : z ∈ ys.take i := zperm.subset hz
              have hsplit : ys = ys.take i ++ x :: ys.drop (i + 1) := by
                have h1 := List.take_append_drop i ys
                rw [List.drop_eq_getElem_cons hil] at h1
                have h2 : ys[i] = x := (List.getElem?_eq_some_iff.mp hx).2
                rw [h2] at h1
                exact h1.symm
              rw [hsplit] at hpw
              exact (List.pairwise_append.mp hpw).2.2 z hz' x (List.mem_cons_self ..)
        cases m with
        | zero =>
          refine ite2 (fun hh => absurd (of_decide_eq_true hh) (by decide)) (fun _ => iteF ?_)
          exact leave (by simp)
        | succ m =>
          have hmm : m < zs.length := hm
          refine ite2 (fun _ => ?_) (fun hh => (hh (decide_eq_true (by omega))).elim)
          have hat : atI (zs.map V.str) (((m + 1 : Nat) : Int) - 1) = some (.str zs[m]) := by
            have e : ((m + 1 : Nat) : Int) - 1 = (m : Int) := by omega
            rw [e]
            exact atI_nat (by rw [List.getElem?_map, List.getElem?_eq_getElem hmm]; rfl)
          obtain ⟨pz, ez, hpz⟩ := hd2.get hp2 zs[m]
          obtain ⟨dx, hpx1⟩ := id hpx
          refine ⟨_, rfl, px, dx, _, rfl, hpx1, shF_no _ (by decide +kernel) (by decide +kernel), _, rfl, d, rfl, .inl ⟨kvs, .inl hd2.1⟩, _, rfl, _, rfl, _, _, rfl, rfl, o, _, _, _, rfl, rfl, SqL.of ho2, hat, _, rfl, _, DGet.k (k := Sum.inr zs[m]) hd2.1, ?_⟩
          rw [ez]
          refine ⟨px, pz, ρ x, ρ zs[m], n, rfl, hpx, hpz, hS x, hS _, n0, n9, _, rfl, ?_⟩
          refine ite2 (fun g => ?_) (fun g => ?_)
          · have g' : ρ x < ρ zs[m] := of_decide_eq_true g
            refine ⟨fun σ' H'' => H'' = H' ∧ σ' = [some (.ref l), some (.ref d), some (.ref p), some (.ref o), some (.str x), some (.ref px), some (.int (m : Int))], ?_, ?_⟩
            · rintro σ' H'' ⟨rfl, rfl⟩
              refine ⟨m, Nat.lt_succ_self m, rfl, Nat.le_of_lt hmm, rfl, fun z hz => ?_⟩
              rw [List.drop_eq_getElem_cons hmm] at hz
              rcases List.mem_cons.mp hz with e | hz
              · rw [e]; exact g'
              · exact hgt z hz
            · refine ⟨_, rfl, _, _, rfl, rfl, rfl, ?_⟩
              show [_, _, _, _, _, _, some (V.int (((m + 1 : Nat) : Int) - 1))] = _
              rw [show ((m + 1 : Nat) : Int) - 1 = (m : Int) by omega]
          · have g' : ¬ ρ x < ρ zs[m] := fun z => g (decide_eq_true z)
            refine leave fun z hz => ?_
            obtain ⟨j, hj, ej⟩ := List.mem_iff_getElem.mp hz
            rw [List.length_take] at hj
            have hjm : j ≤ m := by omega
            have hjz : j < zs.length := by omega
            rw [List.getElem_take] at ej
            have hlast : ρ zs[m] ≤ ρ x := Rat.not_lt.mp g'
            rcases Nat.lt_or_ge j m with hlt | hge
            · have := List.pairwise_iff_getElem.mp zpw j m hjz hmm hlt
              rw [ej] at this
              exact Rat.le_trans (IO.le_rat this) hlast
            · have : j = m := by omega
              subst this
              rw [ej] at hlast
              exact hlast
    · rintro σ H2 ⟨s2, hq2, zs, v4, v5, v6, rfl, ho2, zperm, zpw⟩
      rw [List.length_map, List.take_length] at zperm
      exact ⟨_, rfl, hQ o zs H2 (s1.trans s2) (s1.free ho) ho2 (zperm.trans hperm) zpw⟩
end
end K03
set_option Elab.async false
set_option linter.all false
set_option maxRecDepth 100000
set_option maxHeartbeats 4000000
namespace K03
open PySem PySem.Spec PyProof.Rows L2
open C8 (Cal Mak Met pe_c pe_mk pe_mt pe_mt0)
open KM (pr Sz)
open SX (S)
theorem Held.no {H : Hp} {h a : Addr} {c : Nat} {o : HO} (x : Held H h c) (e : H a = some o) (n : ∀ kvs, o ≠ .dK kvs) : a ≠ h := fun z => by
  obtain ⟨l, ns, m, k, h1, _⟩ := x
  rw [z, h1] at e
  exact n _ (Option.some.inj e).symm
section
variable {P : Program} {w : World} {K : PySem.W.Frag} {mg : Str → Option Value} {base : Heap} {f C : Addr} {fd : FuncData}
def spFr : Sp := fun vs H Q _ => ∃ (h : Addr) (c : Nat), vs = [.ref h] ∧ Held H h (c + 10) ∧ ∀ (t : Addr) (v : Rat) (H' : Hp), Held H' h c → Kp h H H' → H t = none → H' t = some (tupP (pr v)) → Sz 20 v → Q (.ref t) H'
theorem ok_fr (F : Dn K d_l_fraction f fd) (cD : CalD P w K mg base) (cL : CalL P w K mg base) : FnOk P w K mg base CX0 2 f fd ["_law_held_here"] spFr := by
  refine F.ok sc_l_fraction (fun vs H Q E h => ?_) (fun cdv A outer s H vs Q E hr h => ?_)
  · obtain ⟨h, c, rfl, _⟩ := h
    rfl
  · obtain ⟨h, c, rfl, held, hQ⟩ := h
    refine ⟨_, PSs.nox (pss_cons (ps_set (i := 1) sc_l_fraction.nd rfl (.inl rfl) (pe_op op_mulW
        (pe_ix ix_list (pe_lst (pa_cons (pe_c cD hr (by decide) rfl (pa_cons (pv 0) (pa_cons pe_int pa_nil))) (pa_cons (pe_c cD hr (by decide) rfl (pa_cons (pv 0) (pa_cons (pe_op op_pow pe_int pe_int) pa_nil))) pa_nil))) (pe_c cD hr (by decide) rfl (pa_cons (pv 0) (pa_cons pe_int pa_nil))) (fun _ _ => rfl))
        (pe_ix ix_list (pe_lst (pa_cons pe_int (pa_cons pe_int (pa_cons (pe_un un_neg pe_int) pa_nil)))) (pe_c cD hr (by decide) rfl (pa_cons (pv 0) (pa_cons pe_int pa_nil))) (fun _ _ => rfl))))
      (pss_one (ps_ret (pe_c cL hr (by decide) rfl (pa_cons (pv 1) (pa_cons (pe_op op_add pe_int (pe_ix ix_list (pe_lst (pa_cons (pe_c cD hr (by decide) rfl (pa_cons (pv 0) (pa_cons pe_int pa_nil))) (pa_cons (pe_c cD hr (by decide) rfl (pa_cons (pv 0) (pa_cons (pe_op op_pow pe_int pe_int) pa_nil))) pa_nil))) (pe_c cD hr (by decide) rfl (pa_cons (pv 0) (pa_cons pe_int pa_nil))) (fun _ _ => rfl))) pa_nil)))))), ?_⟩
    refine ⟨_, rfl, h, c + 9, 7, rfl, held.weak (by omega), by decide, by decide, fun r1 H1 r10 r11 held1 k1 => ⟨_, rfl, _, _, rfl, rfl, ⟨by decide, by decide, by decide⟩, h, c + 8, _, rfl, held1.weak (by omega), by decide, by decide, fun r2 H2 r20 r21 held2 k2 => ⟨by show 2 ≤ sizeLine; decide, fun q fq => ?_⟩⟩⟩
    have r21 : r2 < 1000000 := r21
    have sq := same_new (o := .lst [.int r1, .int r2]) fq
    have hq3 : (upd H2 q (.lst [.int r1, .int r2])) q = some (.lst [.int r1, .int r2]) := upd_same
    have held3 := held2.same sq
    have k03 := (k1.trans k2).trans (Kp.same sq)
    generalize upd H2 q (.lst [.int r1, .int r2]) = H3 at hq3 held3 k03
    refine ⟨_, rfl, h, c + 7, 2, rfl, held3.weak (by omega), by decide, by decide, fun r3 H4 r30 r31 held4 k4 => ?_⟩
    have hq4 := k4.1 _ _ hq3 (held3.no hq3 fun kvs e => by cases e)
    obtain ⟨a, ha, a0, a1⟩ : ∃ a : Int, atI [V.int r1, V.int r2] r3 = some (.int a) ∧ 0 ≤ a ∧ a < 1000000 := by
      rcases (show r3 = 0 ∨ r3 = 1 by omega) with rfl | rfl
      · exact ⟨r1, rfl, r10, by omega⟩
      · exact ⟨r2, rfl, r20, r21⟩
    refine ⟨q, _, _, _, rfl, rfl, SqL.of hq4, ha, _, rfl, by show 3 ≤ sizeLine; decide, fun q2 fq2 => ?_⟩
    have sq2 := same_new (o := .lst [.int 1, .int 1, .int (-1)]) fq2
    have hq5 : (upd H4 q2 (.lst [.int 1, .int 1, .int (-1)])) q2 = some (.lst [.int 1, .int 1, .int (-1)]) := upd_same
    have held5 := held4.same sq2
    have k05 := (k03.trans k4).trans (Kp.same sq2)
    generalize upd H4 q2 (.lst [.int 1, .int 1, .int (-1)]) = H5 at hq5 held5 k05
    refine ⟨_, rfl, h, c + 6, 3, rfl, held5.weak (by omega), by decide, by decide, fun r4 H6 r40 r41 held6 k6 => ?_⟩
    have hq6 := k6.1 _ _ hq5 (held5.no hq5 fun kvs e => by cases e)
    obtain ⟨b, hb, b1⟩ : ∃ b : Int, atI [V.int 1, V.int 1, V.int (-1)] r4 = some (.int b) ∧ (b = 1 ∨ b = -1) := by
      rcases (show r4 = 0 ∨ r4 = 1 ∨ r4 = 2 by omega) with rfl | rfl | rfl
      · exact ⟨1, rfl, .inl rfl⟩
      · exact ⟨1, rfl, .inl rfl⟩
      · exact ⟨-1, rfl, .inr rfl⟩
    refine ⟨q2, _, _, _, rfl, rfl, SqL.of hq6, hb, _, _, rfl, rfl, wide_mul (a := 20) (b := 1) (by show a.natAbs < 2 ^ 20; omega) (by rcases b1 with rfl | rfl <;> decide) (by decide) (by decide) (by decide), ?_⟩
    have tn : (a * b).natAbs < 2 ^ 20 := by rcases b1 with rfl | rfl <;> omega
    have k06 := k05.trans k6
    refine ⟨_, rfl, _, rfl, h, c + 5, 6, rfl, held6.weak (by omega), by decide, by decide, fun r5 H7 r50 r51 held7 k7 => ⟨_, rfl, _, _, rfl, rfl, ⟨by decide, by decide, by decide⟩, h, c + 4, _, rfl, held7.weak (by omega), by decide, by decide, fun r6 H8 r60 r61 held8 k8 => ⟨by show 2 ≤ sizeLine; decide, fun q3 fq3 => ?_⟩⟩⟩
    have r61 : r6 < 10000 := r61
    have sq3 := same_new (o := .lst [.int r5, .int r6]) fq3
    have hq9 : (upd H8 q3 (.lst [.int r5, .int r6])) q3 = some (.lst [.int r5, .int r6]) := upd_same
    have held9 := held8.same sq3
    have k09 := ((k06.trans k7).trans k8).trans (Kp.same sq3)
    generalize upd H8 q3 (.lst [.int r5, .int r6]) = H9 at hq9 held9 k09
    refine ⟨_, rfl, h, c + 3, 2, rfl, held9.weak (by omega), by decide, by decide, fun r7 H10 r70 r71 held10 k10 => ?_⟩
    have hq10 := k10.1 _ _ hq9 (held9.no hq9 fun kvs e => by cases e)
    obtain ⟨d, hd, d0, d1⟩ : ∃ d : Int, atI [V.int r5, V.int r6] r7 = some (.int d) ∧ 0 ≤ d ∧ d < 10000 := by
      rcases (show r7 = 0 ∨ r7 = 1 by omega) with rfl | rfl
      · exact ⟨r5, rfl, r50, by omega⟩
      · exact ⟨r6, rfl, r60, r61⟩
    have k010 := k09.trans k10
    refine ⟨q3, _, _, _, rfl, rfl, SqL.of hq10, hd, _, _, rfl, rfl, ?_⟩
    have bn : 1 + d ≠ 0 := by omega
    refine ⟨_, _, 20, rfl, bn, by show (1 + d).natAbs < 2 ^ 20; omega, by decide, by decide, fun t ft => ?_⟩
    rw [KM.low_eq bn]
    have stt := same_new (o := tupP (pr (Rat.divInt (a * b) (1 + d)))) ft
    refine hQ t _ _ ((held10.same stt).weak (by omega)) (k010.trans (Kp.same stt)) ?_ upd_same (KM.sz_of_low bn tn (by omega))
    cases hh : H t with
    | none => rfl
    | some o =>
      exfalso
      by_cases e : t = h
      · obtain ⟨l, ns, m, k, g1, _⟩ := held10
        rw [e, g1] at ft
        cases ft
      · rw [k010.1 _ _ hh e] at ft
        cases ft
end
end K03
set_option Elab.async false
set_option linter.all false
set_option maxRecDepth 100000
set_option maxHeartbeats 4000000
/-! GL: promises of defs that are asked only where no repr is under way (A.guards = some []); what such a def may do more: repr of lists and tuples. -/
namespace GL
open PySem PySem.Spec PyProof.Rows L2
/-- a def's promise, where no repr is under way -/
structure FnG (P : Program) (w : World) (K : PySem.W.Frag) (mg : Str → Option Value) (base : Heap) (k : Nat) (f : Addr) (fd : FuncData) (ps : List Str) (sp : Sp) : Prop where
  len : ∀ vs H Q E, sp vs H Q E → vs.length = ps.length
  run : ∀ (A : Around) (outer : List Env) (s : Shared) (H : Hp) (args : Args) (us : List Value) (vs : List V) (Q : VK) (E : XK), A.guards = some [] → Room k A → Env0 P w K mg base A outer s H → BindsTo s fd args (ps.zip us) → Vals vs us → sp vs H Q E →
    codeAny (model P w) A (.call (.ref f) args) (CR CX0 outer P w H s Q E) s
section
variable {P : Program} {w : World} {K : PySem.W.Frag} {mg : Str → Option Value} {base : Heap} {k : Nat} {f : Addr} {fd : FuncData} {ps : List Str} {sp : Sp}
theorem FnG.of (F : FnOk P w K mg base CX0 k f fd ps sp) : FnG P w K mg base k f fd ps sp := ⟨F.len, fun A outer s H args us vs Q E _ => F.run A outer s H args us vs Q E⟩
/-- by its body -/
theorem okG {x qual : Str} {params : Arguments} {body : List Stmt} {scope : Scope} {dvs : List V} {kws : List (Str × V)} {N : List Str} (F : FunD K x qual params body scope dvs kws f fd) (S : FnScope N ps scope) (len : ∀ vs H Q E, sp vs H Q E → vs.length = ps.length)
    (hbody : ∀ (cdv : Value) (A : Around) (outer : List Env) (s : Shared) (H : Hp) (vs : List V) (Q : VK) (E : XK), A.guards = some [] → Room k (A.deeper (envOfC qual scope s.heap.objs.size f cdv)) → sp vs H Q E →
      ∃ t, PSs (cxOf CX0 P w K mg base N qual scope f cdv A outer s H E) body t ∧ t { nx := fun _ H' => Q .non H', rt := Q } (start N vs) H) : FnG P w K mg base (k + 1) f fd ps sp := by
  refine ⟨len, fun A outer s H args us vs Q E hg hr e0 hb r hsp => ?_⟩
  obtain ⟨oc, od, dV, kV, doc, pm, an, cdv, ct, osl, hfd, lk, hcd, _, _⟩ := F.ex
  subst hfd
  obtain ⟨t, ht, hq⟩ := hbody cdv A outer s H vs Q E hg (hr.deeper _) hsp
  have keep : ∀ b o, base.get? b = some o → s.heap.get? b = some o := fun b o e => (e0.bs b o e).1
  have KX : K.In s.heap := e0.mod.kin.keeps keep
  refine codeAny_call_function hr.depth (KX _ _ lk) rfl S.co S.gen rfl (PySem.W.codeRec_of KX hcd) (hb _ _ _ _ (wpAny_newFunctionEnv_cells S.kind (fun y hy => ?_) fun env he s1 x => ?_))
  · exact (S.par y.1 (List.of_mem_zip hy).1).imp id fun q => ⟨q, PySem.W.cellsFrom_some _ _ _ (.inl q)⟩
  · subst he
    refine ⟨(e0.mod.nolimit.keeps keep).keeps x.toInCall.keep, codeAny_func (wpAny_mono (ht.run [] s1 (start N vs) H _ (inv_start S hr.hd e0 (len _ _ _ _ hsp) r x) hq) (fun fl s' hs => ?_) fun e s' hs => hs)⟩
    match fl, hs with
    | .ret u, ⟨v, σ', H', J, rv, q⟩ => exact ⟨v, H', J.os, J.bare, J.base, J.hok, rv, q⟩
    | .next, ⟨σ', H', J, q⟩ => exact ⟨.non, H', J.os, J.bare, J.base, J.hok, rfl, q⟩
    | .brk, ⟨_, _, _, q⟩ => exact q.elim
    | .cont, ⟨_, _, _, q⟩ => exact q.elim
end
/-- the package of a def of this kind -/
structure CalG (P : Program) (w : World) (K : PySem.W.Frag) (mg : Str → Option Value) (base : Heap) (k : Nat) (x : Str) (sp : Sp) (dvs : List V) : Prop where
  ex : ∃ (f : Addr) (fd : FuncData) (ps : List Str) (ds : List Value), FnG P w K mg base k f fd ps sp ∧ mg x = some (.ref f) ∧ PySem.W.keepIn K (.ref f) = true ∧ Binds K fd ps ds ∧ Vals dvs ds
section
variable {X : Cx} {k j : Nat} {x : Str} {sp : Sp} {dvs : List V} {e : Expr} {es : List Expr} {t : TA} {p pos : Pos}
theorem pe_cG (c : CalG X.prog X.w X.K X.mg X.base k x sp dvs) (hgd : X.A.guards = some []) (hr : Room j X.A) (hk : k ≤ j) (hg : Gl X x) (ha : PA X (e :: es) t)
    (hdb : (x == ("__debug__" : Str)) = false := by decide) (he : starEach (e :: es) X.env = (false, eval e X.env) :: starEach es X.env := by rfl) (hpl : (backTo pos (starEach es X.env)).any (·.1) = false := by rfl) :
    PE X (.Call (.Name x p) (e :: es) [] pos) (tCall sp dvs E0 t) := by
  obtain ⟨f, fd, ps, ds, F, hm, kp, b, d⟩ := c.ex
  refine ⟨fun pins s σ H Q I h => wpAny_Call_Name_kw (ld_glob I hg hm (PySem.W.callWith_K (h₀ := X.base) I.ok.mod.kin kp (thn (ha.run pos pins s σ H _ I h) fun us s1 ⟨vs, H1, I1, r, q⟩ => ⟨I1.kIn, ?_⟩) he hpl) hdb)⟩
  have r2 := r.append d
  refine wpAny_call (codeAny_mono (F.run X.A X.stack s1 H1 ⟨us, []⟩ (us ++ ds) (vs ++ dvs) Q E0 hgd (hr.mono hk) I1.env0 (b s1 us I1.kIn (r2.length.symm.trans (F.len _ _ _ _ q))) r2 q) fun r s' hq => ?_)
  match r, hq with
  | .error _, hq => exact hq.elim
  | .ok (.ret u), hq => exact I1.after hq
  | .ok .next, hq => exact hq.elim
  | .ok .brk, hq => exact hq.elim
  | .ok .cont, hq => exact hq.elim
/-- repr of what is flat, of lists and tuples -/
def rRepr (K : PySem.W.Frag) : List V → Hp → VK → Prop := fun xs H Q => ∃ (y : V) (d : PyData), xs = [y] ∧ Dp K H y d ∧ d.showable = true ∧ d.hasDict = false ∧ d.depth ≤ 60 ∧ d.shown.length ≤ sizeLine ∧ Q (.str d.shown) H
theorem call_reprD (hgd : X.A.guards = some []) (hu : X.A.units + 64 < cLine) : CallR X (.builtin "repr") (rRepr X.K) := by
  intro pins s σ H xs us Q I r h
  obtain ⟨y, d, rfl, hd, hs, hn, hdp, hsz, q⟩ := h
  obtain ⟨u, rfl, ru⟩ := r.one
  obtain ⟨as, rd⟩ := Dp.reads I d y u hd ru
  have fin : ∀ h' tk t, (∀ b o, s.heap.get? b = some o → h'.get? b = some o) → EP X pins σ Q (.str d.shown t) { s with heap := h', toks := tk } := fun h' tk t hk => ⟨.str d.shown, H, I.kept hk, ⟨t, rfl⟩, q⟩
  cases hd with
  | non => cases ru; exact PySem.P.repr_of_none (fin s.heap _ _ fun _ _ e => e)
  | bl b => cases ru; exact PySem.P.repr_of_bool (fin s.heap _ _ fun _ _ e => e)
  | int i =>
    obtain ⟨t, rfl⟩ := ru
    exact PySem.P.repr_of_int (of_decide_eq_true hs) (fin s.heap _ _ fun _ _ e => e)
  | str z =>
    obtain ⟨t, rfl⟩ := ru
    exact PySem.P.repr_of_str (fin s.heap _ _ fun _ _ e => e) hsz
  | lst _ _ =>
    cases ru
    exact repr_of_reads' rd hs (fun z => absurd z (by rw [hn]; decide)) hgd (by omega) (fun _ _ e => e) (fun h' u tk hk => fin h' tk u hk) hsz
  | tup _ _ =>
    cases ru
    exact repr_of_reads' rd hs (fun z => absurd z (by rw [hn]; decide)) hgd (by omega) (fun _ _ e => e) (fun h' u tk hk => fin h' tk u hk) hsz
end
end GL
set_option Elab.async false
set_option linter.all false
set_option maxRecDepth 100000
set_option maxHeartbeats 4000000
/-! RPO: repr of lists, tuples and dicts that hold own instances, of any depth. -/
namespace RPO
open PySem PySem.Spec PyProof.Rows L2
open Builtin Builtin.List
/-- the guards stand on these alone -/
def Gd (g : List Code) (outs : List Addr) : Prop := ∀ id v rest kw, Code.builtin id ⟨v :: rest, kw⟩ ∈ g → ∃ a ∈ outs, v = .ref a
theorem Gd.nil : Gd [] [] := fun _ _ _ _ h => nomatch h
theorem Gd.cons {g : List Code} {outs : List Addr} {id : String} {a : Addr} {rest : List Value} {kw : List (Str × Value)} (h : Gd g outs) : Gd (.builtin id ⟨.ref a :: rest, kw⟩ :: g) (a :: outs) := by
  intro id' v rest' kw' hm
  rcases List.mem_cons.mp hm with e | hm
  · cases e
    exact ⟨a, List.mem_cons_self, rfl⟩
  · obtain ⟨b, hb, e⟩ := h _ _ _ _ hm
    exact ⟨b, List.mem_cons_of_mem _ hb, e⟩
theorem Gd.clear {g : List Code} {outs : List Addr} {a : Addr} (h : Gd g outs) (n : a ∉ outs) : Clear g a := fun id v rest kw hm e => by
  obtain ⟨b, hb, e2⟩ := h id v rest kw hm
  rw [e] at e2
  cases e2
  exact n hb
/-- all but these are as they were -/
def Ex (outs : List Addr) (H H' : Hp) : Prop := ∀ a o, H a = some o → a ∉ outs → H' a = some o
theorem Ex.refl (outs : List Addr) (H : Hp) : Ex outs H H := fun _ _ h _ => h
theorem Ex.ext {outs : List Addr} {H H1 H2 : Hp} (x : Ex outs H H1) (e : Ext H1 H2) : Ex outs H H2 := fun a o h n => e a o (x a o h n)
theorem Ex.more {outs : List Addr} {H H1 : Hp} {a : Addr} (x : Ex outs H H1) : Ex (a :: outs) H H1 := fun b o h n => x b o h fun z => n (List.mem_cons_of_mem _ z)
section
variable {X : Cx}
/-- what a thing shows as, within containers at outs -/
def RpU (X : Cx) (n : Nat) (outs : List Addr) (H0 : Hp) (v : V) (t : Str) : Prop := ∀ (A : Around) (g : List Code) (pins : List (Addr × Obj)) (s : Shared) (σ : L2.St) (H : Hp) (u : Value) (bs : Nat),
  Ex outs H0 H → Sub X n A → A.guards = some g → Gd g outs → Inv X pins σ H s → RelV v u → bs + t.length ≤ sizeLine →
  wpAny (model X.prog X.w) A (pyReprUnder bs u) (fun r s' => r = t ∧ ∃ H', Inv X pins σ H' s' ∧ Ext H H') X.xe s
theorem RpU.mono {n m : Nat} {outs : List Addr} {H0 : Hp} {v : V} {t : Str} (h : RpU X n outs H0 v t) (nm : n ≤ m) : RpU X m outs H0 v t := fun A g pins s σ H u bs x sb => h A g pins s σ H u bs x (sb.mono nm)
theorem RpU.non {n : Nat} {outs : List Addr} {H0 : Hp} : RpU X n outs H0 .non "None" := fun A g pins s σ H u bs x sb hg gd I r hb => by
  cases r
  exact ReprIs.none bs hb _ _ _ _ fun tk => ⟨rfl, H, I.tok tk, Ext.rfl'⟩
theorem RpU.bl {n : Nat} {outs : List Addr} {H0 : Hp} {b : Bool} : RpU X n outs H0 (.bl b) (if b then "True" else "False") := fun A g pins s σ H u bs x sb hg gd I r hb => by
  cases r
  exact ReprIs.bool b bs hb _ _ _ _ fun tk => ⟨rfl, H, I.tok tk, Ext.rfl'⟩
theorem RpU.int {n : Nat} {outs : List Addr} {H0 : Hp} {i : Int} (h : i.natAbs.log2 < 1920) : RpU X n outs H0 (.int i) (toString i) := fun A g pins s σ H u bs x sb hg gd I r hb => by
  obtain ⟨t, rfl⟩ := r
  exact ReprIs.int t h bs hb _ _ _ _ fun tk => ⟨rfl, H, I.tok tk, Ext.rfl'⟩
theorem RpU.str {n : Nat} {outs : List Addr} {H0 : Hp} {z : Str} : RpU X n outs H0 (.str z) (reprText z) := fun A g pins s σ H u bs x sb hg gd I r hb => by
  obtain ⟨t, rfl⟩ := r
  exact ReprIs.str z t (by omega) bs hb _ _ _ _ fun tk => ⟨rfl, H, I.tok tk, Ext.rfl'⟩
/-- an own instance, by its own __repr__ -/
theorem RpU.own {k n : Nat} {outs : List Addr} {H0 : Hp} {a C dx : Addr} {fs : List (Str × V)} {sp : Sp} {t : Str} (S : OW.Spc X.prog X.w X.K X.mg X.base k C "__repr__" sp) (ha : H0 a = some (.ins C dx fs)) (na : a ∉ outs)
    (hsp : ∀ H, H a = some (.ins C dx fs) → sp [.ref a] H (fun v H' => v = .str t ∧ Ext H H') E0) (kn : k ≤ n) : RpU X n outs H0 (.ref a) t := fun A g pins s σ H u bs x sb hg gd I r hb => by
  obtain ⟨f, fd, ps, h1, h2, F, hbi⟩ := S.ex
  cases (show u = Value.ref a from r)
  have ea := x a _ ha na
  obtain ⟨mA, O, _⟩ := ins_get I.hok ea
  obtain ⟨od, J, _⟩ := O.look
  have KI := I.kIn
  have e0 : Env0 X.prog X.w X.K X.mg X.base A X.stack s H := by
    have z := I.env0
    exact ⟨sb.fr.trans z.frames, z.mod, z.bs, z.bsz, z.funs, z.frf, z.hok, z.bare⟩
  refine wpAny_pyReprUnder_ref (by omega) ?_
  unfold pyReprObjUnder pyReprObjBy
  refine wpAny_bind (wpAny_cRoomFor sb.room.units0 ?_)
  refine wpAny_bind (wpAny_bind (J.type.here ((PySem.W.looks_findIn KI h1).here ?_)))
  show wpAny _ _ (if (some (Value.ref f)).isNone = true then _ else _) _ _ _
  rw [if_neg (by simp)]
  have called : wpAny (model X.prog X.w) A (call (.ref f) [.ref a]) (fun v s' => ∃ tk, v = .str t tk ∧ ∃ H', Inv X pins σ H' s' ∧ Ext H H') X.xe s := by
    refine wpAny_mono (OW.run_at (E' := X.xe) (vs := [.ref a]) F hbi (sb.room.mono kn) I e0 (.cons rfl .nil) (hsp H ea)) (fun w s' z => ?_) fun _ _ x => x
    obtain ⟨z', H', I', rz, z, e⟩ := z
    rw [z] at rz
    obtain ⟨tk, rfl⟩ := rz
    exact ⟨tk, rfl, H', I', e⟩
  refine wpAny_bind (m := callSpecialIfBoundBy? _ (.ref a) (Str.ofString "__repr__")) ?_
  have fin : wpAny (model X.prog X.w) A (callSpecialIfBoundBy? (fun g first => match reprUnder? g, first with | some twin, [self] => call twin [self, rawInt bs] | _, _ => call g (first ++ [])) (.ref a) (Str.ofString "__repr__"))
      (fun r s' => ∃ tk, r = some (.str t tk) ∧ ∃ H', Inv X pins σ H' s' ∧ Ext H H') X.xe s := by
    simp only [callSpecialIfBoundBy?, bindSpecialIfBound?]
    refine wpAny_holding (wpAny_bind (wpAny_bind (wpAny_bind (J.type.here ((PySem.W.looks_findIn KI h1).here ?_)))))
    refine wpAny_bind (wpAny_askSetting (wpAny_ite ?_))
    have ends : wpAny (model X.prog X.w) A (call (.ref f) ([.ref a] ++ []) >>= fun v => pure (some v)) (fun r s' => ∃ tk, r = some (.str t tk) ∧ ∃ H', Inv X pins σ H' s' ∧ Ext H H') X.xe s :=
      wpAny_bind (wpAny_mono called (fun v s' h' => wpAny_pure (by obtain ⟨tk, rfl, h⟩ := h'; exact ⟨tk, rfl, h⟩)) fun _ _ h' => h')
    split
    · exact wpAny_bind ((PySem.W.bind_fn KI _ (beq_iff_eq.mp h2)).here (wpAny_pure (by exact ends)))
    · exact wpAny_tryCatch (wpAny_bind ((PySem.W.bind_fn KI _ (beq_iff_eq.mp h2)).here (wpAny_pure (by exact ends))))
  refine wpAny_mono fin (fun r s' h' => ?_) fun _ _ x => x
  obtain ⟨tk, rfl, h⟩ := h'
  exact wpAny_bind (wpAny_isInstance (T := "str") (b := true) rfl isSubtype_str_str (wpAny_pure ⟨_, _, rfl, rfl, h⟩))
end
end RPO
set_option Elab.async false
set_option linter.all false
set_option maxRecDepth 100000
set_option maxHeartbeats 4000000
/-! RPL: the containers of RPO: lists, tuples, dicts. -/
namespace RPO
open PySem PySem.Spec PyProof.Rows L2
open Builtin Builtin.List
theorem strs_of : ∀ {ts : List Str} {us : List Value}, Vals (ts.map V.str) us → ∃ done : List (Str × Tok), us = strValues done ∧ done.map (·.1) = ts
  | [], _, .nil => ⟨[], rfl, rfl⟩
  | t :: ts, _, .cons r h => by
    obtain ⟨tk, rfl⟩ := r
    obtain ⟨done, rfl, e⟩ := strs_of h
    exact ⟨(t, tk) :: done, rfl, by simp [e]⟩
theorem sub_loop {X : Cx} {n : Nat} {A : Around} {args : Args} (h : Sub X (n + 1) A) : Sub X n (A.under (.builtin "list.__repr__.loop" args)) := by
  have hd : (A.under (.builtin "list.__repr__.loop" args)).depth ≤ A.depth + 1 := by
    first | exact Nat.le_refl _ | simp [Around.under, Code.weight, Code.isCreation, Code.isGuard, Code.isCaller, Code.frames, Code.isFrame, guardIds]
  have hu := units_under_list_loop A args
  have hf : (A.under (.builtin "list.__repr__.loop" args)).frames = A.frames := by
    have e : (Code.builtin "list.__repr__.loop" args).envs = [] := by first | rfl | simp [Code.envs, Code.isFrame]
    have e2 : (A.under (.builtin "list.__repr__.loop" args)).frames = pushEnvs (Code.envs (.builtin "list.__repr__.loop" args)) A.frames := by first | rfl | simp [Around.under]
    rw [e2, e]
    cases A.frames <;> first | rfl | simp [pushEnvs]
  obtain ⟨⟨h1, h2, h3⟩, h4⟩ := h
  exact ⟨⟨h1, by omega, by rw [hu]; omega⟩, hf.trans h4⟩
section
variable {X : Cx} {n : Nat} {outs : List Addr} {H0 : Hp} {a : Addr} {xs : List V} {ts : List Str}
theorem list_loop {A : Around} {g : List Code} {P : Addr} {bs : Nat} {pins : List (Addr × Obj)} {σ : L2.St} {Hb : Hp} {R : Result → Shared → Prop} (sb : Sub X (n + 1) A) (hg : A.guards = some g) (gd : Gd g outs) (ha : Hb a = some (.lst xs)) (hP : Hb P = none) (xe : Ex outs H0 Hb) (hlen : ts.length = xs.length)
    (hT : ∀ (i : Nat) (x : V), xs[i]? = some x → ∃ t, ts[i]? = some t ∧ RpU X n (a :: outs) H0 x t) (hsz : bs + (listText ts).length ≤ sizeLine)
    (hE : ∀ e s', X.xe e s' → R (.error e) s')
    (fin : ∀ (s' : Shared) (H' : Hp) (u : Tok), Inv X pins σ H' s' → Ext Hb H' → R (.ok (.ret (.str (listText ts) u))) s') :
    ∀ (k i : Nat) (s : Shared) (H : Hp), xs.length - i = k → i ≤ xs.length → Inv X pins σ H s → Ext Hb H → H P = some (.lst ((ts.take i).map V.str)) →
      codeAny (model X.prog X.w) A (.builtin "list.__repr__.loop" ⟨[.ref a, rawInt i, .ref P, rawInt ((bs + piled (ts.take i) : Nat) : Int)], []⟩) R s := by
  have hX : (listText ts).length = (textFrom 0 "[" ts).length + 1 := by
    show (textFrom 0 "[" ts ++ "]").length = _
    rw [strLen_append]; rfl
  have hL := textFrom_len ts 0 "["
  have each : ∀ t ∈ ts, t.length ≤ sizeLine := fun t ht => by
    have := hL.2.1 t ht
    omega
  have many : ts.length ≤ sizeLine := by
    have h1 := hL.1
    rw [if_neg (Nat.lt_irrefl 0)] at h1
    omega
  have hp3 := piled_le_listText ts
  have uu : A.in1.units < cLine := by have := sb.room.un; show A.units + 1 < cLine; omega
  intro k
  induction k with
  | zero =>
    intro i s H hk hi I eb hPi
    have hin : i = ts.length := by omega
    obtain ⟨_, its, m, rv, _, e⟩ := I.lstM (eb _ _ ha)
    obtain ⟨_, ups, c, rp, _, ep⟩ := I.lstM hPi
    have nits : its[i]? = none := by
      have := rv.length
      exact List.getElem?_eq_none (by omega)
    refine codeAny_builtin F.entry_list_repr_loop ?_
    show wpAny _ _ («list.__repr__.loop» ⟨[.ref a, .int i 0, .ref P, .int ((bs + piled (ts.take i) : Nat) : Int) 0], []⟩) _ _ s
    rw [repr_loop_tree]
    refine wpAny_bind (wpAny_listItems e rfl ?_)
    have hnone : its.toArray[((i : Int)).toNat]? = none := by simpa using nits
    simp only [hnone]
    unfold reprEnd
    refine wpAny_bind (wpAny_listItems ep rfl ?_)
    obtain ⟨done, rfl, ed⟩ := strs_of rp
    rw [show (strValues done).toArray.toList = strValues done from by simp, repr_fold]
    refine wpAny_bind (wpAny_pure ?_)
    have hall : done.map (·.1) = ts := by rw [ed, hin, List.take_length]
    rw [hall]
    refine wpAny_bind (wpAny_mkStr (wpAny_pure ?_) (by show (listText ts).length ≤ sizeLine; omega))
    exact fin _ H _ (I.tok _) eb
  | succ k ih =>
    intro i s H hk hi I eb hPi
    have hlt : i < xs.length := by omega
    obtain ⟨t, ht, hrep⟩ := hT i xs[i] (List.getElem?_eq_getElem hlt)
    obtain ⟨_, its, m, rv, lv, e⟩ := I.lstM (eb _ _ ha)
    have hlt2 : i < its.length := by omega
    have rvi : RelV xs[i] its[i] := by
      obtain ⟨u, e1, e2⟩ := rv.get (List.getElem?_eq_getElem hlt)
      rw [List.getElem?_eq_getElem hlt2] at e1
      cases e1
      exact e2
    have hp1 := piled_take_succ ht
    have hp2 := piled_take_le ts (i + 1)
    refine codeAny_builtin F.entry_list_repr_loop ?_
    show wpAny _ _ («list.__repr__.loop» ⟨[.ref a, .int i 0, .ref P, .int ((bs + piled (ts.take i) : Nat) : Int) 0], []⟩) _ _ s
    rw [repr_loop_tree]
    refine wpAny_bind (wpAny_listItems e rfl ?_)
    have hsome : its.toArray[((i : Int)).toNat]? = some its[i] := by simp [hlt2]
    simp only [hsome]
    rw [Int.toNat_natCast]
    refine wpAny_bind (wpAny_holding (wpAny_mono (hrep _ _ pins s σ H its[i] (bs + piled (ts.take i) + 1) ((xe.ext eb).more) (sub_loop sb) (guards_under_guard (isGuard_list_loop _) hg) gd.cons I rvi (by omega)) (fun r s2 h2 => ?_) fun e' s' h' => hE e' s' h'))
    obtain ⟨rfl, H2, I2, e2⟩ := h2
    refine wpAny_bind (wpAny_mkStr ?_ (each r (List.mem_of_getElem? ht)))
    have hP2 := e2 _ _ hPi
    obtain ⟨_, ups, c, rp, _, ep⟩ := I2.lstM hP2
    refine wpAny_bind ?_
    show wpAny _ _ (updateSeq P _) _ _ _
    have lp := rp.length
    rw [List.length_map, List.length_take] at lp
    refine wpAny_updateSeq ep rfl (wpAny_pure ⟨F.quiet_list_repr_loop _, ?_⟩) (by rw [List.size_toArray]; omega) (by rw [Array.size_push, List.size_toArray]; omega)
    have e1' : ((i : Int) + 1) = ((i + 1 : Nat) : Int) := by omega
    have e2' : bs + piled (ts.take i) + (r.length + 2) = bs + piled (ts.take (i + 1)) := by omega
    rw [e1', e2']
    have I3 := I2.lset (its' := ups ++ [.str r s2.toks]) (f := fun x => x.push (.str r s2.toks)) (t' := s2.toks + 1) hP2 ep (by simp) (ys := (ts.take (i + 1)).map V.str) (by
      rw [List.take_add_one, ht, List.map_append]
      exact rp.append (.cons ⟨_, rfl⟩ .nil)) (by rw [List.length_map, List.length_take]; omega)
    exact ih (i + 1) _ _ (by omega) hlt I3 (fun b o hb => by
      rw [upd_ne (fun z => by rw [z, hP] at hb; cases hb)]
      exact e2 _ _ (eb _ _ hb)) upd_same
end
end RPO
set_option Elab.async false
set_option linter.all false
set_option maxRecDepth 100000
set_option maxHeartbeats 4000000
namespace RPO
open PySem PySem.Spec PyProof.Rows L2
open Builtin Builtin.List
/-- things one by one -/
inductive RpAll (X : Cx) (n : Nat) (outs : List Addr) (H0 : Hp) : List V → List Str → Prop
  | nil : RpAll X n outs H0 [] []
  | cons {v : V} {t : Str} {vs : List V} {ts : List Str} : RpU X n outs H0 v t → RpAll X n outs H0 vs ts → RpAll X n outs H0 (v :: vs) (t :: ts)
theorem RpAll.len {X : Cx} {n : Nat} {outs : List Addr} {H0 : Hp} : ∀ {vs : List V} {ts : List Str}, RpAll X n outs H0 vs ts → ts.length = vs.length
  | _, _, .nil => rfl
  | _, _, .cons _ h => by rw [List.length_cons, List.length_cons, h.len]
theorem RpAll.get {X : Cx} {n : Nat} {outs : List Addr} {H0 : Hp} : ∀ {vs : List V} {ts : List Str}, RpAll X n outs H0 vs ts → ∀ (i : Nat) (x : V), vs[i]? = some x → ∃ t, ts[i]? = some t ∧ RpU X n outs H0 x t
  | _, _, .nil, _, _, h => by simp at h
  | _, _, .cons r h, 0, _, e => by
    simp at e
    subst e
    exact ⟨_, rfl, r⟩
  | _, _, .cons r h, i + 1, x, e => by
    obtain ⟨t, e1, e2⟩ := h.get i x (by simpa using e)
    exact ⟨t, by simpa using e1, e2⟩
section
variable {X : Cx} {n : Nat} {outs : List Addr} {H0 : Hp} {a : Addr} {xs : List V} {ts : List Str}
/-- what is asked of the end of a text -/
def Told (X : Cx) (pins : List (Addr × Obj)) (σ : L2.St) (H : Hp) (t : Str) (v : Value) (s' : Shared) : Prop := ∃ tk, v = .str t tk ∧ ∃ H', Inv X pins σ H' s' ∧ Ext H H'
theorem list_at {A : Around} {g : List Code} {bs : Nat} {pins : List (Addr × Obj)} {σ : L2.St} {s : Shared} {H : Hp} {Q : Value → Shared → Prop} (sb : Sub X (n + 1) A) (hg : A.guards = some g) (gd : Gd g outs) (I : Inv X pins σ H s) (ha : H a = some (.lst xs)) (na : a ∉ outs) (xe : Ex outs H0 H) (hx : xs ≠ [])
    (hT : RpAll X n (a :: outs) H0 xs ts) (hsz : bs + (listText ts).length ≤ sizeLine) (fin : ∀ v s', Told X pins σ H (listText ts) v s' → Q v s') :
    wpAny (model X.prog X.w) A.in1 (Builtin.listReprAt bs ⟨[.ref a], []⟩) (fun fin s' => match fin with | .done f => callEnd Q X.xe (.ok f) s' | .again c' => c'.quiet = true ∧ codeAny (model X.prog X.w) A c' (callEnd Q X.xe) s') (fun e s' => callEnd Q X.xe (.error e) s') s := by
  obtain ⟨_, its, m, rv, lv, e⟩ := I.lstM ha
  obtain ⟨y, l, rfl⟩ : ∃ y l, its = y :: l := by
    cases its with
    | nil =>
      have : xs.length = 0 := lv
      exact absurd (List.length_eq_zero_iff.mp this) hx
    | cons y l => exact ⟨y, l, rfl⟩
  refine wpAny_list_repr_head (A := A.in1) hg (fun v rest kw hm => listSameRef_of_ne ((gd.clear na) _ _ _ _ hm)) e rfl ?_
  refine wpAny_bind (m := newList []) (wpAny_newObj_type ?_)
  refine wpAny_pure ⟨F.quiet_list_repr_loop _, ?_⟩
  have I1 := I.lnew (its := []) (ys := []) (t' := s.toks) .nil (Nat.zero_le _)
  have hn := I.fresh
  exact list_loop (n := n) (Hb := H) (R := callEnd Q X.xe) sb hg gd ha hn xe hT.len hT.get hsz (fun _ _ h => h) (fun s' H' u I' e' => fin _ _ ⟨u, rfl, H', I', e'⟩) _ 0 _ _ rfl (Nat.zero_le _) I1 (Ext.upd hn) upd_same
theorem RpU.list (ha : H0 a = some (.lst xs)) (na : a ∉ outs) (hx : xs ≠ []) (hT : RpAll X n (a :: outs) H0 xs ts) : RpU X (n + 1) outs H0 (.ref a) (listText ts) := fun A g pins s σ H u bs x sb hg gd I r hb => by
  cases (show u = Value.ref a from r)
  have ea := x a _ ha na
  obtain ⟨_, its, m, rv, lv, e⟩ := I.lstM ea
  refine wpAny_pyReprUnder_ref (by omega) (wpAny_pyReprObjUnder_twin (twin := "list.__repr__.under") ⟨_, e, rfl⟩ F.slot_list_repr.toG rfl sb.room.units0
    (call_twin_plain F.plain_list_repr_under F.entry_list_repr_under F.check_list_repr_under ⟨_, e, rfl⟩ F.slot_list_repr.toG (F.args_list_repr_1 _) (list_at sb hg gd I ea na x hx hT hb fun v s' h => ?_)))
  obtain ⟨tk, rfl, h⟩ := h
  exact ⟨⟨_, _, rfl⟩, _, _, rfl, rfl, h⟩
theorem RpU.list0 (ha : H0 a = some (.lst [])) (na : a ∉ outs) : RpU X n outs H0 (.ref a) "[]" := fun A g pins s σ H u bs x sb hg gd I r hb => by
  cases (show u = Value.ref a from r)
  have ea := x a _ ha na
  obtain ⟨_, its, m, rv, lv, e⟩ := I.lstM ea
  obtain rfl : its = [] := List.length_eq_zero_iff.mp lv.symm
  exact wpAny_pyReprUnder_ref (by omega) (wpAny_pyReprObjUnder_list_empty ⟨_, e, rfl⟩ sb.room.units0 e rfl ⟨_, _, rfl, rfl, H, I.tok _, Ext.rfl'⟩)
theorem tup_fold {A : Around} {g : List Code} {pins : List (Addr × Obj)} {σ : L2.St} {Hb : Hp} {Q : (Array Str × Nat) → Shared → Prop} (sb : Sub X n A) (hg : A.guards = some g) (gd : Gd g (a :: outs)) (xe : Ex outs H0 Hb) :
    ∀ {vs : List V} {ts : List Str}, RpAll X n (a :: outs) H0 vs ts → ∀ (us : List Value) (acc : Array Str) (m : Nat) (s : Shared) (H : Hp), Vals vs us → m + piled ts ≤ sizeLine → Inv X pins σ H s → Ext Hb H →
      (∀ s' H', Inv X pins σ H' s' → Ext Hb H' → Q ⟨acc ++ ts.toArray, m + piled ts⟩ s') → wpAny (model X.prog X.w) A (forIn us (⟨acc, m⟩ : (Array Str × Nat)) tupBody) Q X.xe s := by
  intro vs ts h
  induction h with
  | nil =>
    intro us acc m s H rv hm I eb fin
    cases rv
    have h0 := fin s H I eb
    simp only [List.forIn_nil]
    exact wpAny_pure (by simpa [piled] using h0)
  | @cons v t vs ts hr hl ih =>
    intro us acc m s H rv hm I eb fin
    cases rv with
    | @cons _ u _ us r rv =>
      rw [piled_cons] at hm
      rw [List.forIn_cons]
      refine wpAny_bind (wpAny_bind (wpAny_mono (hr A g pins s σ H u (m + 1) (xe.ext eb).more sb hg gd I r (by omega)) (fun r' s2 h2 => ?_) fun _ _ x => x))
      obtain ⟨rfl, H2, I2, e2⟩ := h2
      refine wpAny_pure ?_
      refine ih us (acc.push r') (m + (r'.length + 2)) s2 H2 rv (by omega) I2 (eb.trans e2) fun s' H' I' e' => ?_
      have h1 := fin s' H' I' e'
      have e : m + piled (r' :: ts) = m + (r'.length + 2) + piled ts := by rw [piled_cons]; omega
      rw [e] at h1
      simpa using h1
theorem tup_at {A : Around} {g : List Code} {bs : Nat} {pins : List (Addr × Obj)} {σ : L2.St} {s : Shared} {H : Hp} {Q : Value → Shared → Prop} {id : String} {rest : List Value} (hcg : (Code.builtin id ⟨.ref a :: rest, []⟩).isGuard = true) (sb : Sub X n (A.under (.builtin id ⟨.ref a :: rest, []⟩)))
    (hg : A.guards = some g) (gd : Gd g outs) (I : Inv X pins σ H s) (ha : H a = some (.tup xs)) (na : a ∉ outs) (xe : Ex outs H0 H) (hT : RpAll X n (a :: outs) H0 xs ts) (hsz : bs + (tupleText ts).length ≤ sizeLine) (fin : ∀ v s', Told X pins σ H (tupleText ts) v s' → Q v s') :
    wpOwn (model X.prog X.w) A (.builtin id ⟨.ref a :: rest, []⟩) (Builtin.tupleReprAt bs ⟨[.ref a], []⟩) (fun fin s' => match fin with | .done f => callEnd Q X.xe (.ok f) s' | .again c' => c'.quiet = true ∧ codeAny (model X.prog X.w) A c' (callEnd Q X.xe) s') (fun e s' => callEnd Q X.xe (.error e) s') s := by
  obtain ⟨its, rv, ⟨o, ho, hc, m, hd⟩, hz⟩ := I.tuple (SqT.of (K := X.K) ha)
  have hca : Clear g a := gd.clear na
  have hlen : ts.length = its.length := hT.len.trans rv.length
  have hp := piled_le_tupleText ts
  have hsz0 : (tupleText ts).length ≤ sizeLine := by omega
  rw [tuple_repr_tree, tupleReprUnderWay_eq]
  refine wpOwn_bind (wpOwn_stackTailAny hg (tupGuardF_off _) (tupGuardF_pos _) ?_)
  have hn : (g.any fun c => tupGuardF (.ref a) (c, default)) = false := by
    rw [List.any_eq_false]
    intro c hcm
    rw [tupGuardF_of_clear hca c hcm]
    exact Bool.false_ne_true
  rw [hn]
  refine wpOwn_of_wpAny ?_
  show wpAny _ _ (tupleReprRest bs (.ref a)) _ _ s
  unfold tupleReprRest Builtin.Tuple.tupleItemsOf
  refine wpAny_bind (wpAny_bind (wpAny_seqItems ho hd (wpAny_pure ?_)))
  rw [← Array.forIn_toList]
  refine wpAny_bind (tup_fold (Hb := H) sb (guards_under_guard hcg hg) gd.cons xe hT _ _ _ s H (by simpa using rv) (by omega) I Ext.rfl' fun s' H' I' e' => ?_)
  refine wpAny_bind (wpAny_mkStr (wpAny_pure ?_) (by simpa [tupleText, hlen] using hsz0))
  have h1 := fin (.str (tupleText ts) s'.toks) { s' with toks := s'.toks + 1 } ⟨_, rfl, H', I'.tok _, e'⟩
  simpa [tupleText, hlen] using h1
theorem sub_code {A : Around} {id : String} {args : Args} (h : Sub X (n + 1) A) (hw : (Code.builtin id args).weight ≤ 1) (he : (Code.builtin id args).envs = []) (hu : (A.under (.builtin id args)).units = A.units + 1) : Sub X n (A.under (.builtin id args)) := by
  have e2 : (A.under (.builtin id args)).frames = pushEnvs (Code.envs (.builtin id args)) A.frames := by first | rfl | simp [Around.under]
  have hf : (A.under (.builtin id args)).frames = A.frames := by
    rw [e2, he]
    cases A.frames <;> first | rfl | simp [pushEnvs]
  have hd : (A.under (.builtin id args)).depth = A.depth + (Code.builtin id args).weight := by first | rfl | simp [Around.under]
  obtain ⟨⟨h1, h2, h3⟩, h4⟩ := h
  exact ⟨⟨h1, by omega, by rw [hu]; omega⟩, hf.trans h4⟩
theorem w_tup {args : Args} : (Code.builtin "tuple.__repr__" args).weight ≤ 1 := by
  first | exact Nat.le_refl _ | simp [Code.weight, Code.isCreation, Code.isGuard, Code.isCaller, Code.frames, Code.isFrame, guardIds]
theorem w_tupU {args : Args} : (Code.builtin "tuple.__repr__.under" args).weight ≤ 1 := by
  first | exact Nat.le_refl _ | simp [Code.weight, Code.isCreation, Code.isGuard, Code.isCaller, Code.frames, Code.isFrame, guardIds]
theorem e_b {id : String} {args : Args} (h : (Code.builtin id args).isFrame = false := by rfl) : (Code.builtin id args).envs = [] := by simp [Code.envs, h]
theorem RpU.tup (ha : H0 a = some (.tup xs)) (na : a ∉ outs) (hT : RpAll X n (a :: outs) H0 xs ts) : RpU X (n + 1) outs H0 (.ref a) (tupleText ts) := fun A g pins s σ H u bs x sb hg gd I r hb => by
  cases (show u = Value.ref a from r)
  have ea := x a _ ha na
  obtain ⟨its, rv, ⟨o, ho, hc, m, hd⟩, hz⟩ := I.tuple (SqT.of (K := X.K) ea)
  refine wpAny_pyReprUnder_ref (by omega) (wpAny_pyReprObjUnder_twin (twin := "tuple.__repr__.under") ⟨o, ho, hc⟩ F.slot_tuple_repr rfl sb.room.units0
    (call_twin_own (F.quiet_tuple_repr_under _) F.entry_tuple_repr_under F.check_tuple_repr_under ⟨o, ho, hc⟩ F.slot_tuple_repr (F.args_tuple_repr_1 _)
      (tup_at (isGuard_tuple_repr_under _) (sub_code sb w_tupU e_b (units_under_tuple_repr_under _ _)) hg gd I ea na x hT hb fun v s' h => ?_)))
  obtain ⟨tk, rfl, h⟩ := h
  exact ⟨⟨_, _, rfl⟩, _, _, rfl, rfl, h⟩
/-- repr of a tuple, where no repr is under way -/
def rReprT (X : Cx) (n : Nat) : List V → Hp → VK → Prop := fun ys H Q => ∃ (a : Addr) (xs : List V) (ts : List Str), ys = [.ref a] ∧ H a = some (.tup xs) ∧ RpAll X n [a] H xs ts ∧ (tupleText ts).length ≤ sizeLine ∧ ∀ H', Ext H H' → Q (.str (tupleText ts)) H'
theorem call_reprT (hgd : X.A.guards = some []) (hr : Room (n + 2) X.A) : CallR X (.builtin "repr") (rReprT X n) := by
  intro pins s σ H ys us Q I r h
  obtain ⟨a, xs, ts, rfl, ea, hT, hb, q⟩ := h
  obtain ⟨u, rfl, ru⟩ := r.one
  cases (show u = Value.ref a from ru)
  obtain ⟨its, rv, ⟨o, ho, hc, m, hd⟩, hz⟩ := I.tuple (SqT.of (K := X.K) ea)
  have sb : Sub X (n + 1) X.A.in1 := ⟨hr.in1, rfl⟩
  refine call_repr_slot (by have := hr.un; omega) ⟨o, ho, hc⟩ F.slot_tuple_repr ?_
  refine wpAny_call (codeAny_call_builtin_own (Code.quiet_builtin _ (by decide +kernel)) F.entry_tuple_repr (F.slot_tuple_repr.check _ _ _ _ _ _ _ _ ⟨o, ho, hc⟩ (F.args_tuple_repr_1 _)
    (tup_at (outs := []) (H0 := H) (bs := 0) (isGuard_tuple_repr _) (sub_code sb w_tup e_b (units_under_tuple_repr _ _)) hgd Gd.nil I ea (by simp) (Ex.refl _ _) hT (by omega) fun v s' h => ?_)))
  obtain ⟨tk, rfl, H', I', e⟩ := h
  exact ⟨_, _, rfl, .str _, H', I', ⟨_, rfl⟩, q H' e⟩
end
end RPO
set_option Elab.async false
set_option linter.all false
set_option maxRecDepth 100000
set_option maxHeartbeats 4000000
namespace RPO
open PySem PySem.Spec PyProof.Rows L2
open Builtin Builtin.List
/-- what the entries of a dict show as -/
inductive RpEnt (X : Cx) (n : Nat) (outs : List Addr) (H0 : Hp) : List (Key × V) → List Str → Prop
  | nil : RpEnt X n outs H0 [] []
  | cons {k : Key} {v : V} {tk tv : Str} {kvs : List (Key × V)} {ps : List Str} : RpU X n outs H0 (kV k) tk → RpU X n outs H0 v tv → RpEnt X n outs H0 kvs ps → RpEnt X n outs H0 ((k, v) :: kvs) ((tk ++ ": " ++ tv) :: ps)
section
variable {X : Cx} {n : Nat} {outs : List Addr} {H0 : Hp} {a : Addr} {kvs : List (Key × V)} {ps : List Str}
theorem RpEnt.len : ∀ {kvs : List (Key × V)} {ps : List Str}, RpEnt X n outs H0 kvs ps → ps.length = kvs.length
  | _, _, .nil => rfl
  | _, _, .cons _ _ h => by rw [List.length_cons, List.length_cons, h.len]
theorem RpEnt.get : ∀ {kvs : List (Key × V)} {ps : List Str}, RpEnt X n outs H0 kvs ps → ∀ (i : Nat) (e : Key × V), kvs[i]? = some e → ∃ tk tv : Str, ps[i]? = some (tk ++ ": " ++ tv) ∧ RpU X n outs H0 (kV e.1) tk ∧ RpU X n outs H0 e.2 tv
  | _, _, .nil, _, _, h => by simp at h
  | _, _, .cons r1 r2 h, 0, _, e => by
    simp at e
    subst e
    exact ⟨_, _, rfl, r1, r2⟩
  | _, _, .cons _ _ h, i + 1, x, e => by
    obtain ⟨t1, t2, e1, e2⟩ := h.get i x (by simpa using e)
    exact ⟨t1, t2, by simpa using e1, e2⟩
theorem pairs_at {P : Program} {w : World} : ∀ {es : List DictEntry} {vs : List (Key × Value)}, Pairs (mixKind P w) es vs → ∀ (i : Nat) (kv : Key × Value), vs[i]? = some kv → ∃ e, es[i]? = some e ∧ (mixKind P w).is kv.1 e.key = true ∧ e.val = kv.2
  | _, _, .nil, _, _, h => by simp at h
  | _, _, .cons h1 h2 h, 0, _, e => by
    simp at e
    subst e
    exact ⟨_, rfl, h1, h2⟩
  | _, _, .cons _ _ h, i + 1, kv, e => by
    obtain ⟨en, e1, e2⟩ := pairs_at h i kv (by simpa using e)
    exact ⟨en, by simpa using e1, e2⟩
theorem key_rel {k : Key} {v : Value} (h : keyIs k v = true) : RelV (kV k) v := by
  rcases keyIs_shape h with ⟨i, t, rfl, rfl⟩ | ⟨x, t, rfl, rfl⟩
  · exact ⟨_, rfl⟩
  · exact ⟨_, rfl⟩
theorem kv_at : ∀ {ks : List (Key × V)} {va : List (Key × Value)}, KV ks va → ∀ (i : Nat) (e : Key × V), ks[i]? = some e → ∃ u : Key × Value, va[i]? = some u ∧ e.1 = u.1 ∧ RelV e.2 u.2
  | _, _, .nil, _, _, h => by simp at h
  | _, _, .cons r h, 0, _, e => by
    simp at e
    subst e
    exact ⟨_, rfl, r.1, r.2⟩
  | _, _, .cons _ h, i + 1, x, e => by
    obtain ⟨u, e1, e2⟩ := kv_at h i x (by simpa using e)
    exact ⟨u, by simpa using e1, e2⟩
/-- the entries of a locked dict -/
theorem entry_of {pins : List (Addr × Obj)} {σ : L2.St} {s : Shared} {H : Hp} {o : Obj} (I : Inv X pins σ H s) (h : H a = some (.frz o (.dK kvs))) {es : Array DictEntry} {ep : Nat} (hd : o.data = .dict es ep) (i : Nat) (hi : i < kvs.length) :
    ∃ e, es[i]? = some e ∧ RelV (kV kvs[i].1) e.key ∧ RelV kvs[i].2 e.val := by
  obtain ⟨_, hg, _, es', ep', vs, hd', hs, kv, o2, es2, g2, x2, d2, k2, p2, _⟩ := I.frzK h
  rw [hg] at g2
  cases g2
  rw [hd] at d2
  cases d2
  obtain ⟨u, e1, e2, e3⟩ := kv_at kv i kvs[i] (List.getElem?_eq_getElem hi)
  obtain ⟨e, f1, f2, f3⟩ := pairs_at p2 i u e1
  refine ⟨e, by simpa using f1, ?_, by rw [f3]; exact e3⟩
  rw [e2]
  exact key_rel f2
theorem dct_at {A : Around} {g : List Code} {bs : Nat} {pins : List (Addr × Obj)} {σ : L2.St} {s : Shared} {H : Hp} {Q : Value → Shared → Prop} {id : String} {rest : List Value} (hcg : (Code.builtin id ⟨.ref a :: rest, []⟩).isGuard = true) (sb : Sub X n (A.under (.builtin id ⟨.ref a :: rest, []⟩)))
    (hg : A.guards = some g) (gd : Gd g outs) (I : Inv X pins σ H s) (ha : H a = some (.dK kvs)) (na : a ∉ outs) (xe : Ex outs H0 H) (hT : RpEnt X n (a :: outs) H0 kvs ps) (hsz : bs + (dictText ps).length ≤ sizeLine) (fin : ∀ v s', Told X pins σ H (dictText ps) v s' → Q v s') :
    wpOwn (model X.prog X.w) A (.builtin id ⟨.ref a :: rest, []⟩) (Builtin.dictReprAt bs ⟨[.ref a], []⟩) (fun fin s' => match fin with | .done f => callEnd Q X.xe (.ok f) s' | .again c' => c'.quiet = true ∧ codeAny (model X.prog X.w) A c' (callEnd Q X.xe) s') (fun e s' => callEnd Q X.xe (.error e) s') s := by
  have mu : Mut (some (HO.dK kvs)) := trivial
  have nf := I.nofrz ha mu
  obtain ⟨o, I1⟩ := I.lock ha mu
  have e1 : (upd H a (.frz o (.dK kvs))) a = some (.frz o (.dK kvs)) := upd_same
  have x1 : Ex (a :: outs) H0 (upd H a (.frz o (.dK kvs))) := fun b u e nb => by
    rw [upd_ne fun z => nb (by rw [z]; exact List.mem_cons_self)]
    exact xe b u e fun z => nb (List.mem_cons_of_mem _ z)
  have back : ∀ {H' : Hp} {s' : Shared}, Inv X pins σ H' s' → Ext (upd H a (.frz o (.dK kvs))) H' → ∃ H2, Inv X pins σ H2 s' ∧ Ext H H2 := fun {H' s'} I' e' => by
    refine ⟨_, I'.unlock (e' _ _ e1) nf, fun b u e => ?_⟩
    by_cases hb : b = a
    · subst hb
      rw [upd_same, ← e, ha]
    · rw [upd_ne hb]
      refine e' _ _ ?_
      rw [upd_ne hb]
      exact e
  generalize upd H a (.frz o (.dK kvs)) = H1 at I1 e1 x1 back
  obtain ⟨hsys, hget, hex, es, ep, vs, hd, hsize, _, _⟩ := I1.frzK e1
  have got : ∀ {H' : Hp} {s' : Shared}, Inv X pins σ H' s' → Ext H1 H' → s'.heap.get? a = some o := fun I' e' => (I'.frzK (e' _ _ e1)).2.1
  have hTy : s.TypeIs (.ref a) "dict" := ⟨o, hget, hex.1⟩
  have hca : Clear g a := gd.clear na
  have hlen : ps.length = es.size := hT.len.trans hsize.symm
  have hp3 := piled_le_dictText ps
  have hsz0 : (dictText ps).length ≤ sizeLine := by omega
  unfold Builtin.dictReprAt
  refine wpOwn_bind (wpOwn_of_wpAny ?_)
  unfold Builtin.Dict.dictSlotNone
  refine wpAny_bind (wpAny_notOrdered_dict hTy ?_)
  show wpAny _ _ (pure (Value.ref a)) _ _ s
  refine wpAny_pure ?_
  rw [dictReprRunning_eq]
  refine wpOwn_bind (wpOwn_stackTailAny hg (dictGuardF_off _) (dictGuardF_pos _) ?_)
  have hn : (g.any fun c => dictGuardF (.ref a) (c, default)) = false := by
    rw [List.any_eq_false]
    intro c hcm
    rw [dictGuardF_of_clear hca c hcm]
    exact Bool.false_ne_true
  rw [hn]
  refine wpOwn_of_wpAny ?_
  have hg' := guards_under_guard hcg hg
  show wpAny _ _ (Builtin.Dict.addrOf (.ref a) >>= _) _ _ s
  refine wpAny_bind (wpAny_pure ?_)
  show wpAny _ _ (Builtin.Dict.showsAll a >>= _) _ _ s
  unfold Builtin.Dict.showsAll
  rw [if_neg (by rw [hsys]; exact Bool.false_ne_true)]
  refine wpAny_bind (wpAny_pure ?_)
  refine wpAny_bind (wpAny_dictEpoch hget hd ?_)
  refine wpAny_bind (wpAny_dictEntries hget hd ?_)
  refine wpAny_bind ?_
  rw [Std.Legacy.Range.forIn_eq_forIn_range']
  simp only [Std.Legacy.Range.size, Nat.sub_zero, Nat.add_sub_cancel, Nat.div_one]
  refine wpAny_forIn_list _
    (fun rest' r s' => ∃ i H', rest' = List.range' i (es.size - i) ∧ i ≤ es.size ∧ r = (⟨(ps.take i).toArray, bs + piled (ps.take i)⟩ : (Array Str × Nat)) ∧ Inv X pins σ H' s' ∧ Ext H1 H')
    _ ?_ ?_ _ _ ⟨0, H1, by simp, Nat.zero_le _, by simp [piled], I1, Ext.rfl'⟩
  · rintro x rest' _ s' ⟨i, H', hr, hi, rfl, I', e'⟩
    have hlt : i < es.size := by
      rcases Nat.lt_or_ge i es.size with h | h
      · exact h
      · rw [Nat.sub_eq_zero_of_le h] at hr; simp at hr
    obtain ⟨rfl, hrest⟩ : x = i ∧ rest' = List.range' (i + 1) (es.size - (i + 1)) := by
      have e : es.size - i = (es.size - (i + 1)) + 1 := by omega
      rw [e, List.range'_succ] at hr
      injection hr with h1 h2
      exact ⟨h1, h2⟩
    have hx2 : x < kvs.length := by omega
    obtain ⟨tk, tv, hp, rk, rv⟩ := hT.get x kvs[x] (List.getElem?_eq_getElem hx2)
    obtain ⟨en, f1, f2, f3⟩ := entry_of I' (e' _ _ e1) hd x hx2
    have hpl : (tk ++ ": " ++ tv).length = tk.length + 2 + tv.length := by
      rw [strLen_append, strLen_append]; rfl
    have hp1 := piled_take_succ hp
    have hp2 := piled_take_le ps (x + 1)
    rw [hpl] at hp1
    refine wpAny_bind (wpAny_dictEntries (got I' e') hd ?_)
    rw [f1]
    refine wpAny_bind (wpAny_holding (wpAny_bind (wpAny_mono (rk _ _ pins s' σ H' en.key (bs + piled (ps.take x) + 1) (x1.ext e') sb hg' gd.cons I' f2 (by omega)) (fun r2 s2 h2 => ?_) fun _ _ z => z)))
    obtain ⟨rfl, H2, I2, e2⟩ := h2
    refine wpAny_bind (wpAny_mono (rv _ _ pins s2 σ H2 en.val (bs + piled (ps.take x) + (r2.length + 3)) (x1.ext (e'.trans e2)) sb hg' gd.cons I2 f3 (by omega)) (fun r3 s3 h3 => ?_) fun _ _ z => z)
    obtain ⟨rfl, H3, I3, e3⟩ := h3
    have e13 := (e'.trans e2).trans e3
    refine wpAny_pure ?_
    refine wpAny_bind (wpAny_dictEpoch (got I3 e13) hd ?_)
    rw [if_neg (by simp)]
    have g1 : (ps.take x).toArray.push (r2 ++ ": " ++ r3) = (ps.take (x + 1)).toArray := by
      rw [List.take_add_one, hp]
      simp
    have g2 : bs + piled (ps.take x) + (r2.length + r3.length + 4) = bs + piled (ps.take (x + 1)) := by omega
    refine wpAny_pure ⟨x + 1, H3, hrest, hlt, ?_, I3, e13⟩
    rw [g1, g2]
  · rintro _ s' ⟨i, H', hr, hi, rfl, I', e'⟩
    have hin : i = es.size := by
      rcases Nat.lt_or_ge i es.size with h | h
      · have e : es.size - i = (es.size - (i + 1)) + 1 := by omega
        rw [e, List.range'_succ] at hr; exact nomatch hr
      · exact Nat.le_antisymm hi h
    rw [hin, ← hlen, List.take_length]
    refine wpAny_bind (wpAny_mkStr (wpAny_pure ?_) (by simpa [dictText] using hsz0))
    have h1 := fin (.str (dictText ps) s'.toks) { s' with toks := s'.toks + 1 } ⟨_, rfl, back (I'.tok _) e'⟩
    simpa [dictText] using h1
theorem w_dct {args : Args} : (Code.builtin "dict.__repr__" args).weight ≤ 1 := by
  first | exact Nat.le_refl _ | simp [Code.weight, Code.isCreation, Code.isGuard, Code.isCaller, Code.frames, Code.isFrame, guardIds]
theorem w_dctU {args : Args} : (Code.builtin "dict.__repr__.under" args).weight ≤ 1 := by
  first | exact Nat.le_refl _ | simp [Code.weight, Code.isCreation, Code.isGuard, Code.isCaller, Code.frames, Code.isFrame, guardIds]
theorem RpU.dct (ha : H0 a = some (.dK kvs)) (na : a ∉ outs) (hT : RpEnt X n (a :: outs) H0 kvs ps) : RpU X (n + 1) outs H0 (.ref a) (dictText ps) := fun A g pins s σ H u bs x sb hg gd I r hb => by
  cases (show u = Value.ref a from r)
  have ea := x a _ ha na
  have mu : Mut (some (HO.dK kvs)) := trivial
  obtain ⟨o, I1⟩ := I.lock ea mu
  obtain ⟨_, hget, hex, _⟩ := I1.frzK (upd_same : (upd H a (.frz o (.dK kvs))) a = _)
  refine wpAny_pyReprUnder_ref (by omega) (wpAny_pyReprObjUnder_twin (twin := "dict.__repr__.under") ⟨o, hget, hex.1⟩ F.slot_dict_repr rfl sb.room.units0
    (call_twin_own (F.quiet_dict_repr_under _) F.entry_dict_repr_under F.check_dict_repr_under ⟨o, hget, hex.1⟩ F.slot_dict_repr (F.args_dict_repr_1 _)
      (dct_at (isGuard_dict_repr_under _) (sub_code sb w_dctU e_b (units_under_dict_repr_under _ _)) hg gd I ea na x hT hb fun v s' h => ?_)))
  obtain ⟨tk, rfl, h⟩ := h
  exact ⟨⟨_, _, rfl⟩, _, _, rfl, rfl, h⟩
/-- repr of a list, of a dict, where no repr is under way -/
def rReprL (X : Cx) (n : Nat) : List V → Hp → VK → Prop := fun ys H Q => ∃ (a : Addr) (xs : List V) (ts : List Str), ys = [.ref a] ∧ H a = some (.lst xs) ∧ xs ≠ [] ∧ RpAll X n [a] H xs ts ∧ (listText ts).length ≤ sizeLine ∧ ∀ H', Ext H H' → Q (.str (listText ts)) H'
theorem call_reprL (hgd : X.A.guards = some []) (hr : Room (n + 2) X.A) : CallR X (.builtin "repr") (rReprL X n) := by
  intro pins s σ H ys us Q I r h
  obtain ⟨a, xs, ts, rfl, ea, hx, hT, hb, q⟩ := h
  obtain ⟨u, rfl, ru⟩ := r.one
  cases (show u = Value.ref a from ru)
  obtain ⟨_, its, m, rv, lv, e⟩ := I.lstM ea
  have sb : Sub X (n + 1) X.A.in1 := ⟨hr.in1, rfl⟩
  refine call_repr_slot (by have := hr.un; omega) ⟨_, e, rfl⟩ F.slot_list_repr.toG ?_
  refine wpAny_call (codeAny_call_builtin F.slot_list_repr.plain F.entry_list_repr (F.slot_list_repr.check _ _ _ _ _ _ _ _ ⟨_, e, rfl⟩ (F.args_list_repr_1 _)
    (list_at (outs := []) (H0 := H) (bs := 0) sb hgd Gd.nil I ea (by simp) (Ex.refl _ _) hx hT (by omega) fun v s' h => ?_)))
  obtain ⟨tk, rfl, H', I', e⟩ := h
  exact ⟨_, _, rfl, .str _, H', I', ⟨_, rfl⟩, q H' e⟩
def rReprDc (X : Cx) (n : Nat) : List V → Hp → VK → Prop := fun ys H Q => ∃ (a : Addr) (kvs : List (Key × V)) (ps : List Str), ys = [.ref a] ∧ H a = some (.dK kvs) ∧ RpEnt X n [a] H kvs ps ∧ (dictText ps).length ≤ sizeLine ∧ ∀ H', Ext H H' → Q (.str (dictText ps)) H'
theorem call_reprDc (hgd : X.A.guards = some []) (hr : Room (n + 2) X.A) : CallR X (.builtin "repr") (rReprDc X n) := by
  intro pins s σ H ys us Q I r h
  obtain ⟨a, kvs, ps, rfl, ea, hT, hb, q⟩ := h
  obtain ⟨u, rfl, ru⟩ := r.one
  cases (show u = Value.ref a from ru)
  have mu : Mut (some (HO.dK kvs)) := trivial
  obtain ⟨o, I1⟩ := I.lock ea mu
  obtain ⟨_, hget, hex, _⟩ := I1.frzK (upd_same : (upd H a (.frz o (.dK kvs))) a = _)
  have sb : Sub X (n + 1) X.A.in1 := ⟨hr.in1, rfl⟩
  refine call_repr_slot (by have := hr.un; omega) ⟨o, hget, hex.1⟩ F.slot_dict_repr ?_
  refine wpAny_call (codeAny_call_builtin_own (Code.quiet_builtin _ (by decide +kernel)) F.entry_dict_repr (F.slot_dict_repr.check _ _ _ _ _ _ _ _ ⟨o, hget, hex.1⟩ (F.args_dict_repr_1 _)
    (dct_at (outs := []) (H0 := H) (bs := 0) (isGuard_dict_repr _) (sub_code sb w_dct e_b (units_under_dict_repr _ _)) hgd Gd.nil I ea (by simp) (Ex.refl _ _) hT (by omega) fun v s' h => ?_)))
  obtain ⟨tk, rfl, H', I', e⟩ := h
  exact ⟨_, _, rfl, .str _, H', I', ⟨_, rfl⟩, q H' e⟩
end
end RPO
set_option Elab.async false
set_option linter.all false
set_option maxRecDepth 100000
set_option maxHeartbeats 4000000
namespace K03
open PySem PySem.Spec PyProof.Rows L2
open C8 (Cal Mak Met pe_c pe_mk pe_mt pe_mt0)
open KM (pr Sz)
theorem take_one {α : Type} {l : List α} {i : Nat} {x : α} (h : l[i]? = some x) : l.take (i + 1) = l.take i ++ [x] := by rw [List.take_succ, h]; rfl
theorem line_of {n : Nat} (h : n ≤ 100000) : n ≤ sizeLine := by have := sizeLine_eq; omega
theorem line_lt {n : Nat} (h : n ≤ 100000) : n < sizeLine := by have := sizeLine_eq; omega
/-! ### dicts by names -/
def dctO (l : List Str) (g : Str → V) : HO := .dK (l.map fun x => ((Sum.inr x : Key), g x))
/-- a dict of Shares -/
def SDc (C : Addr) (H : Hp) (d : Addr) (L : List Str) (c : Str → Rat) : Prop := ∃ ad : Str → Addr, H d = some (dctO L fun x => .ref (ad x)) ∧ ∀ x ∈ L, Sh C H (ad x) (pr (c x))
/-- a dict of fractions -/
def TDc (H : Hp) (d : Addr) (L : List Str) (c : Str → Rat) : Prop := ∃ ad : Str → Addr, H d = some (dctO L fun x => .ref (ad x)) ∧ ∀ x ∈ L, H (ad x) = some (tupP (pr (c x)))
theorem SDc.same {C : Addr} {H H' : Hp} {d : Addr} {L : List Str} {c : Str → Rat} (h : SDc C H d L c) (s : Same H H') : SDc C H' d L c := by
  obtain ⟨ad, h1, h2⟩ := h
  exact ⟨ad, s _ _ h1, fun x hx => (h2 x hx).keep s⟩
theorem TDc.same {H H' : Hp} {d : Addr} {L : List Str} {c : Str → Rat} (h : TDc H d L c) (s : Same H H') : TDc H' d L c := by
  obtain ⟨ad, h1, h2⟩ := h
  exact ⟨ad, s _ _ h1, fun x hx => s _ _ (h2 x hx)⟩
/-! ### what is put -/
def addK (L : List Str) (x : Str) : List Str := if x ∈ L then L else L ++ [x]
def setc (c : Str → Rat) (x : Str) (v : Rat) : Str → Rat := fun y => if y = x then v else c y
def get0 (L : List Str) (c : Str → Rat) (x : Str) : Rat := if x ∈ L then c x else 0
def mv (u : List Str × (Str → Rat)) (m : Str × Rat) : List Str × (Str → Rat) := (addK u.1 m.1, setc u.2 m.1 (get0 u.1 u.2 m.1 + m.2))
def mvL (u : List Str × (Str → Rat)) (ms : List (Str × Rat)) : List Str × (Str → Rat) := ms.foldl mv u
theorem mvL_snoc (u : List Str × (Str → Rat)) (ms : List (Str × Rat)) (m : Str × Rat) : mvL u (ms ++ [m]) = mv (mvL u ms) m := by
  unfold mvL
  rw [List.foldl_append]
  rfl
theorem mvL_app (u : List Str × (Str → Rat)) (ms ns : List (Str × Rat)) : mvL u (ms ++ ns) = mvL (mvL u ms) ns := by
  unfold mvL
  rw [List.foldl_append]
theorem mem_addK {L : List Str} {x : Str} : x ∈ addK L x := by
  unfold addK
  split
  · assumption
  · exact List.mem_append_right _ (List.mem_singleton.mpr rfl)
theorem addK_sub {L : List Str} {x y : Str} (h : y ∈ addK L x) : y ∈ L ∨ y = x := by
  unfold addK at h
  split at h
  · exact .inl h
  · rcases List.mem_append.mp h with z | z
    · exact .inl z
    · exact .inr (List.mem_singleton.mp z)
theorem addK_len (L : List Str) (x : Str) : (addK L x).length ≤ L.length + 1 := by
  unfold addK
  split
  · omega
  · rw [List.length_append]
    exact Nat.le_refl _
theorem addK_nd {L : List Str} {x : Str} (h : L.Nodup) : (addK L x).Nodup := by
  unfold addK
  split
  · exact h
  · rename_i n
    rw [List.nodup_append]
    exact ⟨h, by simp, fun a ha b hb e => by
      rw [List.mem_singleton] at hb
      subst hb
      exact n (e ▸ ha)⟩
theorem mvL_len (ms : List (Str × Rat)) : ∀ u : List Str × (Str → Rat), (mvL u ms).1.length ≤ u.1.length + ms.length := by
  induction ms with
  | nil => intro u; exact Nat.le_refl _
  | cons m ms ih =>
    intro u
    have h1 := ih (mv u m)
    have h2 := addK_len u.1 m.1
    rw [List.length_cons]
    show (mvL (mv u m) ms).1.length ≤ _
    have : (mv u m).1.length ≤ u.1.length + 1 := h2
    omega
theorem mvL_nd (ms : List (Str × Rat)) : ∀ u : List Str × (Str → Rat), u.1.Nodup → (mvL u ms).1.Nodup := by
  induction ms with
  | nil => intro u h; exact h
  | cons m ms ih => intro u h; exact ih (mv u m) (addK_nd h)
/-- how great it gets -/
theorem mvL_sz {k : Nat} (ms : List (Str × Rat)) : ∀ (u : List Str × (Str → Rat)) (n : Nat), (∀ x, Sz n (get0 u.1 u.2 x)) → (∀ m ∈ ms, Sz k m.2) → ∀ x, Sz (n + (k + 1) * ms.length) (get0 (mvL u ms).1 (mvL u ms).2 x) := by
  induction ms with
  | nil => intro u n h _ x; exact h x
  | cons m ms ih =>
    intro u n h hm x
    have h1 : ∀ y, Sz (n + (k + 1)) (get0 (mv u m).1 (mv u m).2 y) := fun y => by
      unfold mv get0 setc
      dsimp only
      by_cases e : y = m.1
      · subst e
        rw [if_pos mem_addK, if_pos rfl]
        have := (KM.sz_plus (h m.1) (hm m List.mem_cons_self)).1
        exact this.mono (by omega)
      · rw [if_neg e]
        have : (y ∈ addK u.1 m.1) ↔ y ∈ u.1 := ⟨fun z => (addK_sub z).elim id fun z => absurd z e, fun z => by
          unfold addK
          split
          · exact z
          · exact List.mem_append_left _ z⟩
        have h2 := h y
        unfold get0 at h2
        simp only [this]
        exact h2.mono (by omega)
    have := ih (mv u m) (n + (k + 1)) h1 (fun m' hm' => hm m' (List.mem_cons_of_mem _ hm')) x
    refine this.mono ?_
    rw [List.length_cons, Nat.mul_add]
    omega
theorem put_dct {L : List Str} {ad : Str → Addr} {x : Str} {t : Addr} : putK (L.map fun y => ((Sum.inr y : Key), V.ref (ad y))) (Sum.inr x) (.ref t) = (addK L x).map fun y => ((Sum.inr y : Key), V.ref (if y = x then t else ad y)) := by
  unfold addK
  split
  · rename_i h
    rw [DQ.put_old (fun y => V.ref (ad y)) h]
    exact List.map_congr_left fun y _ => by by_cases e : y = x <;> simp [e]
  · rename_i h
    have e1 : (L.map fun y => ((Sum.inr y : Key), V.ref (ad y))) = L.map fun y => ((Sum.inr y : Key), V.ref (if y = x then t else ad y)) := List.map_congr_left fun y hy => by rw [if_neg (show ¬ y = x from fun e => h (e ▸ hy))]
    rw [e1]
    have e2 := DQ.put_new (fun y => V.ref (if y = x then t else ad y)) h
    rw [if_pos rfl] at e2
    exact e2
/-- a value put in, read -/
theorem val_dct {L : List Str} {ad : Str → Addr} (x : Str) : valV (L.map fun y => ((Sum.inr y : Key), V.ref (ad y))) (Sum.inr x) = if x ∈ L then some (.ref (ad x)) else none := by
  split
  · rename_i h
    exact DQ.val_map (fun y => V.ref (ad y)) h
  · rename_i h
    exact DQ.val_none (fun y => V.ref (ad y)) h
theorem Sh.at_ne {C : Addr} {H : Hp} {p d : Addr} {q : Int × Int} {kvs : List (Key × V)} (h : Sh C H p q) (hd : H d = some (.dK kvs)) : p ≠ d := fun z => by
  obtain ⟨dx, e⟩ := h
  rw [z, hd] at e
  cases e
/-- the dict with one more put in -/
theorem SDc.put {C : Addr} {H : Hp} {d t : Addr} {L : List Str} {c : Str → Rat} {ad : Str → Addr} {x : Str} {v : Rat} (h1 : H d = some (dctO L fun y => .ref (ad y))) (h2 : ∀ y ∈ L, Sh C H (ad y) (pr (c y))) (ht : Sh C H t (pr v)) :
    SDc C (upd H d (.dK (putK (L.map fun y => ((Sum.inr y : Key), V.ref (ad y))) (Sum.inr x) (.ref t)))) d (addK L x) (setc c x v) := by
  rw [put_dct]
  refine ⟨fun y => if y = x then t else ad y, upd_same, fun y hy => ?_⟩
  have keep : ∀ {p : Addr} {q : Int × Int} {o : HO}, Sh C H p q → Sh C (upd H d o) p q := fun {p q o} hp => by
    have n := hp.at_ne h1
    obtain ⟨dx, e⟩ := hp
    exact ⟨dx, by rw [upd_ne n]; exact e⟩
  unfold setc
  dsimp only
  by_cases e : y = x
  · rw [if_pos e, if_pos e]
    exact keep ht
  · rw [if_neg e, if_neg e]
    exact keep (h2 y ((addK_sub hy).elim id fun z => absurd z e))
theorem TDc.put {H : Hp} {d t : Addr} {L : List Str} {c : Str → Rat} {ad : Str → Addr} {x : Str} {v : Rat} (h1 : H d = some (dctO L fun y => .ref (ad y))) (h2 : ∀ y ∈ L, H (ad y) = some (tupP (pr (c y)))) (ht : H t = some (tupP (pr v))) :
    TDc (upd H d (.dK (putK (L.map fun y => ((Sum.inr y : Key), V.ref (ad y))) (Sum.inr x) (.ref t)))) d (addK L x) (setc c x v) := by
  rw [put_dct]
  refine ⟨fun y => if y = x then t else ad y, upd_same, fun y hy => ?_⟩
  have keep : ∀ {p : Addr} {q : Int × Int} {o : HO}, H p = some (tupP q) → (upd H d o) p = some (tupP q) := fun {p q o} hp => by
    rw [upd_ne fun z => by rw [z, h1] at hp; cases hp]
    exact hp
  unfold setc
  dsimp only
  by_cases e : y = x
  · rw [if_pos e, if_pos e]
    exact keep ht
  · rw [if_neg e, if_neg e]
    exact keep (h2 y ((addK_sub hy).elim id fun z => absurd z e))
/-- a dict made by a walk -/
theorem dc_it {J : It} {n : Nat} {G : Hp → Prop} {Y : Nat → Hp → V → Hp → Prop} (w : Walk J n G Y) {g : TG} {tt : TT} {tk tv : TE} {vs : List Nat} {σ : L2.St} {H1 : Hp} {D : Addr} {Qd : Hp → Prop} (Pv : Nat → Hp → Prop) (h0 : Pv 0 (upd H1 D (.dK []))) (hG : ∀ i H, i ≤ n → Pv i H → G H)
    (hs : ∀ i x H H', i < n → Pv i H → Y i H x H' → g x (wipe σ vs) H' fun σ2 H2 => wipe σ2 vs = wipe σ vs ∧ tt σ2 H2 fun b H3 =>
      if b = true then tk σ2 H3 fun y H4 => tv σ2 H4 fun z H5 => ∃ kvs k, y = kV k ∧ H5 D = some (.dK kvs) ∧ kvs.length < sizeLine ∧ Pv (i + 1) (upd H5 D (.dK (putK kvs k z))) else Pv (i + 1) H3) (hd : ∀ H, Pv n H → Qd H) :
    ∃ W : Nat → Nat → Hp → Prop, (∃ m, W 0 m (upd H1 D (.dK []))) ∧ ∀ i m H, W i m H →
      (J.stop i H ∧ Qd H) ∨ (J.go i H ∧ ∃ Nx : Hp → Prop, (∀ H', Nx H' → ∃ m', m' < m ∧ W (i + 1) m' H') ∧ ∀ x H', J.yld i H x H' → g x (wipe σ vs) H' fun σ2 H2 => wipe σ2 vs = wipe σ vs ∧ tt σ2 H2 fun b H3 =>
        if b = true then tk σ2 H3 fun y H4 => tv σ2 H4 fun z H5 => ∃ kvs k, y = kV k ∧ H5 D = some (.dK kvs) ∧ kvs.length < sizeLine ∧ Nx (upd H5 D (.dK (putK kvs k z))) else Nx H3) := by
  refine ⟨fun i m H => m = n - i ∧ i ≤ n ∧ Pv i H, ⟨n, rfl, Nat.zero_le _, h0⟩, ?_⟩
  rintro i m H ⟨rfl, hi, p⟩
  by_cases hlt : i < n
  · exact .inr ⟨w.goes i H hlt (hG i H hi p), Pv (i + 1), fun H' p' => ⟨n - (i + 1), by omega, rfl, hlt, p'⟩, fun x H' y => hs i x H H' hlt p (w.yields i H x H' hlt (hG i H hi p) y)⟩
  · have e : i = n := by omega
    subst e
    exact .inl ⟨w.stops H (hG i H hi p), hd H p⟩
end K03
set_option Elab.async false
set_option linter.all false
set_option maxRecDepth 100000
set_option maxHeartbeats 4000000
/-! KB: what a call by keywords binds, for a def without keyword-only parameters. -/
namespace KW
open PySem PySem.Spec PyProof.Rows L2
section
variable {K : PySem.W.Frag} {x qual : Str} {params : Arguments} {body : List Stmt} {scope : Scope} {dvs : List V} {kws : List (Str × V)} {f : Addr} {fd : FuncData} {ps : List Str}
theorem kb1 (F : FunD K x qual params body scope dvs kws f fd) (n : Nat) (ks : List Str) (g : {α : Type} → List α → List α → List α → List α) (hd : dvs ≠ [])
    (hrel : ∀ {vs ds zs : List V} {us its ws : List Value}, Vals vs us → Vals ds its → Vals zs ws → Vals (g vs ds zs) (g us its ws))
    (h : ∀ (T : Addr) (kV doc pm : Value) (an : Option Addr) (cdv ct : Value) (us its ws : List Value), us.length = n → its.length = dvs.length → ws.length = ks.length →
      ∃ k, bindArgs (PySem.W.fnOf x qual params body scope (.ref T) kV doc pm an cdv ct) ⟨us, ks.zip ws⟩ = seqItems? (.ref T) >>= k ∧ k (some its.toArray) = pure (ps.zip (g us its ws))) :
    ∃ its : List Value, KBn K fd ps n ks (fun us ws => g us its ws) (fun vs zs => g vs dvs zs) := by
  obtain ⟨oc, od, dV, kV, doc, pm, an, cdv, ct, osl, rfl, lk, hcd, hD, hK⟩ := F.ex
  rcases hD with ⟨e, _⟩ | ⟨_, T, o, its, m, rfl, lT, oT, rT⟩
  · exact absurd e hd
  · refine ⟨its, ⟨fun s us ws X l1 l2 => ?_, fun r1 r2 => hrel r1 rT r2⟩⟩
    obtain ⟨k, e1, e2⟩ := h T kV doc pm an cdv ct us its ws l1 rT.length.symm l2
    refine BindsTo.of_looks fun M => ?_
    rw [e1]
    exact looks_items X lT oT (.of_pure e2)
theorem kb0 (F : FunD K x qual params body scope [] kws f fd) (n : Nat) (ks : List Str) (g : {α : Type} → List α → List α → List α)
    (hrel : ∀ {vs zs : List V} {us ws : List Value}, Vals vs us → Vals zs ws → Vals (g vs zs) (g us ws))
    (h : ∀ (kV doc pm : Value) (an : Option Addr) (cdv ct : Value) (us ws : List Value), us.length = n → ws.length = ks.length →
      bindArgs (PySem.W.fnOf x qual params body scope .none kV doc pm an cdv ct) ⟨us, ks.zip ws⟩ = pure (ps.zip (g us ws))) :
    KBn K fd ps n ks (fun us ws => g us ws) (fun vs zs => g vs zs) := by
  obtain ⟨oc, od, dV, kV, doc, pm, an, cdv, ct, osl, rfl, lk, hcd, hD, hK⟩ := F.ex
  rcases hD with ⟨_, rfl⟩ | ⟨e, _⟩
  · exact ⟨fun s us ws X l1 l2 => .of_eq (h kV doc pm an cdv ct us ws l1 l2), fun r1 r2 => hrel r1 r2⟩
  · exact absurd rfl e
end
end KW
set_option Elab.async false
set_option linter.all false
set_option maxRecDepth 100000
set_option maxHeartbeats 4000000
namespace K03
open PySem PySem.Spec PyProof.Rows L2
open C8 (Cal Mak Met pe_c pe_mk pe_mt pe_mt0)
open KM (pr Sz)
open SX (S)
/-- a list of Shares, a list of fractions -/
def SL (C : Addr) (H : Hp) (l : Addr) (L : List (Addr × Rat)) : Prop := H l = some (.lst (L.map fun x => V.ref x.1)) ∧ ∀ x ∈ L, Sh C H x.1 (pr x.2)
def PL (H : Hp) (l : Addr) (L : List (Addr × Rat)) : Prop := H l = some (.lst (L.map fun x => V.ref x.1)) ∧ ∀ x ∈ L, H x.1 = some (tupP (pr x.2))
theorem SL.same {C : Addr} {H H' : Hp} {l : Addr} {L : List (Addr × Rat)} (h : SL C H l L) (s : Same H H') : SL C H' l L := ⟨s _ _ h.1, fun x hx => (h.2 x hx).keep s⟩
theorem PL.same {H H' : Hp} {l : Addr} {L : List (Addr × Rat)} (h : PL H l L) (s : Same H H') : PL H' l L := ⟨s _ _ h.1, fun x hx => s _ _ (h.2 x hx)⟩
theorem SL.sh {K : PySem.W.Frag} {C : Addr} {H : Hp} {l : Addr} {L : List (Addr × Rat)} (h : SL C H l L) : ShL K C H l L := ⟨SqL.of h.1, h.2⟩
theorem SL.kp {C : Addr} {H H' : Hp} {h l : Addr} {c : Nat} {L : List (Addr × Rat)} (x : SL C H l L) (he : Held H h c) (k : Kp h H H') : SL C H' l L :=
  ⟨k.1 _ _ x.1 (he.no x.1 fun kvs e => by cases e), fun y hy => let ⟨dx, e⟩ := x.2 y hy; ⟨dx, k.1 _ _ e (he.no e fun kvs e => by cases e)⟩⟩
theorem PL.kp {H H' : Hp} {h l : Addr} {c : Nat} {L : List (Addr × Rat)} (x : PL H l L) (he : Held H h c) (k : Kp h H H') : PL H' l L :=
  ⟨k.1 _ _ x.1 (he.no x.1 fun kvs e => by cases e), fun y hy => k.1 _ _ (x.2 y hy) (he.no (x.2 y hy) fun kvs e => by cases e)⟩
theorem sz_rats {L : List (Addr × Rat)} {n k : Nat} (h : ∀ x ∈ L, Sz 50 x.2) (l : L.length ≤ n) (e : 1 + 51 * n ≤ k) : Sz k (sumR (ratsOf L)) := by
  have h1 : Sz (1 + (50 + 1) * (ratsOf L).length) (sumR (ratsOf L)) := sz_sum (k := 50) fun r hr => by
    obtain ⟨x, hx, rfl⟩ := List.mem_map.mp hr
    exact h x hx
  refine h1.mono ?_
  unfold ratsOf
  rw [List.length_map]
  have := Nat.mul_le_mul_left 51 l
  omega
theorem dp_same {K : PySem.W.Frag} {H : Hp} {q : Int × Int} : ∀ qs : List Addr, (∀ a ∈ qs, H a = some (tupP q)) → DpAll K H (qs.map V.ref) ((List.replicate qs.length q).map DQ.pD)
  | [], _ => .nil
  | a :: qs, h => .cons (DQ.dp_pair (h a List.mem_cons_self)) (dp_same qs fun b hb => h b (List.mem_cons_of_mem _ hb))
section
variable {P : Program} {w : World} {K : PySem.W.Frag} {mg : Str → Option Value} {base : Heap} {f fT C : Addr} {fd fdT : FuncData}
def spTR (C : Addr) : Sp := fun vs H Q _ => ∃ (h l pl : Addr) (c : Nat) (L ps : List (Addr × Rat)), vs = [.ref h, .ref l, .ref pl] ∧ Held H h (c + 2) ∧ SL C H l L ∧ PL H pl ps ∧ ratsOf L = ratsOf ps ∧ L.length ≤ 20 ∧ (∀ x ∈ L, Sz 50 x.2) ∧ (∀ x ∈ ps, Sz 50 x.2) ∧
  ∀ H', Held H' h c → Kp h H H' → Q (.bl true) H'
theorem ok_tr (F : Dn K d_l_total_right f fd) (cD : CalD P w K mg base) (cA : Cal P w K mg base 2 "_law_add" spAdd []) (cP : Cal P w K mg base 1 "_law_pair" (spPair C) []) (cT0 : Cal P w K mg base 5 "total" (spTotal K C) [.int 0]) (cT : Cal P w K mg base 5 "total" (spTotal K C) [])
    (FT : FnOk P w K mg base CX0 5 fT fdT ["shares", "start"] (spTotal K C)) (gT : mg "total" = some (.ref fT)) (kT : PySem.W.keepIn K (.ref fT) = true) (k1 : KBn K fdT ["shares", "start"] 1 ["start"] (fun us ws => us ++ ws) (fun vs zs => vs ++ zs)) (k2 : KBn K fdT ["shares", "start"] 0 ["start", "shares"] (fun us ws => us ++ ws.reverse) (fun vs zs => vs ++ zs.reverse)) :
    FnOk P w K mg base CX0 6 f fd ["_law_held_here", "_law_some", "_law_pairs"] (spTR C) := by
  refine F.ok sc_l_total_right (fun vs H Q E h => ?_) (fun cdv A outer s H vs Q E hr h => ?_)
  · obtain ⟨h, l, pl, c, L, ps, rfl, _⟩ := h
    rfl
  · obtain ⟨h, l, pl, c, L, ps, rfl, held, hS, hP, er, ll, zL, zp, hQ⟩ := h
    have hu64 : (A.deeper (envOfC d_l_total_right.qual d_l_total_right.scope s.heap.objs.size f cdv)).units + 64 < cLine := by have := hr.un; omega
    refine ⟨_, PSs.nox (pss_cons (ps_set (i := 3) sc_l_total_right.nd rfl (.inl rfl) (pe_op op_sub (pe_c cD hr (by decide) rfl (pa_cons (pv 0) (pa_cons pe_int pa_nil))) pe_int))
      (pss_cons (ps_set (i := 4) sc_l_total_right.nd rfl (.inl rfl) (pe_tup (pa_cons pe_int (pa_cons pe_int pa_nil))))
      (pss_cons (ps_for PassesOwn.never rfl (pi_list (pv 2)) (pg_name (i := 5) sc_l_total_right.nd rfl (.inl rfl)) (pss_one (ps_set (i := 4) sc_l_total_right.nd rfl (.inl rfl) (pe_c cA hr (by decide) rfl (pa_cons (pv 4) (pa_cons (pv 5) pa_nil))))))
      (pss_cons (ps_if (pt_cmpR (op_neD hu64) (pe_c cP hr (by decide) rfl (pa_cons (pe_c cT0 hr (by decide) rfl (pa_cons (pv 1) pa_nil)) pa_nil)) (pv 4) (nomark _)) pss_never pss_nil)
      (pss_cons (ps_set (i := 6) sc_l_total_right.nd rfl (.inl rfl) (pe_lst (pa_cons (pe_c cT hr (by decide) rfl (pa_cons (pv 1) (pa_cons (pv 3) pa_nil))) (pa_cons (pe_callN (E := E0) FT (hr.mono (by decide)) rfl gT kT k1 (fun _ _ _ _ _ _ _ h => False.elim h) (pa_cons (pv 1) pa_nil) (pk_cons (pv 3) pk_nil))
        (pa_cons (KW.pe_cK FT (hr.mono (by decide)) rfl gT kT k2 (pk_cons (pv 3) (pk_cons (pv 1) pk_nil))) pa_nil)))))
      (pss_one (ps_ret (pe_cmpR (op_eqD hu64) (pe_lc (own := [("_law_one", 7)]) (g := gName 7) (tt := tYes) rfl sc_l_total_right.nd (pi_list (pv 6)) (blkOk_by (N := N_l_total_right) (sc := defScope s_l_total_right) (by decide +kernel))
          (fun _ _ _ _ _ => pg_name (i := 7) sc_l_total_right.nd rfl (Or.inl rfl)) (fun _ _ _ _ _ => pts_nil) (fun _ _ _ _ _ => pe_c cP hr (by decide) rfl (pa_cons (pv 7) pa_nil)))
        (pe_op op_rep (pe_lst (pa_cons (pe_c cA hr (by decide) rfl (pa_cons (pv 4) (pa_cons (pe_tup (pa_cons (pv 3) (pa_cons pe_int pa_nil))) pa_nil))) pa_nil)) pe_int) (nomark _))))))))), ?_⟩
    refine ⟨_, rfl, h, c, 2001, rfl, held.weak (by omega), by decide, by decide, fun r H1 r0 r1 held1 k1' => ⟨_, _, rfl, rfl, ?_⟩⟩
    have S1 := hS.kp held k1'
    have P1 := hP.kp held k1'
    refine ⟨by show 2 ≤ sizeLine; decide, fun t0 ft0 => ?_⟩
    have s2 := same_new (o := .tup [.int 0, .int 1]) ft0
    have ht0 : (upd H1 t0 (.tup [.int 0, .int 1])) t0 = some (tupP (pr 0)) := by rw [upd_same]; rfl
    generalize upd H1 t0 (.tup [.int 0, .int 1]) = H2 at s2 ht0
    have P2 := P1.same s2
    refine ⟨_, rfl, pl, rfl, ⟨_, SqL.of P2.1⟩, for_list (K := K) (xs := ps.map fun x => V.ref x.1) (fun i σ H' => ∃ (t : Addr) (v5 : Option V), σ = [some (.ref h), some (.ref l), some (.ref pl), some (.int (r - 1000)), some (.ref t), v5, none, none] ∧ Same H1 H' ∧ H' t = some (tupP (pr (sumR (ratsOf (ps.take i))))))
      ⟨t0, none, rfl, s2, ht0⟩ (fun i σ H' _ z => by obtain ⟨_, _, _, e, _⟩ := z; exact SqL.of (e _ _ P1.1)) ?_ ?_⟩
    · rintro i v σ H3 hi ⟨t, v5, rfl, s3, ht⟩
      rw [List.getElem?_map] at hi
      obtain ⟨x, hx, rfl⟩ := Option.map_eq_some_iff.mp hi
      have hm := List.mem_of_getElem? hx
      have lps : ps.length ≤ 20 := by
        have := congrArg List.length er
        unfold ratsOf at this
        rw [List.length_map, List.length_map] at this
        omega
      have szt : Sz 1100 (sumR (ratsOf (ps.take i))) := sz_rats (n := 20) (fun y hy => zp y (List.mem_of_mem_take hy)) (by rw [List.length_take]; omega) (by decide)
      refine ⟨_, rfl, _, rfl, t, x.1, _, _, 1100, rfl, ht, s3 _ _ (P1.2 x hm), ⟨bd_of szt, bd_of ((zp x hm).mono (by decide)), by decide, by decide⟩, fun t' ft' => ?_⟩
      rw [KM.pr_plus]
      refine ⟨t', _, rfl, s3.trans (same_new ft'), ?_⟩
      have e : sumR (ratsOf (ps.take i)) + x.2 = sumR (ratsOf (ps.take (i + 1))) := by
        rw [take_one hx]
        unfold ratsOf
        rw [List.map_append, sumR_app]
        show _ = _ + (0 + x.2)
        rw [Rat.zero_add]
      rw [← e]
      exact upd_same
    · rintro σ H3 ⟨t, v5, rfl, s3, ht⟩
      rw [List.length_map, List.take_length, ← er] at ht
      have S3 := S1.same s3
      have held3 := held1.same s3
      have szs : Sz 1100 (sumR (ratsOf L)) := sz_rats zL ll (by decide)
      refine ⟨_, rfl, l, L, 0, rfl, S3.sh, by decide, zL, ll, fun u H4 s4 fu hu => ?_⟩
      have e0 : Rat.divInt 0 1 + sumR (ratsOf L) = sumR (ratsOf L) := by
        have : Rat.divInt 0 1 = 0 := by rw [Rat.zero_divInt]
        rw [this, Rat.zero_add]
      rw [e0] at hu
      refine ⟨u, _, rfl, hu, fun q H5 s5 fq hq => ?_⟩
      refine ⟨_, rfl, DQ.pD (pr (sumR (ratsOf L))), DQ.pD (pr (sumR (ratsOf L))), DQ.dp_pair hq, DQ.dp_pair ((s4.trans s5) _ _ ht), DQ.sh_pair _, DQ.sh_pair _, _, rfl, ?_⟩
      rw [DQ.eq_pair]
      refine iteF ?_
      have s35 := s4.trans s5
      have S5 := S3.same s35
      have rm : (r - 1000).natAbs < 4096 := by omega
      obtain ⟨tv, htv⟩ : ∃ tv, tv = Rat.divInt (r - 1000) 1 + sumR (ratsOf L) := ⟨_, rfl⟩
      refine ⟨_, rfl, _, rfl, l, L, r - 1000, rfl, S5.sh, rm, zL, ll, fun a1 H6 s6 fa1 ha1 => ?_⟩
      rw [← htv] at ha1
      have S6 := S5.same s6
      refine ⟨_, rfl, _, rfl, rfl, rfl, l, L, r - 1000, rfl, S6.sh, rm, zL, ll, fun a2 H7 s7 fa2 ha2 => ?_⟩
      rw [← htv] at ha2
      have S7 := S6.same s7
      refine ⟨_, rfl, _, rfl, rfl, l, L, r - 1000, rfl, S7.sh, rm, zL, ll, fun a3 H8 s8 fa3 ha3 => ?_⟩
      rw [← htv] at ha3
      refine ⟨by show 3 ≤ sizeLine; decide, fun fl ffl => ?_⟩
      have s9 := same_new (o := .lst [.ref a1, .ref a2, .ref a3]) ffl
      have hfl : (upd H8 fl (.lst [.ref a1, .ref a2, .ref a3])) fl = some (.lst [.ref a1, .ref a2, .ref a3]) := upd_same
      have b1 := ((ha1.keep s7).keep s8).keep s9
      have b2 := (ha2.keep s8).keep s9
      have b3 := ha3.keep s9
      have s39 := s35.trans (s6.trans (s7.trans (s8.trans s9)))
      generalize upd H8 fl (.lst [.ref a1, .ref a2, .ref a3]) = H9 at s9 hfl b1 b2 b3 s39
      have each : ∀ x ∈ [a1, a2, a3], Sh C H9 x (pr tv) := fun x hx => by
        simp only [List.mem_cons, List.not_mem_nil, or_false] at hx
        rcases hx with rfl | rfl | rfl
        · exact b1
        · exact b2
        · exact b3
      refine ⟨_, rfl, fl, rfl, ⟨_, SqL.of hfl⟩, fun D hD => lc_list (K := K) (xs := [a1, a2, a3].map V.ref) (fun i H' => ∃ qs : List Addr, qs.length = i ∧ H' D = some (.lst (qs.map V.ref)) ∧ (∀ q ∈ qs, H' q = some (tupP (pr tv))) ∧ Same H9 H')
        ⟨[], rfl, upd_same, fun q hq => (nomatch hq), same_new hD⟩ (fun i H' _ z => by obtain ⟨_, _, _, _, e⟩ := z; exact SqL.of (e _ _ hfl)) ?_ ?_⟩
      · rintro i v H10 hi ⟨qs, ql, hD10, hq10, s10⟩
        rw [List.getElem?_map] at hi
        obtain ⟨a, ha, rfl⟩ := Option.map_eq_some_iff.mp hi
        have hia : i < 3 := (List.getElem?_eq_some_iff.mp ha).1
        refine ⟨rfl, ?_⟩
        refine ⟨_, rfl, a, _, rfl, (each a (List.mem_of_getElem? ha)).keep s10, fun q' H11 s11 fq' hq' => ?_⟩
        have hD11 := s11 _ _ hD10
        refine ⟨_, hD11, by rw [List.length_map, ql]; exact line_lt (by omega), qs ++ [q'], by rw [List.length_append, ql]; rfl, by rw [upd_same, List.map_append]; rfl, fun y hy => ?_, fun b o e => by rw [upd_ne (ne_of_none e hD)]; exact s11 _ _ (s10 _ _ e)⟩
        have g : H11 y = some (tupP (pr tv)) := by
          rcases List.mem_append.mp hy with z | z
          · exact s11 _ _ (hq10 y z)
          · rw [List.mem_singleton.mp z]
            exact hq'
        rw [upd_ne fun z => by rw [z, hD11] at g; cases g]
        exact g
      · rintro H10 ⟨qs, ql, hD10, hq10, s10⟩
        have ql : qs.length = 3 := ql
        have ht10 := s10 _ _ (s39 _ _ ht)
        refine ⟨_, rfl, _, rfl, by show 2 ≤ sizeLine; decide, fun m2 fm2 => ?_⟩
        have em : (r - 1000, (1 : Int)) = pr (Rat.divInt (r - 1000) 1) := by
          rw [← KM.low_eq (by decide), KM.low_id (by decide) (by simp)]
        have sm := same_new (o := .tup [.int (r - 1000), .int 1]) fm2
        have hm2 : (upd H10 m2 (.tup [.int (r - 1000), .int 1])) m2 = some (tupP (pr (Rat.divInt (r - 1000) 1))) := by rw [upd_same, ← em]; rfl
        have szm : Sz 12 (Rat.divInt (r - 1000) 1) := KM.sz_of_low (by decide) (by show (r - 1000).natAbs < 2 ^ 12; omega) (by decide)
        refine ⟨t, m2, _, _, 1100, rfl, sm _ _ ht10, hm2, ⟨bd_of szs, bd_of (szm.mono (by decide)), by decide, by decide⟩, fun w2 fw2 => ?_⟩
        rw [KM.pr_plus]
        have etv : sumR (ratsOf L) + Rat.divInt (r - 1000) 1 = tv := by rw [htv, Rat.add_comm]
        rw [etv]
        have sw := same_new (o := tupP (pr tv)) fw2
        have hw2 : (upd (upd H10 m2 (.tup [.int (r - 1000), .int 1])) w2 (tupP (pr tv))) w2 = some (tupP (pr tv)) := upd_same
        have s12 := sm.trans sw
        generalize upd (upd H10 m2 (.tup [.int (r - 1000), .int 1])) w2 (tupP (pr tv)) = H12 at hw2 s12
        refine ⟨by show 1 ≤ sizeLine; decide, fun l1 fl1 => ?_⟩
        have s13 := same_new (o := .lst [.ref w2]) fl1
        refine ⟨l1, 3, _, rfl, rfl, upd_same, by decide, by decide, by show 1 * 3 ≤ sizeLine; decide, fun l3 fl3 => ?_⟩
        have s14 := same_new (o := .lst (List.replicate (3 : Int).toNat [V.ref w2]).flatten) fl3
        have hl3 : (upd (upd H12 l1 (.lst [.ref w2])) l3 (.lst (List.replicate (3 : Int).toNat [V.ref w2]).flatten)) l3 = some (.lst ([w2, w2, w2].map V.ref)) := by rw [upd_same]; rfl
        have hD14 := s14 _ _ (s13 _ _ (s12 _ _ hD10))
        have hw14 := s14 _ _ (s13 _ _ hw2)
        have hq14 : ∀ q ∈ qs, (upd (upd H12 l1 (.lst [.ref w2])) l3 (.lst (List.replicate (3 : Int).toNat [V.ref w2]).flatten)) q = some (tupP (pr tv)) := fun q hq => s14 _ _ (s13 _ _ (s12 _ _ (hq10 q hq)))
        have sF := s39.trans (s10.trans (s12.trans (s13.trans s14)))
        generalize upd (upd H12 l1 (.lst [.ref w2])) l3 (.lst (List.replicate (3 : Int).toNat [V.ref w2]).flatten) = H14 at hl3 hD14 hw14 hq14 sF
        have d1 : DpAll K H14 (qs.map V.ref) ((List.replicate 3 (pr tv)).map DQ.pD) := by rw [← ql]; exact dp_same qs hq14
        have d2 : DpAll K H14 ([w2, w2, w2].map V.ref) ((List.replicate 3 (pr tv)).map DQ.pD) := dp_same [w2, w2, w2] fun q hq => by
          simp only [List.mem_cons, List.not_mem_nil, or_false] at hq
          rcases hq with rfl | rfl | rfl <;> exact hw14
        refine ⟨_, _, Dp.lst (SqL.of hD14) d1, Dp.lst (SqL.of hl3) d2, DQ.sh_pairs _, DQ.sh_pairs _, ?_⟩
        rw [DQ.eq_pairs]
        exact hQ H14 ((held3.same sF).weak (Nat.le_refl _)) (k1'.trans (Kp.same (s3.trans sF)))
end
end K03
set_option Elab.async false
set_option linter.all false
set_option maxRecDepth 100000
set_option maxHeartbeats 4000000
/-! INO: x in xs, xs a list of instances of an own class with an own __eq__, x one of them. -/
namespace INO
open PySem PySem.Spec PyProof.Rows L2
open PySem.MeetsSeq
section
variable {X : Cx} {n k : Nat} {C : Addr} {sp : Sp}
theorem eqB (S : OW.Spc X.prog X.w X.K X.mg X.base k C "__eq__" sp) {A : Around} (sb : Sub X n A) (kn : k ≤ n) {pins : List (Addr × Obj)} {s : Shared} {σ : L2.St} {H : Hp} {a b da db : Addr} {fa fb : List (Str × V)} (I : Inv X pins σ H s)
    (hb : H b = some (.ins C db fb)) (ha : H a = some (.ins C da fa)) (hsp : sp [.ref b, .ref a] H (fun v H' => ∃ z, v = .bl z ∧ Ext H H') E0) :
    wpAny (model X.prog X.w) A (eqBool (.ref b) (.ref a)) (fun r s' => (b = a → r = true) ∧ ∃ H', Inv X pins σ H' s' ∧ Ext H H') X.xe s := by
  by_cases hne : b = a
  · subst hne
    unfold eqBool
    refine wpAny_holding ?_
    refine wpAny_ite_split (fun _ => ?_) (fun h => absurd (beq_self_eq_true _) h)
    wp_walk
    exact ⟨fun _ => rfl, H, I, Ext.rfl'⟩
  · obtain ⟨f, fd, ps, h1, h2, F, hbi⟩ := S.ex
    obtain ⟨mA, O, _⟩ := ins_get I.hok hb
    obtain ⟨od, J, _⟩ := O.look
    obtain ⟨mB, O', _⟩ := ins_get I.hok ha
    obtain ⟨od', J', _⟩ := O'.look
    obtain ⟨m, hF⟩ := I.fr
    have e0 : Env0 X.prog X.w X.K X.mg X.base A X.stack s H := by
      have z := I.env0
      exact ⟨sb.fr.trans z.frames, z.mod, z.bs, z.bsz, z.funs, z.frf, z.hok, z.bare⟩
    refine GQ.eqBool_refG hne ?_
    refine PySem.W.cmp_K (op := .Eq) (tb := .ref C) sb.room.units0 hF I.ok.mod.kin J J'.type OW.same_first h1 h2 ?_
    refine wpAny_mono (OW.run_at (E' := X.xe) (vs := [.ref b, .ref a]) F hbi (sb.room.mono kn) I e0 (.cons rfl (.cons rfl .nil)) hsp) (fun w s' z => ?_) fun _ _ x => x
    obtain ⟨z', H', I', rz, z, rfl, e⟩ := z
    cases (show w = Value.bool z from rz)
    exact ⟨z, rfl, fun h => absurd h hne, H', I', e⟩
/-- what is asked of the list -/
def Own (C : Addr) (sp : Sp) (H : Hp) (l a : Addr) (bs : List Addr) : Prop := H l = some (.lst (bs.map V.ref)) ∧ a ∈ bs ∧ (∀ b ∈ bs, ∃ d fs, H b = some (.ins C d fs)) ∧ ∀ H', Ext H H' → ∀ b ∈ bs, sp [.ref b, .ref a] H' (fun v H'' => ∃ z, v = .bl z ∧ Ext H' H'') E0
theorem loop (S : OW.Spc X.prog X.w X.K X.mg X.base k C "__eq__" sp) {A : Around} (sb : Sub X n A.in1) (kn : k ≤ n) {pins : List (Addr × Obj)} {σ : L2.St} {H0 : Hp} {l a : Addr} {bs : List Addr} {R : Result → Shared → Prop} (h0 : Own C sp H0 l a bs)
    (hE : ∀ e s', X.xe e s' → R (.error e) s') (fin : ∀ (s' : Shared) (H' : Hp), Inv X pins σ H' s' → Ext H0 H' → R (.ok (.ret (.bool true))) s') {j : Nat} (hj : bs[j]? = some a) :
    ∀ (m i : Nat) (s : Shared) (H : Hp), j - i = m → i ≤ j → Inv X pins σ H s → Ext H0 H →
      wpAny (model X.prog X.w) A.in1 (Builtin.«list.__contains__.loop» ⟨[.ref l, .ref a, rawInt i], []⟩) (fun fin s' => match fin with | .done f => R (.ok f) s' | .again c' => c'.quiet = true ∧ codeAny (model X.prog X.w) A c' R s') (fun e s' => R (.error e) s') s := by
  have hjl : j < bs.length := (List.getElem?_eq_some_iff.mp hj).1
  obtain ⟨hl, ham, hin, hsp⟩ := h0
  intro m
  induction m with
  | zero =>
    intro i s H hm hi I ex
    have hij : i = j := by omega
    subst hij
    obtain ⟨_, its, c, rv, _, e⟩ := I.lstM (ex _ _ hl)
    obtain ⟨u, e1, e2⟩ := rv.get (show (bs.map V.ref)[i]? = some (.ref a) by rw [List.getElem?_map, hj]; rfl)
    cases (show u = Value.ref a from e2)
    have hs : its.toArray[((i : Nat) : Int).toNat]? = some (.ref a) := by simpa using e1
    obtain ⟨d, fs, hb⟩ := hin a ham
    unfold Builtin.«list.__contains__.loop»
    refine wpAny_bind (wpAny_listItems e rfl ?_)
    rw [hs]
    dsimp only
    refine wpAny_bind (wpAny_mono (eqB S sb kn I (ex _ _ hb) (ex _ _ hb) (hsp H ex a ham)) (fun r s' h => ?_) fun e' s' h' => hE e' s' h')
    obtain ⟨hr, H', I', ex'⟩ := h
    rw [hr rfl]
    wp_walk
    exact fin s' H' I' (ex.trans ex')
  | succ m ih =>
    intro i s H hm hi I ex
    have hib : i < bs.length := by omega
    obtain ⟨_, its, c, rv, _, e⟩ := I.lstM (ex _ _ hl)
    obtain ⟨u, e1, e2⟩ := rv.get (show (bs.map V.ref)[i]? = some (.ref bs[i]) by rw [List.getElem?_map, List.getElem?_eq_getElem hib]; rfl)
    cases (show u = Value.ref bs[i] from e2)
    have hs : its.toArray[((i : Nat) : Int).toNat]? = some (.ref bs[i]) := by simpa using e1
    have hbm := List.getElem_mem hib
    obtain ⟨d, fs, hb⟩ := hin bs[i] hbm
    obtain ⟨da, fa, ha⟩ := hin a ham
    unfold Builtin.«list.__contains__.loop»
    refine wpAny_bind (wpAny_listItems e rfl ?_)
    rw [hs]
    dsimp only
    refine wpAny_bind (wpAny_mono (eqB S sb kn I (ex _ _ hb) (ex _ _ ha) (hsp H ex bs[i] hbm)) (fun r s' h => ?_) fun e' s' h' => hE e' s' h')
    obtain ⟨hr, H', I', ex'⟩ := h
    cases r with
    | true =>
      wp_walk
      exact fin s' H' I' (ex.trans ex')
    | false =>
      have hc : ((i : Int) + 1) = ((i + 1 : Nat) : Int) := by push_cast; rfl
      wp_walk
      rw [hc]
      exact ⟨plainId_quiet plain_contains_loop _, codeAny_builtin entry_contains_loop (by
        rw [Around.under_plainId plain_contains_loop _]
        exact ih (i + 1) s' H' (by omega) (by omega) I' (ex.trans ex'))⟩
def rInO (C : Addr) (sp : Sp) : R2 := fun x y H Q => ∃ (l a : Addr) (bs : List Addr), x = .ref a ∧ y = .ref l ∧ Own C sp H l a bs ∧ ∀ H', Ext H H' → Q (.bl true) H'
theorem op_inO (S : OW.Spc X.prog X.w X.K X.mg X.base k C "__eq__" sp) (hr : Room (k + 1) X.A) : OpR X (compareOp .In) (rInO C sp) := by
  intro pins s σ H x y v u Q I rx ry h
  obtain ⟨l, a, bs, rfl, rfl, h0, q⟩ := h
  cases (show v = Value.ref a from rx)
  cases (show u = Value.ref l from ry)
  obtain ⟨_, its, c, rv, _, e⟩ := I.lstM h0.1
  obtain ⟨j, hjl, hj⟩ := List.getElem_of_mem h0.2.1
  have sb : Sub X k X.A.in1 := ⟨hr.in1, rfl⟩
  show wpAny _ X.A (do return Value.bool (← contains (.ref l) (.ref a))) _ _ s
  have hT : s.TypeIs (.ref l) "list" := ⟨_, e, rfl⟩
  refine wpAny_bind (wpAny_contains_slot hT PySem.F.slot_list_contains (wpAny_mono (call_meetsIn (Q := fun v s2 => v = Value.bool true ∧ ∃ H2, Inv X pins σ H2 s2 ∧ Ext H H2) (B := Builtin.«list.__contains__») (S := fun A R s' => A = X.A ∧ s' = s ∧ (∀ e s', X.xe e s' → R (.error e) s') ∧ ∀ (s' : Shared) (H' : Hp), Inv X pins σ H' s' → Ext H H' → R (.ok (.ret (.bool true))) s')
    PySem.F.slot_list_contains hT PySem.F.entry_list_contains (PySem.F.args_list_contains_2 _ _) ?_ ⟨rfl, rfl, fun e s' z => z, fun s' H' I' ex => ?_⟩) (fun v s' hv => ?_) fun _ _ e => e))
  case refine_1 =>
    intro A R s' hS
    obtain ⟨rfl, rfl, hE, fin⟩ := hS
    unfold Builtin.«list.__contains__»
    wp_walk
    exact ⟨plainId_quiet plain_contains_loop _, codeAny_builtin entry_contains_loop (by
      rw [Around.under_plainId plain_contains_loop _]
      exact loop S sb (Nat.le_refl _) h0 hE fin (j := j) (List.getElem?_eq_some_iff.mpr ⟨hjl, hj⟩) _ 0 s' H rfl (Nat.zero_le _) I Ext.rfl')⟩
  case refine_2 => exact ⟨rfl, H', I', ex⟩
  case refine_3 =>
    obtain ⟨rfl, H', I', ex⟩ := hv
    exact wpAny_truthy_bool (wpAny_pure ⟨.bl true, H', I', rfl, q H' ex⟩)
end
end INO
set_option Elab.async false
set_option linter.all false
set_option maxRecDepth 100000
set_option maxHeartbeats 4000000
/-! GE: a law's end by a promise that is asked only where no repr is under way. -/
namespace GL
open PySem PySem.Spec PyProof.Rows L2
theorem lawG {P : Program} {w : World} {K : PySem.W.Frag} {mg mb : Str → Option Value} {k : Nat} {fa a : Addr} {fd : FuncData} {x : Str} {sp : Sp} {s₁ : Shared} {vs : List Value} {ns : List Int}
    (KX : K.In s₁.heap) (hns : s₁.heap.Ns mainGlobals mg) (hb : s₁.heap.Ns builtinsNs mb) (hbb : ∀ x : Str, x ≠ "__name__" → mb x = bootBuiltins x) (hlim : s₁.heap.NoLimit) (hg : s₁.gens = #[])
    (ha : s₁.heap.get? a = some { cls := .type "list", data := .seq vs.toArray }) (hi : IntsAre vs ns) (hl : ns.length ≤ sizeLine) (hr : Room k callerA)
    (F : ∀ base : Heap, K.In base → base.Ns mainGlobals mg → FnG P w K mg base k fa fd [x] sp) (hbind : ∀ (s : Shared) (u : Value), BindsTo s fd ⟨[u], []⟩ [(x, u)])
    (hsp : ∀ H : Hp, SqL K H a (ns.map V.int) → sp [.ref a] H (fun v _ => v = .bl true) fun _ _ _ => False) :
    codeAny (model P w) callerA (.call (.ref fa) ⟨[.ref a], []⟩) (fun r s' => r = .ok (.ret (.bool true)) ∧ OldK s₁.heap s'.heap ∧ s'.os = s₁.os ∧ AllBare s'.gens) s₁ := by
  -- the script alone is tracked, as it is, or nothing
  have from_ : ∀ H : Hp, SqL K H a (ns.map V.int) → HOk P w H s₁.heap → (∀ b u, H b = some u → b = a ∧ K.lookup a = none ∧ ∃ o xs, u = .frz o (.lst xs)) →
      codeAny (model P w) callerA (.call (.ref fa) ⟨[.ref a], []⟩) (fun r s' => r = .ok (.ret (.bool true)) ∧ OldK s₁.heap s'.heap ∧ s'.os = s₁.os ∧ AllBare s'.gens) s₁ := by
    intro H hS hok hA
    have off : ∀ b, (b = a → K.lookup a ≠ none) → H b = none := fun b n => by
      cases q : H b with
      | none => rfl
      | some u => exact absurd (hA b u q).2.1 (n (hA b u q).1)
    have nsK : ∀ {b : Addr} {m : Str → Option Value}, s₁.heap.Ns b m → (hidT s₁.heap H).Ns b m := by
      rintro b m ⟨o, es, ep, e, d, r⟩
      refine ⟨o, es, ep, hidT_get e (off b fun z => ?_), d, r⟩
      subst z
      rw [ha] at e
      cases e
      cases d
    have inK : K.In (hidT s₁.heap H) := fun b o e => hidT_get (KX b o e) (off b fun z => by rw [← z, e]; simp)
    have hM : Mod K mg (hidT s₁.heap H) := ⟨inK, nsK hns, ⟨mb, nsK hb, hbb⟩, by obtain ⟨mc, h1, h2⟩ := hlim; exact ⟨mc, nsK h1, h2⟩⟩
    have nofr : ∀ b : Addr, b ∉ frs ([] : List Env) := fun b z => nomatch z
    have e0 : Env0 P w K mg (hidT s₁.heap H) callerA [] s₁ H := ⟨rfl, hM, fun b o e => of_hidT e, Nat.le_of_eq (hidT_size _ _), trivial, fun b z => absurd z (nofr b), hok, .of_eq hg⟩
    refine codeAny_mono ((F _ inK (nsK hns)).run callerA [] s₁ H ⟨[.ref a], []⟩ [.ref a] [.ref a] _ _ rfl hr e0 (hbind s₁ (.ref a)) (.cons rfl .nil) (hsp H hS)) fun r s' h => ?_
    match r, h with
    | .error e, h => exact False.elim h
    | .ok .next, h => exact False.elim h
    | .ok .brk, h => exact False.elim h
    | .ok .cont, h => exact False.elim h
    | .ok (.ret u), ⟨v, H', os, bare, un, hok', r', q⟩ =>
      cases (show v = .bl true from q)
      cases (show u = Value.bool true from r')
      refine ⟨rfl, OldK.of_keep fun b o e => ?_, os, bare⟩
      cases q : H b with
      | none => exact un.keep b o e q (nofr b) (by simp)
      | some u =>
        obtain ⟨_, _, ob, xs, rfl⟩ := hA b u q
        have e1 := (hok b _ q).1
        have e2 := (hok' b _ (un.frzs b ob _ q)).1
        rw [e] at e1
        cases e1
        exact e2
  have rv := vals_ints hi
  cases hk : K.lookup a with
  | some o =>
    have e := KX a o hk
    rw [ha] at e
    cases e
    exact from_ (fun _ => none) (.inr ⟨_, vs.toArray, _, hk, rfl, rfl, rfl, by rw [List.size_toArray, hi.length]; exact hl, by simpa using rv⟩) (fun b u z => nomatch z) (fun b u z => nomatch z)
  | none =>
    have at_ : ∀ (b : Addr) (u : HO), (if b = a then some (HO.frz { cls := .type "list", data := .seq vs.toArray } (.lst (ns.map V.int))) else none) = some u → b = a ∧ u = HO.frz { cls := .type "list", data := .seq vs.toArray } (.lst (ns.map V.int)) := fun b u z => by
      by_cases h : b = a
      · rw [if_pos h] at z
        exact ⟨h, (Option.some.inj z).symm⟩
      · rw [if_neg h] at z
        cases z
    refine from_ (fun b => if b = a then some (.frz { cls := .type "list", data := .seq vs.toArray } (.lst (ns.map V.int))) else none) (.inl (.inr ⟨{ cls := .type "list", data := .seq vs.toArray }, if_pos rfl⟩)) (fun b u z => ?_) (fun b u z => ?_)
    · obtain ⟨rfl, rfl⟩ := at_ b u z
      exact ⟨ha, by rw [List.length_map]; exact hl, vs, _, rv, ha⟩
    · obtain ⟨rfl, rfl⟩ := at_ b u z
      exact ⟨rfl, hk, _, _, rfl⟩
/-- a law: F gives the written part, the function object, the promise over every base -/
theorem walkG {l : PySem.W.OpenLaw} {n k : Nat} {q : Program} {loose : List Str} {XP : (Str → Option Value) → Heap → Prop} {YP : World → Heap → Prop} {d : DefRec} {x : Str} (hn : l.most = some n) (hn2 : n ≤ sizeLine) (hdf : d.params.defaults = []) (hr : Room k callerA)
    (F : ∀ (w : World) (mg : Str → Option Value) (fa : Addr) (h : Heap), YP w h → h.Ns mainGlobals mg → mg d.name = some (.ref fa) →
      ∃ (K : PySem.W.Frag) (fd : FuncData) (sp : Sp), K.In h ∧ (∀ (s : Shared) (u : Value), BindsTo s fd ⟨[u], []⟩ [(x, u)]) ∧
        (∀ (H : Hp) (a : Addr) (ns : List Int), ns.length ≤ n → SqL K H a (ns.map V.int) → sp [.ref a] H (fun v _ => v = .bl true) fun _ _ _ => False) ∧
        ∀ base : Heap, K.In base → base.Ns mainGlobals mg → FnG l.prog w K mg base k fa fd [x] sp) : PySem.W.WalkO q loose XP YP l.row.toRowW d [] (fun f vs => PySem.call f vs) := by
  refine Att.attach_call hn hdf fun w s₀ s₁ mg mb fa o pm cd doc a vs ns G Y ho hd hcd hmg hobj hints hlen hg => ?_
  obtain ⟨K, fd, sp, KX, hb, hsp, hF⟩ := F w mg fa _ Y G.T.g hmg
  exact lawG KX G.T.g G.T.b G.T.builtins G.T.nolimit hg hobj hints (Nat.le_trans hlen hn2) hr hF hb fun H hS => hsp H a ns hlen hS
end GL
set_option Elab.async false
set_option linter.all false
set_option maxRecDepth 100000
set_option maxHeartbeats 4000000
namespace K03
open PySem PySem.Spec PyProof.Rows L2
open C8 (Cal Mak Met pe_c pe_mk pe_mt pe_mt0)
open KM (pr Sz)
open SX (S)
theorem rpS_len {r : Rat} {n : Nat} (sr : Sz n r) (n0 : 0 < n) (n9 : n ≤ 1900) : (rpS r).length ≤ 2 * n + 10 := by
  have k1 : (TX.intL r.num).length ≤ n + 1 := TX.intL_pow sr.1 n0
  have k2 := TX.numL_pow sr.2 n0
  have t1 : Str.ofString (toString (pr r).1) = SX.S (TX.intL r.num) := TX.tl_int r.num
  have t2 : Str.ofString (toString (pr r).2) = SX.S (TL.numL r.den) := SX.num_S r.den
  have c1 : Str.empty ++ Str.ofString "Share(" = SX.S [83, 104, 97, 114, 101, 40] := by decide +kernel
  have c2 : Str.ofString ", " = SX.S [44, 32] := by decide +kernel
  have c3 : Str.ofString ")" = SX.S [41] := by decide +kernel
  unfold rpS
  rw [c1, t1, c2, t2, c3, SX.S_cat, SX.S_cat, SX.S_cat, SX.S_cat, SX.S_len]
  simp
  omega
theorem dp_pl {K : PySem.W.Frag} {H : Hp} : ∀ ps : List (Addr × Rat), (∀ x ∈ ps, H x.1 = some (tupP (pr x.2))) → DpAll K H (ps.map fun x => V.ref x.1) ((ps.map fun x => pr x.2).map DQ.pD)
  | [], _ => .nil
  | x :: ps, h => .cons (DQ.dp_pair (h x List.mem_cons_self)) (dp_pl ps fun y hy => h y (List.mem_cons_of_mem _ hy))
theorem lt_le2 (t : Str) : (listText [t, t]).length ≤ 2 * t.length + 10 := by
  have h := textFrom_len_le [t, t] 0 "["
  unfold listText
  rw [PySem.strLen_append]
  have e2 : ((("]" : String) : Str)).length = 1 := rfl
  have e1 : ((("[" : String) : Str)).length = 1 := rfl
  rw [e1] at h
  rw [e2]
  simp only [List.map_cons, List.map_nil, List.sum_cons, List.sum_nil, List.length_cons, List.length_nil] at h
  omega
section
variable {P : Program} {w : World} {K : PySem.W.Frag} {mg : Str → Option Value} {base : Heap} {f fG C : Addr} {fd fdG : FuncData}
def spGRt (C : Addr) : Sp := fun vs H Q _ => ∃ (h l pl : Addr) (c : Nat) (L ps : List (Addr × Rat)), vs = [.ref h, .ref l, .ref pl] ∧ Held H h (c + 2) ∧ SL C H l L ∧ PL H pl ps ∧ ratsOf L = ratsOf ps ∧ L.length ≤ 20 ∧ (∀ x ∈ L, Sz 50 x.2) ∧ (∀ x ∈ ps, Sz 50 x.2) ∧
  ∀ H', Held H' h c → Kp h H H' → Q (.bl true) H'
theorem ok_grt (F : Dn K d_l_greatest_right f fd) (bl : Bl mg) (brep : mg "repr" = none) (M1 : MakS1 P w K mg base C) (cD : CalD P w K mg base) (cP : Cal P w K mg base 1 "_law_pair" (spPair C) []) (SE : OW.Spc P w K mg base 1 C "__eq__" (spEq C)) (SR : OW.Spc P w K mg base 1 C "__repr__" (spStr C rpS))
    (cG0 : Cal P w K mg base 2 "greatest" (spGr K C) [.non]) (cG : Cal P w K mg base 2 "greatest" (spGr K C) [])
    (FG : FnOk P w K mg base CX0 2 fG fdG ["shares", "none"] (spGr K C)) (gG : mg "greatest" = some (.ref fG)) (kG : PySem.W.keepIn K (.ref fG) = true) (k1 : KBn K fdG ["shares", "none"] 1 ["none"] (fun us ws => us ++ ws) (fun vs zs => vs ++ zs)) :
    GL.FnG P w K mg base 6 f fd ["_law_held_here", "_law_some", "_law_pairs"] (spGRt C) := by
  refine GL.okG F sc_l_greatest_right (fun vs H Q E h => ?_) (fun cdv A outer s H vs Q E hgd hr h => ?_)
  · obtain ⟨h, l, pl, c, L, ps, rfl, _⟩ := h
    rfl
  · obtain ⟨h, l, pl, c, L, ps, rfl, held, hS, hP, er, ll, zL, zp, hQ⟩ := h
    have hu64 : (A.deeper (envOfC d_l_greatest_right.qual d_l_greatest_right.scope s.heap.objs.size f cdv)).units + 64 < cLine := by have := hr.un; omega
    refine ⟨_, PSs.nox (C8.pss_cut (ps_set (i := 3) sc_l_greatest_right.nd rfl (.inl rfl) (pe_ix ix_list (pe_lst (pa_cons pe_non (pa_cons pe_int (pa_cons pe_str (pa_cons (pe_tup pa_nil) (pa_cons (pe_mk M1 hr (by decide) rfl (pa_cons pe_int pa_nil)) pa_nil)))))) (pe_c cD hr (by decide) rfl (pa_cons (pv 0) (pa_cons pe_int pa_nil))) (fun _ _ => rfl)))
      (pss_cons (ps_set (i := 4) sc_l_greatest_right.nd rfl (.inl rfl) (pe_lst (pa_cons (pe_c cG0 hr (by decide) rfl (pa_cons (pv 1) pa_nil)) (pa_cons (pe_c cG hr (by decide) rfl (pa_cons (pv 1) (pa_cons (pv 3) pa_nil))) (pa_cons (pe_callN (E := E0) FG (hr.mono (by decide)) rfl gG kG k1 (fun _ _ _ _ _ _ _ h => False.elim h) (pa_cons (pv 1) pa_nil) (pk_cons (pv 3) pk_nil)) pa_nil)))))
      (pss_cons (ps_if (pt_cmpR (op_eqD hu64) (pv 2) (pe_lst pa_nil) (nomark _))
        (pss_one (ps_ret (pe_and (pe_cmpR op_isN1 (pe_ix ix_list (pv 4) pe_int (fun _ _ => rfl)) pe_non (nomark _)) (pe_one (pe_cmpR op_eq (pe_callB (RPO.call_reprL (n := 1) hgd (hr.mono (by decide))) rfl brep boot_repr (pa_cons (pe_slice sl_list (pv 4) (po_some pe_int) po_none) pa_nil)) (pe_callB (RPO.call_reprL (n := 1) hgd (hr.mono (by decide))) rfl brep boot_repr (pa_cons (pe_lst (pa_cons (pv 3) (pa_cons (pv 3) pa_nil))) pa_nil)) (nomark _)))))) pss_nil)
      (pss_cons (ps_set (i := 5) sc_l_greatest_right.nd rfl (.inr rfl) (pe_c cP hr (by decide) rfl (pa_cons (pe_ix ix_list (pv 4) pe_int (fun _ _ => rfl)) pa_nil)))
      (pss_cons (ps_if (pt_cmpR op_isN1 (pv 5) pe_non (nomark _)) pss_never pss_nil)
      (C8.pss_cut (ps_setLc (i := 6) (own := [("_law_pair_here", 7)]) (g := gName 7) rfl sc_l_greatest_right.nd rfl rfl (sw_true rfl rfl rfl (by decide +kernel)) (pi_list (pv 2)) (blkOk_by (N := N_l_greatest_right) (sc := defScope s_l_greatest_right) (by decide +kernel))
          (fun _ _ _ _ _ => pg_name (i := 7) sc_l_greatest_right.nd rfl (Or.inl rfl)) (fun _ _ _ _ _ => pts_one (pt_cmpR op_lt (pe_op op_mulW (pe_ix (r := rIxT K) ix_tup (pv 5) pe_int (fun _ _ => rfl)) (pe_ix (r := rIxT K) ix_tup (pv 7) pe_int (fun _ _ => rfl))) (pe_op op_mulW (pe_ix (r := rIxT K) ix_tup (pv 7) pe_int (fun _ _ => rfl)) (pe_ix (r := rIxT K) ix_tup (pv 5) pe_int (fun _ _ => rfl))) (nomark _))) (fun _ _ _ _ _ => pv 7))
      (pss_one (ps_ret (pe_and (pe_cmpR (op_eqD hu64) (pv 6) (pe_lst pa_nil) (nomark _)) (pe_and (pe_cmpR (INO.op_inO SE (hr.mono (by decide))) (pe_ix ix_list (pv 4) pe_int (fun _ _ => rfl)) (pv 1) rfl)
        (pe_and (pe_cmpR (OW.op_eqO SE (hr.mono (by decide))) (pe_ix ix_list (pv 4) pe_int (fun _ _ => rfl)) (pe_ix ix_list (pv 4) pe_int (fun _ _ => rfl)) (nomark _)) (pe_one (pe_cmpR (OW.op_eqO SE (hr.mono (by decide))) (pe_ix ix_list (pv 4) pe_int (fun _ _ => rfl)) (pe_ix ix_list (pv 4) pe_int (fun _ _ => rfl)) (nomark _)))))))))))))), ?_⟩
    refine ⟨fun σ' H' => ∃ ov : V, σ' = [some (.ref h), some (.ref l), some (.ref pl), some ov, none, none, none, none] ∧ Held H' h c ∧ Kp h H H' ∧ SL C H' l L ∧ PL H' pl ps ∧ ∃ t : Str, t.length ≤ 200 ∧ ∀ (H2 : Hp) (a : Addr), Same H' H2 → H' a = none → RPO.RpU (cxOf CX0 P w K mg base N_l_greatest_right d_l_greatest_right.qual d_l_greatest_right.scope f cdv A outer s H E).nox 1 [a] H2 ov t, ?_, ?_⟩
    · refine ⟨by show 0 ≤ sizeLine; decide, fun tp ftp => ?_⟩
      have s1 := same_new (o := .tup []) ftp
      have htp : (upd H tp (.tup [])) tp = some (.tup []) := upd_same
      generalize upd H tp (.tup []) = H1 at s1 htp
      intro t dt nt ndt ne
      refine mk_in (n := 1) nt ndt (by decide) (by decide) (by decide) (by decide) fun H2 s2 ht => ⟨rfl, ?_⟩
      refine ⟨by show 5 ≤ sizeLine; decide, fun q fq => ?_⟩
      have s3 := same_new (o := .lst [.non, .int 0, .str "none", .ref tp, .ref t]) fq
      have hq : (upd H2 q (.lst [.non, .int 0, .str "none", .ref tp, .ref t])) q = some (.lst [.non, .int 0, .str "none", .ref tp, .ref t]) := upd_same
      have s03 := s1.trans (s2.trans s3)
      have htp3 := s3 _ _ (s2 _ _ htp)
      have ht3 := ht.keep s3
      generalize upd H2 q (.lst [.non, .int 0, .str "none", .ref tp, .ref t]) = H3 at hq s03 htp3 ht3
      have held3 := held.same s03
      refine ⟨_, rfl, h, c, 5, rfl, held3.weak (by omega), by decide, by decide, fun r H4 r0 r1 held4 k4 => ?_⟩
      have hq4 := k4.1 _ _ hq (held3.no hq fun kvs e => by cases e)
      have htp4 := k4.1 _ _ htp3 (held3.no htp3 fun kvs e => by cases e)
      have ht4 : Sh C H4 t (pr (Rat.divInt 7 1)) := let ⟨dx, e⟩ := ht3; ⟨dx, k4.1 _ _ e (held3.no e fun kvs e => by cases e)⟩
      have k04 := (Kp.same s03).trans k4
      have S4 := hS.kp held k04
      have P4 := hP.kp held k04
      have fin : ∀ (i : Nat) (ov : V), r = i → [V.non, .int 0, .str "none", .ref tp, .ref t][i]? = some ov → (∃ t : Str, t.length ≤ 200 ∧ ∀ (H2 : Hp) (a : Addr), Same H4 H2 → H4 a = none → RPO.RpU (cxOf CX0 P w K mg base N_l_greatest_right d_l_greatest_right.qual d_l_greatest_right.scope f cdv A outer s H E).nox 1 [a] H2 ov t) →
          ∃ (p : Addr) (xs : List V) (i : Int) (v : V), V.ref q = V.ref p ∧ V.int r = V.int i ∧ SqL K H4 p xs ∧ atI xs i = some v ∧ ∃ ov : V, [some (V.ref h), some (.ref l), some (.ref pl), some v, none, none, none, none] = [some (V.ref h), some (.ref l), some (.ref pl), some ov, none, none, none, none] ∧ Held H4 h c ∧ Kp h H H4 ∧ SL C H4 l L ∧ PL H4 pl ps ∧ ∃ t : Str, t.length ≤ 200 ∧ ∀ (H2 : Hp) (a : Addr), Same H4 H2 → H4 a = none → RPO.RpU (cxOf CX0 P w K mg base N_l_greatest_right d_l_greatest_right.qual d_l_greatest_right.scope f cdv A outer s H E).nox 1 [a] H2 ov t := fun i ov er' hi ht => by
        subst er'
        exact ⟨q, _, _, ov, rfl, rfl, SqL.of hq4, atI_nat hi, ov, rfl, held4, k04, S4, P4, ht⟩
      have nd : ∀ {H2 : Hp} {a p : Addr} {o : HO}, H4 p = some o → H4 a = none → p ∉ [a] := fun {H2 a p o} e f m => by
        rw [List.mem_singleton.mp m, f] at e
        cases e
      rcases (show r = (0 : Nat) ∨ r = (1 : Nat) ∨ r = (2 : Nat) ∨ r = (3 : Nat) ∨ r = (4 : Nat) by omega) with e | e | e | e | e
      · exact fin 0 _ e rfl ⟨"None", by decide, fun H2 a _ _ => .non⟩
      · exact fin 1 _ e rfl ⟨Str.ofString (toString (0 : Int)), by decide +kernel, fun H2 a _ _ => .int (by decide)⟩
      · exact fin 2 _ e rfl ⟨reprText "none", by decide +kernel, fun H2 a _ _ => .str⟩
      · exact fin 3 _ e rfl ⟨tupleText [], by decide +kernel, fun H2 a sm fa => RPO.RpU.tup (n := 0) (sm _ _ htp4) (nd (H2 := H2) htp4 fa) .nil⟩
      · have z7 : Sz 3 (Rat.divInt 7 1) := KM.sz_of_low (by decide) (by decide) (by decide)
        refine fin 4 _ e rfl ⟨rpS (Rat.divInt 7 1), by have := rpS_len z7 (by decide) (by decide); omega, fun H2 a sm fa => ?_⟩
        obtain ⟨dx, hp⟩ := ht4
        exact RPO.RpU.own SR (sm _ _ hp) (nd (H2 := H2) hp fa) (fun H' hp' => ⟨t, _, 3, rfl, ⟨dx, hp'⟩, z7, by decide, by decide, rfl, fun a o e => e⟩) (Nat.le_refl 1)
    rintro σ' H1 ⟨ov, rfl, held1, k1', S1, P1, t, tl, hrp⟩
    have lps : ps.length = L.length := by
      have := congrArg List.length er
      unfold ratsOf at this
      rw [List.length_map, List.length_map] at this
      omega
    by_cases hL : L = []
    · subst hL
      have hps : ps = [] := List.length_eq_zero_iff.mp lps
      subst hps
      refine ⟨_, rfl, l, [], .non, rfl, S1.sh, zL, fun _ => ?_, fun y hy => (nomatch hy)⟩
      refine ⟨_, rfl, _, rfl, l, [], ov, rfl, S1.sh, zL, fun _ => ?_, fun y hy => (nomatch hy)⟩
      refine ⟨_, rfl, _, rfl, rfl, rfl, l, [], ov, rfl, S1.sh, zL, fun _ => ?_, fun y hy => (nomatch hy)⟩
      refine ⟨by show 3 ≤ sizeLine; decide, fun fl ffl => ?_⟩
      have s2 := same_new (o := .lst [.non, ov, ov]) ffl
      have hfl : (upd H1 fl (.lst [.non, ov, ov])) fl = some (.lst [.non, ov, ov]) := upd_same
      generalize upd H1 fl (.lst [.non, ov, ov]) = H2 at s2 hfl
      refine ⟨_, rfl, by show 0 ≤ sizeLine; decide, fun e fe => ?_⟩
      have s3 := same_new (o := .lst []) fe
      refine ⟨_, _, Dp.lst (SqL.of (s3 _ _ (s2 _ _ P1.1))) (DQ.dp_strs []), Dp.lst (SqL.of upd_same) (DQ.dp_strs []), rfl, rfl, _, rfl, ?_⟩
      rw [DQ.eq_strs []]
      refine iteT ?_
      have hfl3 := s3 _ _ hfl
      have s13 := s2.trans s3
      generalize upd H2 e (.lst []) = H3 at s3 hfl3 s13
      refine ⟨_, rfl, fl, _, 0, .non, rfl, rfl, SqL.of hfl3, atI_nat (j := 0) rfl, rfl, _, rfl, ?_⟩
      refine ite2 (fun _ => ?_) (fun q => absurd rfl q)
      refine ⟨_, rfl, _, rfl, fl, _, rfl, SqL.of hfl3, fun sl fsl => ?_⟩
      have s4 := same_new (o := .lst [ov, ov]) fsl
      refine ⟨sl, [ov, ov], [t, t], rfl, upd_same, by simp, ?_, ?_, fun H4 x4 => ?_⟩
      · have g := hrp (upd H3 sl (.lst [ov, ov])) sl (s13.trans s4) (s13.free fsl)
        exact .cons g (.cons g .nil)
      · have := lt_le2 t
        have := sizeLine_eq
        omega
      · have s14 : Same H1 H4 := (s13.trans s4).trans x4
        refine ⟨_, rfl, _, rfl, by show 2 ≤ sizeLine; decide, fun e2 fe2 => ?_⟩
        have s5 := same_new (o := .lst [ov, ov]) fe2
        refine ⟨e2, [ov, ov], [t, t], rfl, upd_same, by simp, ?_, ?_, fun H5 x5 => ?_⟩
        · have g := hrp (upd H4 e2 (.lst [ov, ov])) e2 (s14.trans s5) (s14.free fe2)
          exact .cons g (.cons g .nil)
        · have := lt_le2 t
          have := sizeLine_eq
          omega
        · have s15 : Same H1 H5 := (s14.trans s5).trans x5
          refine ⟨rfl, ?_⟩
          have et : decide (V.str (listText [t, t]) = V.str (listText [t, t])) = true := by simp
          rw [et]
          exact hQ H5 (held1.same s15) (k1'.trans (Kp.same s15))
    · have hpos : 0 < L.length := List.length_pos_iff.mpr hL
      refine ⟨_, rfl, l, L, .non, rfl, S1.sh, zL, fun q => absurd q hL, fun y1 hy1 m1 => ?_⟩
      refine ⟨_, rfl, _, rfl, l, L, ov, rfl, S1.sh, zL, fun q => absurd q hL, fun y2 hy2 m2 => ?_⟩
      refine ⟨_, rfl, _, rfl, rfl, rfl, l, L, ov, rfl, S1.sh, zL, fun q => absurd q hL, fun y3 hy3 m3 => ?_⟩
      refine ⟨by show 3 ≤ sizeLine; decide, fun fl ffl => ?_⟩
      have s2 := same_new (o := .lst [.ref y1.1, .ref y2.1, .ref y3.1]) ffl
      have hfl : (upd H1 fl (.lst [.ref y1.1, .ref y2.1, .ref y3.1])) fl = some (.lst [.ref y1.1, .ref y2.1, .ref y3.1]) := upd_same
      generalize upd H1 fl (.lst [.ref y1.1, .ref y2.1, .ref y3.1]) = H2 at s2 hfl
      refine ⟨_, rfl, by show 0 ≤ sizeLine; decide, fun e fe => ?_⟩
      have s3 := same_new (o := .lst []) fe
      have P3 := P1.same (s2.trans s3)
      refine ⟨_, _, Dp.lst (SqL.of P3.1) (dp_pl ps P3.2), Dp.lst (SqL.of upd_same) (DQ.dp_strs []), DQ.sh_pairs _, rfl, _, rfl, ?_⟩
      have ef : PyData.eqv (.list ((ps.map fun x => pr x.2).map DQ.pD)) (.list ([].map PyData.str)) = false := by
        cases ps with
        | nil => simp at lps; omega
        | cons p ps => simp [PyData.eqv, PyData.eqvAll]
      rw [ef]
      refine iteF ?_
      have hfl3 := s3 _ _ hfl
      have s13 := s2.trans s3
      generalize upd H2 e (.lst []) = H3 at s3 hfl3 s13 P3
      refine ⟨_, rfl, fl, _, 0, .ref y1.1, rfl, rfl, SqL.of hfl3, atI_nat (j := 0) rfl, y1.1, _, rfl, (S1.2 y1 hy1).keep s13, fun b H4 s4 fb hb => ?_⟩
      refine ⟨_, rfl, rfl, _, rfl, ?_⟩
      refine iteF ?_
      have hfl4 := s4 _ _ hfl3
      have s14 := s13.trans s4
      have P4 := P1.same s14
      have szb : Sz 50 y1.2 := zL y1 hy1
      have le1 : ∀ x ∈ ps, x.2 ≤ y1.2 := fun x hx => by
        have h1 : x.2 ∈ ratsOf L := by
          rw [er]
          exact List.mem_map.mpr ⟨x, hx, rfl⟩
        obtain ⟨z, hz, e⟩ := List.mem_map.mp h1
        rw [← e]
        exact m1 z hz
      refine ⟨fun σ' H' => ∃ (ab : Addr) (v7 : Option V), σ' = [some (.ref h), some (.ref l), some (.ref pl), some ov, some (.ref fl), some (.ref b), some (.ref ab), v7] ∧ Same H4 H' ∧ H' ab = some (.lst []), ?_, ?_⟩
      · refine ⟨_, rfl, pl, rfl, ⟨_, SqL.of P4.1⟩, fun D hD => lc_list (K := K) (xs := ps.map fun x => V.ref x.1) (fun i H' => H' D = some (.lst []) ∧ Same H4 H') ⟨upd_same, same_new hD⟩ (fun i H' _ z => SqL.of (z.2 _ _ P4.1)) ?_ ?_⟩
        · rintro i v H5 hi ⟨hD5, s5⟩
          rw [List.getElem?_map] at hi
          obtain ⟨x, hx, rfl⟩ := Option.map_eq_some_iff.mp hi
          have hm := List.mem_of_getElem? hx
          have hx5 := s5 _ _ (P4.2 x hm)
          have hb5 := s5 _ _ hb
          have szx := zp x hm
          have sdx : (pr x.2).2.natAbs < 2 ^ 50 := by have := szx.2; show ((x.2).den : Int).natAbs < 2 ^ 50; omega
          have sdb : (pr y1.2).2.natAbs < 2 ^ 50 := by have := szb.2; show ((y1.2).den : Int).natAbs < 2 ^ 50; omega
          refine ⟨rfl, _, rfl, b, _, _, _, rfl, rfl, SqT.of hb5, atI_nat (j := 0) rfl, _, rfl, x.1, _, _, _, rfl, rfl, SqT.of hx5, atI_nat (j := 1) rfl, _, _, rfl, rfl, wide_mul szb.1 sdx (by decide) (by decide) (by decide), _, rfl, x.1, _, _, _, rfl, rfl, SqT.of hx5, atI_nat (j := 0) rfl, _, rfl, b, _, _, _, rfl, rfl, SqT.of hb5, atI_nat (j := 1) rfl, _, _, rfl, rfl, wide_mul szx.1 sdb (by decide) (by decide) (by decide), _, _, rfl, rfl, _, rfl, ?_⟩
          refine ite2 (fun q => ?_) (fun _ => ⟨hD5, s5⟩)
          have q : y1.2 < x.2 := (KM.pr_lt _ _).mp (of_decide_eq_true q)
          have := le1 x hm
          exfalso
          grind
        · rintro H5 ⟨hD5, s5⟩
          exact ⟨D, _, rfl, s5, hD5⟩
      rintro σ' H5 ⟨ab, v7, rfl, s5, hab⟩
      refine ⟨_, rfl, by show 0 ≤ sizeLine; decide, fun e2 fe2 => ?_⟩
      have s6 := same_new (o := .lst []) fe2
      refine ⟨_, _, Dp.lst (SqL.of (s6 _ _ hab)) (DQ.dp_strs []), Dp.lst (SqL.of upd_same) (DQ.dp_strs []), rfl, rfl, ?_⟩
      rw [DQ.eq_strs []]
      have s16 := s14.trans (s5.trans s6)
      have hfl6 := s6 _ _ (s5 _ _ hfl4)
      generalize upd H5 e2 (.lst []) = H6 at s16 hfl6
      refine ⟨_, rfl, iteT ?_⟩
      have S6 := S1.same s16
      have esp : ∀ {H' : Hp}, Same H1 H' → ∀ (y z : Addr × Rat), y ∈ L → z ∈ L → spEq C [.ref y.1, .ref z.1] H' (fun v H'' => ∃ z, v = .bl z ∧ Ext H' H'') E0 := fun {H'} sm y z hy hz => ⟨y.1, z.1, y.2, z.2, rfl, (S1.2 y hy).keep sm, (S1.2 z hz).keep sm, _, rfl, Ext.rfl'⟩
      refine ⟨_, rfl, fl, _, 0, .ref y1.1, rfl, rfl, SqL.of hfl6, atI_nat (j := 0) rfl, _, rfl, l, y1.1, L.map (·.1), rfl, rfl, ⟨?_, List.mem_map.mpr ⟨y1, hy1, rfl⟩, ?_, ?_⟩, fun H7 x7 => ?_⟩
      · rw [S6.1, List.map_map]
        rfl
      · intro z hz
        obtain ⟨y, hy, rfl⟩ := List.mem_map.mp hz
        obtain ⟨dx, e⟩ := S6.2 y hy
        exact ⟨dx, _, e⟩
      · intro H' ex z hz
        obtain ⟨y, hy, rfl⟩ := List.mem_map.mp hz
        exact esp (s16.trans ex) y y1 hy hy1
      · have s17 : Same H1 H7 := s16.trans x7
        have hfl7 := x7 _ _ hfl6
        have S7 := S1.same s17
        obtain ⟨d1, g1⟩ := S7.2 y1 hy1
        obtain ⟨d2, g2⟩ := S7.2 y2 hy2
        obtain ⟨d3, g3⟩ := S7.2 y3 hy3
        have e21 : y2.2 = y1.2 := by
          have := m1 y2 hy2
          have := m2 y1 hy1
          grind
        have e31 : y3.2 = y1.2 := by
          have := m1 y3 hy3
          have := m3 y1 hy1
          grind
        refine ⟨_, rfl, iteT ?_⟩
        refine ⟨_, rfl, fl, _, 1, .ref y2.1, rfl, rfl, SqL.of hfl7, atI_nat (j := 1) rfl, _, rfl, fl, _, 0, .ref y1.1, rfl, rfl, SqL.of hfl7, atI_nat (j := 0) rfl, y2.1, d2, _, y1.1, d1, _, rfl, rfl, g2, g1, y2.1, y1.1, y2.2, y1.2, rfl, ⟨d2, g2⟩, ⟨d1, g1⟩, _, rfl, ?_⟩
        rw [decide_eq_true e21]
        refine ⟨_, rfl, iteT ?_⟩
        refine ⟨_, rfl, fl, _, 2, .ref y3.1, rfl, rfl, SqL.of hfl7, atI_nat (j := 2) rfl, _, rfl, fl, _, 0, .ref y1.1, rfl, rfl, SqL.of hfl7, atI_nat (j := 0) rfl, y3.1, d3, _, y1.1, d1, _, rfl, rfl, g3, g1, y3.1, y1.1, y3.2, y1.2, rfl, ⟨d3, g3⟩, ⟨d1, g1⟩, _, rfl, ?_⟩
        rw [decide_eq_true e31]
        exact hQ H7 (held1.same s17) (k1'.trans (Kp.same s17))
end
end K03
set_option Elab.async false
set_option linter.all false
set_option maxRecDepth 100000
set_option maxHeartbeats 4000000
namespace K03
open PySem PySem.Spec PyProof.Rows L2
open C8 (Cal Mak Met pe_c pe_mk pe_mt pe_mt0)
open KM (pr Sz)
open SX (S)
/-- who stands ahead of x -/
def Bf (ρ : Str → Rat) (x z : Str) : Bool := decide (ρ z < ρ x) || (decide (ρ z = ρ x) && decide (IO.slt z x))
theorem bf_iff {ρ : Str → Rat} {x z : Str} : Bf ρ x z = true ↔ ρ z < ρ x ∨ (ρ z = ρ x ∧ IO.slt z x) := by
  unfold Bf
  simp
theorem bf_down {ρ : Str → Rat} {x z y : Str} (l : IO.le ρ z y) (b : Bf ρ x y = true) : Bf ρ x z = true := by
  rw [bf_iff] at b ⊢
  rcases l with l | ⟨l, l2⟩
  · rcases b with b | ⟨b, _⟩
    · exact .inl (by grind)
    · exact .inl (by grind)
  · rcases b with b | ⟨b, b2⟩
    · exact .inl (by grind)
    · refine .inr ⟨by grind, ?_⟩
      by_cases h : IO.slt z x
      · exact h
      · exact absurd b2 (IO.slt_trans_not h l2)
theorem bf_le {ρ : Str → Rat} {x z : Str} (b : Bf ρ x z = true) : IO.le ρ z x := by
  rw [bf_iff] at b
  rcases b with b | ⟨b, b2⟩
  · exact .inl b
  · exact .inr ⟨b, fun h => List.lt_asymm b2 h⟩
theorem nbf_le {ρ : Str → Rat} {x z : Str} (b : Bf ρ x z ≠ true) : IO.le ρ x z := by
  rw [ne_eq, bf_iff] at b
  unfold IO.le
  by_cases h : ρ x < ρ z
  · exact .inl h
  · refine .inr ⟨by grind, fun h2 => b (.inr ⟨by grind, h2⟩)⟩
theorem put_cnt {ρ : Str → Rat} {x : Str} : ∀ {zs : List Str}, zs.Pairwise (IO.le ρ) → (zs.take (zs.countP (Bf ρ x)) ++ [x] ++ zs.drop (zs.countP (Bf ρ x))).Pairwise (IO.le ρ)
  | [], _ => List.pairwise_singleton _ _
  | z :: r, h => by
    obtain ⟨h1, h2⟩ := List.pairwise_cons.mp h
    by_cases b : Bf ρ x z = true
    · rw [List.countP_cons_of_pos b]
      have ih := put_cnt (x := x) h2
      rw [List.take_succ_cons, List.drop_succ_cons, List.cons_append, List.cons_append]
      refine List.pairwise_cons.mpr ⟨fun y hy => ?_, ih⟩
      rcases List.mem_append.mp hy with hy | hy
      · rcases List.mem_append.mp hy with hy | hy
        · exact h1 y (List.mem_of_mem_take hy)
        · rw [List.mem_singleton.mp hy]
          exact bf_le b
      · exact h1 y (List.mem_of_mem_drop hy)
    · have c0 : (z :: r).countP (Bf ρ x) = 0 := by
        rw [List.countP_eq_zero]
        intro y hy
        rcases List.mem_cons.mp hy with e | hy
        · rw [e]
          exact b
        · exact fun q => b (bf_down (h1 y hy) q)
      rw [c0]
      refine List.pairwise_cons.mpr ⟨fun y hy => ?_, h⟩
      rcases List.mem_cons.mp hy with e | hy
      · rw [e]
        exact nbf_le b
      · exact nbf_le fun q => b (bf_down (h1 y hy) q)
theorem put_perm' {zs : List Str} {x : Str} (j : Nat) : (zs.take j ++ [x] ++ zs.drop j).Perm (x :: zs) := IO.put_perm j
section
variable {P : Program} {w : World} {K : PySem.W.Frag} {mg : Str → Option Value} {base : Heap} {f C : Addr} {fd : FuncData}
def spSo : Sp := fun vs H Q _ => ∃ (fo wd : Addr) (xs L : List Str) (c : Str → Rat), vs = [.ref fo, .ref wd] ∧ H fo = some (.lst (xs.map V.str)) ∧ xs.length ≤ 12 ∧ TDc H wd L c ∧ (∀ x ∈ L, Sz 50 (c x)) ∧
  ∀ (o : Addr) (H' : Hp) (zs : List Str), Same H H' → H o = none → H' o = some (.lst (zs.map V.str)) → zs.Perm xs → zs.Pairwise (IO.le (get0 L c)) → Q (.ref o) H'
theorem ok_so (F : Dn K d_l_sorted f fd) (bl : Bl mg) : FnOk P w K mg base CX0 1 f fd ["_law_folk", "_law_worths"] spSo := by
  refine F.ok sc_l_sorted (fun vs H Q E h => ?_) (fun cdv A outer s H vs Q E hr h => ?_)
  · obtain ⟨fo, wd, xs, L, c, rfl, _⟩ := h
    rfl
  · obtain ⟨fo, wd, xs, L, c, rfl, hfo, lx, ⟨ad, hd, hv⟩, hz, hQ⟩ := h
    have hu := hu_of hr
    refine ⟨_, PSs.nox (pss_cons (ps_set (i := 2) sc_l_sorted.nd rfl (.inl rfl) (pe_lst pa_nil))
      (pss_cons (ps_for PassesOwn.never rfl (pi_list (pv 0)) (pg_name (i := 3) sc_l_sorted.nd rfl (.inl rfl))
        (pss_cons (ps_set (i := 4) sc_l_sorted.nd rfl (.inl rfl) (pe_dget2 hu (pv 1) (pv 3) (pe_tup (pa_cons pe_int (pa_cons pe_int pa_nil))) ⟨rfl, rfl, rfl, rfl⟩))
        (pss_cons (ps_set (i := 5) sc_l_sorted.nd rfl (.inl rfl) pe_int)
        (C8.pss_cut (ps_for PassesOwn.never rfl (pi_list (pv 2)) (pg_name (i := 6) sc_l_sorted.nd rfl (.inl rfl))
          (pss_cons (ps_set (i := 7) sc_l_sorted.nd rfl (.inl rfl) (pe_dget2 hu (pv 1) (pv 6) (pe_tup (pa_cons pe_int (pa_cons pe_int pa_nil))) ⟨rfl, rfl, rfl, rfl⟩))
          (pss_cons (ps_set (i := 8) sc_l_sorted.nd rfl (.inl rfl) (pe_op op_sub (pe_op op_mulW (pe_ix ix_tup (pv 7) pe_int (fun _ _ => rfl)) (pe_ix ix_tup (pv 4) pe_int (fun _ _ => rfl))) (pe_op op_mulW (pe_ix ix_tup (pv 4) pe_int (fun _ _ => rfl)) (pe_ix ix_tup (pv 7) pe_int (fun _ _ => rfl)))))
          (pss_one (ps_set (i := 5) sc_l_sorted.nd rfl (.inl rfl) (pe_op op_add (pv 5) (pe_callTy call_int1 rfl bl.int boot_int (pa_cons (pe_or (pe_cmpR op_lt (pv 8) pe_int (nomark _)) (pe_one (pe_and (pe_cmpR op_eq (pv 8) pe_int (nomark _)) (pe_one (pe_cmpR op_lt_str (pv 6) (pv 3) (nomark _)))))) pa_nil)))))))
        )
        (pss_one (ps_expr (pe_bm PySem.F.plainAttrs_list PySem.F.slot_list_insert PySem.F.type_list_insert mt_insert (pv 2) (pa_cons (pv 5) (pa_cons (pv 3) pa_nil)))))))))
      (pss_one (ps_ret (pv 2))))), ?_⟩
    refine ⟨by show 0 ≤ sizeLine; decide, fun o fo_ => ?_⟩
    have s1 := same_new (o := .lst []) fo_
    have ho1 : (upd H o (.lst [])) o = some (.lst []) := upd_same
    generalize upd H o (.lst []) = H1 at s1 ho1
    have szg : ∀ x, Sz 50 (get0 L c x) := fun x => by
      unfold get0
      split
      · rename_i hx
        exact hz x hx
      · exact ⟨by decide, by decide⟩
    have stp : ∀ {H2 : Hp} {x : Str} {t2 : Addr}, Same H H2 → H2 t2 = none → ∃ w0, ((if x ∈ L then some (V.ref (ad x)) else none).getD (.ref t2)) = .ref w0 ∧ (upd H2 t2 (.tup [.int 0, .int 1])) w0 = some (tupP (pr (get0 L c x))) := fun {H2 x t2} s2 f2 => by
      unfold get0
      by_cases hzu : x ∈ L
      · rw [if_pos hzu, if_pos hzu]
        exact ⟨_, rfl, same_new f2 _ _ (s2 _ _ (hv x hzu))⟩
      · rw [if_neg hzu, if_neg hzu]
        exact ⟨_, rfl, upd_same⟩
    have dgt : ∀ {H2 : Hp} {x : Str}, Same H H2 → DGet H2 wd (.str x) (if x ∈ L then some (V.ref (ad x)) else none) := fun {H2 x} s2 => by
      have := DGet.k (k := Sum.inr x) (s2 _ _ hd)
      rw [val_dct] at this
      exact this
    refine ⟨_, rfl, fo, rfl, ⟨_, SqL.of (s1 _ _ hfo)⟩, for_list (K := K) (xs := xs.map V.str) (fun i σ H' => ∃ (zs : List Str) (v3 v4 v5 v6 v7 v8 : Option V), σ = [some (.ref fo), some (.ref wd), some (.ref o), v3, v4, v5, v6, v7, v8] ∧ Same H H' ∧ H' o = some (.lst (zs.map V.str)) ∧ zs.Perm (xs.take i) ∧ zs.Pairwise (IO.le (get0 L c)))
      ⟨[], none, none, none, none, none, none, rfl, s1, ho1, List.Perm.refl _, List.Pairwise.nil⟩ (fun i σ H' _ z => by obtain ⟨_, _, _, _, _, _, _, _, e, _⟩ := z; exact SqL.of (e _ _ hfo)) ?_ ?_⟩
    · rintro i v σ H2 hi ⟨zs, v3, v4, v5, v6, v7, v8, rfl, s2, ho2, zp, zw⟩
      rw [List.getElem?_map] at hi
      obtain ⟨x, hx, rfl⟩ := Option.map_eq_some_iff.mp hi
      have hil : i < xs.length := (List.getElem?_eq_some_iff.mp hx).1
      have zl : zs.length ≤ 12 := by rw [zp.length_eq, List.length_take]; omega
      refine ⟨_, rfl, wd, rfl, .inl ⟨_, .inl (s2 _ _ hd)⟩, _, rfl, by show 2 ≤ sizeLine; decide, fun t2 ft2 => ?_⟩
      obtain ⟨wx, hwx, hwx1⟩ := stp (x := x) s2 ft2
      have st := same_new (o := .tup [.int 0, .int 1]) ft2
      refine ⟨_, dgt (s2.trans st), ?_⟩
      rw [hwx]
      have ho3 := st _ _ ho2
      have s3 := s2.trans st
      generalize upd H2 t2 (.tup [.int 0, .int 1]) = H3 at hwx1 ho3 s3
      refine ⟨fun σ' H' => ∃ (v6 v7 v8 : Option V), σ' = [some (.ref fo), some (.ref wd), some (.ref o), some (.str x), some (.ref wx), some (.int (zs.countP (Bf (get0 L c) x) : Nat)), v6, v7, v8] ∧ Same H3 H', ?_, ?_⟩
      · refine ⟨_, rfl, o, rfl, ⟨_, SqL.of ho3⟩, for_list (K := K) (xs := zs.map V.str) (fun j σ H' => ∃ (v6 v7 v8 : Option V), σ = [some (.ref fo), some (.ref wd), some (.ref o), some (.str x), some (.ref wx), some (.int ((zs.take j).countP (Bf (get0 L c) x) : Nat)), v6, v7, v8] ∧ Same H3 H')
          ⟨_, _, _, rfl, Same.refl _⟩ (fun j σ H' _ z => by obtain ⟨_, _, _, _, e⟩ := z; exact SqL.of (e _ _ ho3)) ?_ ?_⟩
        · rintro j v σ H4 hj ⟨w6, w7, w8, rfl, s4⟩
          rw [List.getElem?_map] at hj
          obtain ⟨y, hy, rfl⟩ := Option.map_eq_some_iff.mp hj
          have s04 := s3.trans s4
          refine ⟨_, rfl, wd, rfl, .inl ⟨_, .inl (s04 _ _ hd)⟩, _, rfl, by show 2 ≤ sizeLine; decide, fun t5 ft5 => ?_⟩
          obtain ⟨wy, hwy, hwy1⟩ := stp (x := y) s04 ft5
          have st5 := same_new (o := .tup [.int 0, .int 1]) ft5
          refine ⟨_, dgt (s04.trans st5), ?_⟩
          rw [hwy]
          have hx5 := st5 _ _ (s4 _ _ hwx1)
          have s35 := s4.trans st5
          generalize upd H4 t5 (.tup [.int 0, .int 1]) = H5 at hwy1 hx5 s35
          have szx := szg x
          have szy := szg y
          have sdx : (pr (get0 L c x)).2.natAbs < 2 ^ 50 := by have := szx.2; show ((get0 L c x).den : Int).natAbs < 2 ^ 50; omega
          have sdy : (pr (get0 L c y)).2.natAbs < 2 ^ 50 := by have := szy.2; show ((get0 L c y).den : Int).natAbs < 2 ^ 50; omega
          refine ⟨_, rfl, wy, _, _, _, rfl, rfl, SqT.of hwy1, atI_nat (j := 0) rfl, _, rfl, wx, _, _, _, rfl, rfl, SqT.of hx5, atI_nat (j := 1) rfl, _, _, rfl, rfl, wide_mul szy.1 sdx (by decide) (by decide) (by decide), _, rfl, wx, _, _, _, rfl, rfl, SqT.of hx5, atI_nat (j := 0) rfl, _, rfl, wy, _, _, _, rfl, rfl, SqT.of hwy1, atI_nat (j := 1) rfl, _, _, rfl, rfl, wide_mul szx.1 sdy (by decide) (by decide) (by decide), _, _, rfl, rfl, ?_⟩
          have glt : (pr (get0 L c y)).1 * (pr (get0 L c x)).2 - (pr (get0 L c x)).1 * (pr (get0 L c y)).2 < 0 ↔ get0 L c y < get0 L c x := by
            rw [← KM.pr_lt]
            omega
          have ggt : 0 < (pr (get0 L c y)).1 * (pr (get0 L c x)).2 - (pr (get0 L c x)).1 * (pr (get0 L c y)).2 ↔ get0 L c x < get0 L c y := by
            rw [← KM.pr_lt]
            omega
          have geq : (pr (get0 L c y)).1 * (pr (get0 L c x)).2 - (pr (get0 L c x)).1 * (pr (get0 L c y)).2 = 0 ↔ get0 L c y = get0 L c x := by
            constructor
            · intro e
              have h1 : ¬ get0 L c y < get0 L c x := fun q => by have := glt.mpr q; omega
              have h2 : ¬ get0 L c x < get0 L c y := fun q => by have := ggt.mpr q; omega
              grind
            · intro e
              have h1 : ¬ (pr (get0 L c y)).1 * (pr (get0 L c x)).2 - (pr (get0 L c x)).1 * (pr (get0 L c y)).2 < 0 := fun q => by have := glt.mp q; grind
              have h2 : ¬ 0 < (pr (get0 L c y)).1 * (pr (get0 L c x)).2 - (pr (get0 L c x)).1 * (pr (get0 L c y)).2 := fun q => by have := ggt.mp q; grind
              omega
          have ec : (zs.take (j + 1)).countP (Bf (get0 L c) x) = (zs.take j).countP (Bf (get0 L c) x) + if Bf (get0 L c) x y = true then 1 else 0 := by
            rw [take_one hy, List.countP_append, List.countP_singleton]
          refine ⟨_, rfl, _, rfl, _, _, rfl, rfl, _, rfl, ?_⟩
          refine ite2 (fun q => ?_) (fun q => ?_)
          · have q := glt.mp (of_decide_eq_true q)
            have eb : Bf (get0 L c) x y = true := bf_iff.mpr (.inl q)
            rw [if_pos eb] at ec
            refine .inr ⟨true, rfl, _, _, rfl, rfl, some (.str y), some (.ref wy), some (.int ((pr (get0 L c y)).1 * (pr (get0 L c x)).2 - (pr (get0 L c x)).1 * (pr (get0 L c y)).2)), ?_, s35⟩
            rw [ec]
            rfl
          · have q : ¬ get0 L c y < get0 L c x := fun z => q (decide_eq_true (glt.mpr z))
            refine ⟨_, rfl, rfl, _, rfl, ?_⟩
            refine ite2 (fun q2 => ?_) (fun q2 => ?_)
            · have q2 := geq.mp (V.int.inj (of_decide_eq_true q2))
              refine ⟨_, rfl, _, rfl, y, x, rfl, rfl, ?_⟩
              by_cases q3 : IO.slt y x
              · have eb : Bf (get0 L c) x y = true := bf_iff.mpr (.inr ⟨q2, q3⟩)
                rw [if_pos eb] at ec
                have ed : decide (y.cps.toList < x.cps.toList) = true := decide_eq_true q3
                rw [ed]
                refine .inr ⟨true, rfl, _, _, rfl, rfl, some (.str y), some (.ref wy), some (.int ((pr (get0 L c y)).1 * (pr (get0 L c x)).2 - (pr (get0 L c x)).1 * (pr (get0 L c y)).2)), ?_, s35⟩
                rw [ec]
                rfl
              · have eb : ¬ Bf (get0 L c) x y = true := fun z => (bf_iff.mp z).elim (fun z => q z) fun z => q3 z.2
                rw [if_neg eb] at ec
                have ed : decide (y.cps.toList < x.cps.toList) = false := decide_eq_false q3
                rw [ed]
                refine .inr ⟨false, rfl, _, _, rfl, rfl, some (.str y), some (.ref wy), some (.int ((pr (get0 L c y)).1 * (pr (get0 L c x)).2 - (pr (get0 L c x)).1 * (pr (get0 L c y)).2)), ?_, s35⟩
                rw [ec]
                rfl
            · have q2 : ¬ get0 L c y = get0 L c x := fun z => q2 (decide_eq_true (congrArg V.int (geq.mpr z)))
              have eb : ¬ Bf (get0 L c) x y = true := fun z => (bf_iff.mp z).elim (fun z => q z) fun z => q2 z.1
              rw [if_neg eb] at ec
              refine .inr ⟨false, rfl, _, _, rfl, rfl, some (.str y), some (.ref wy), some (.int ((pr (get0 L c y)).1 * (pr (get0 L c x)).2 - (pr (get0 L c x)).1 * (pr (get0 L c y)).2)), ?_, s35⟩
              rw [ec]
              rfl
        · rintro σ H4 ⟨w6, w7, w8, rfl, s4⟩
          rw [List.length_map, List.take_length]
          exact ⟨_, _, _, rfl, s4⟩
      rintro σ' H4 ⟨w6, w7, w8, rfl, s4⟩
      have ho4 := s4 _ _ ho3
      have cl : zs.countP (Bf (get0 L c) x) ≤ zs.length := List.countP_le_length
      refine ⟨_, rfl, Or.inl ⟨rfl, _, SqL.of ho4⟩, _, rfl, _, rfl, o, _, _, _, rfl, rfl, ho4, by rw [List.length_map]; exact line_lt (by omega), Int.natCast_nonneg _, by omega, zs.take (zs.countP (Bf (get0 L c) x)) ++ [x] ++ zs.drop (zs.countP (Bf (get0 L c) x)), _, _, _, _, _, _, rfl, fun b o' e => ?_, ?_, ?_, put_cnt zw⟩
      · rw [upd_ne (ne_of_none e fo_)]
        exact s4 _ _ (s3 _ _ e)
      · rw [upd_same, Int.toNat_natCast]
        simp [List.map_append, List.map_take, List.map_drop]
      · refine (put_perm' _).trans ?_
        rw [take_one hx]
        exact (List.Perm.cons x zp).trans (List.perm_append_singleton x _).symm
    · rintro σ H2 ⟨zs, v3, v4, v5, v6, v7, v8, rfl, s2, ho2, zp, zw⟩
      rw [List.length_map, List.take_length] at zp
      exact ⟨_, rfl, hQ o H2 zs s2 fo_ ho2 zp zw⟩
end
end K03
set_option Elab.async false
set_option linter.all false
/-! VR: values related, turned about. -/
namespace KW
open PySem PySem.Spec PyProof.Rows L2
theorem vals_rev {vs : List V} {us : List Value} (h : Vals vs us) : Vals vs.reverse us.reverse := by
  induction h with
  | nil => exact .nil
  | cons r t ih =>
    rw [List.reverse_cons, List.reverse_cons]
    exact ih.append (.cons r .nil)
end KW
set_option Elab.async false
set_option linter.all false
set_option maxRecDepth 100000
set_option maxHeartbeats 4000000
namespace K03
open PySem PySem.Spec PyProof.Rows L2
open C8 (Cal Mak Met pe_c pe_mk pe_mt pe_mt0)
open KM (pr Sz)
open SX (S)
theorem eq_nil {ps : List (Addr × Rat)} : PyData.eqv (.list ((ps.map fun x => pr x.2).map DQ.pD)) (.list ([].map PyData.str)) = decide (ps = []) := by
  cases ps with
  | nil => rw [decide_eq_true rfl]; exact DQ.eq_strs []
  | cons p ps => simp [PyData.eqv, PyData.eqvAll]
theorem con_pr {a : Int} (h : 0 < a + 1) : (a, a + 1) = pr (Rat.divInt a (a + 1)) := by
  rw [← KM.low_eq (by omega), KM.low_id h (KM.gcd_succ a)]
theorem PL.ins {H : Hp} {l : Addr} {ps : List (Addr × Rat)} (h : PL H l ps) (y : Addr × Rat) (hy : H y.1 = some (tupP (pr y.2))) (j : Nat) : PL (upd H l (.lst ((ps.map fun x => V.ref x.1).take j ++ [.ref y.1] ++ (ps.map fun x => V.ref x.1).drop j))) l (ps.take j ++ [y] ++ ps.drop j) := by
  refine ⟨by rw [upd_same]; simp [List.map_append, List.map_take, List.map_drop], fun x hx => ?_⟩
  have g : H x.1 = some (tupP (pr x.2)) := by
    rcases List.mem_append.mp hx with z | z
    · rcases List.mem_append.mp z with z | z
      · exact h.2 x (List.mem_of_mem_take z)
      · rw [List.mem_singleton.mp z]
        exact hy
    · exact h.2 x (List.mem_of_mem_drop z)
  rw [upd_ne fun z => by rw [z, h.1] at g; cases g]
  exact g
theorem PL.app {H : Hp} {l : Addr} {ps : List (Addr × Rat)} (h : PL H l ps) (y : Addr × Rat) (hy : H y.1 = some (tupP (pr y.2))) : PL (upd H l (.lst ((ps.map fun x => V.ref x.1) ++ [.ref y.1]))) l (ps ++ [y]) := by
  refine ⟨by rw [upd_same, List.map_append]; rfl, fun x hx => ?_⟩
  have g : H x.1 = some (tupP (pr x.2)) := by
    rcases List.mem_append.mp hx with z | z
    · exact h.2 x z
    · rw [List.mem_singleton.mp z]
      exact hy
  rw [upd_ne fun z => by rw [z, h.1] at g; cases g]
  exact g
/-- the fractions and the held dict, side by side -/
def Pst (h pl : Addr) (c n : Nat) (H : Hp) : Prop := ∃ ps : List (Addr × Rat), PL H pl ps ∧ ps.length ≤ n ∧ (∀ x ∈ ps, Sz 50 x.2) ∧ Held H h c ∧ Cel h pl H
theorem cut_fr {α : Type} (g : α → V) {L : List α} {i : Int} (i0 : 0 ≤ i) (i1 : i ≤ L.length) : cutV (L.map g) (some i) none = (L.drop i.toNat).map g := by
  obtain ⟨j, rfl⟩ := Int.eq_ofNat_of_zero_le i0
  unfold cutV
  rw [HT.sIx_nat, HT.sIx_none, List.length_map, Nat.min_eq_left (by omega), Int.toNat_natCast, List.map_drop, List.take_of_length_le (by rw [List.length_drop, List.length_map]; omega)]
theorem cut_to {α : Type} (g : α → V) {L : List α} {i : Int} (i0 : 0 ≤ i) (i1 : i ≤ L.length) : cutV (L.map g) none (some i) = (L.take i.toNat).map g := by
  obtain ⟨j, rfl⟩ := Int.eq_ofNat_of_zero_le i0
  unfold cutV
  rw [HT.sIx_nat, HT.sIx_none, List.length_map, Nat.min_eq_left (by omega), Int.toNat_natCast, List.map_take, List.drop_zero, Nat.sub_zero]
theorem SL.app {C : Addr} {H : Hp} {l : Addr} {ps : List (Addr × Rat)} (h : SL C H l ps) (y : Addr × Rat) (hy : Sh C H y.1 (pr y.2)) : SL C (upd H l (.lst ((ps.map fun x => V.ref x.1) ++ [.ref y.1]))) l (ps ++ [y]) := by
  refine ⟨by rw [upd_same, List.map_append]; rfl, fun x hx => ?_⟩
  have g : Sh C H x.1 (pr x.2) := by
    rcases List.mem_append.mp hx with z | z
    · exact h.2 x z
    · rw [List.mem_singleton.mp z]
      exact hy
  obtain ⟨dx, e⟩ := g
  exact ⟨dx, by rw [upd_ne fun z => by rw [z, h.1] at e; cases e]; exact e⟩
theorem S_inj' {l m : List Nat} (h : S l = S m) : l = m := by
  have := congrArg (fun z : Str => z.cps.toList) h
  simpa [S] using this
theorem paired_map {α : Type} {R : Addr → Key × V → Prop} {g : α → Addr} {k : α → Key × V} : ∀ {l : List α}, (∀ x ∈ l, R (g x) (k x)) → Paired R (l.map g) (l.map k)
  | [], _ => .nil
  | x :: l, h => .cons (h x List.mem_cons_self) (paired_map fun y hy => h y (List.mem_cons_of_mem _ hy))
theorem SL.dput {C : Addr} {H : Hp} {l d : Addr} {L : List (Addr × Rat)} {kvs : List (Key × V)} {o : HO} (x : SL C H l L) (hd : H d = some (.dK kvs)) : SL C (upd H d o) l L :=
  ⟨by rw [upd_ne fun z => by have := x.1; rw [z, hd] at this; cases this]; exact x.1, fun y hy => let ⟨dx, e⟩ := x.2 y hy; ⟨dx, by rw [upd_ne fun z => by rw [z, hd] at e; cases e]; exact e⟩⟩
theorem PL.dput {H : Hp} {l d : Addr} {L : List (Addr × Rat)} {kvs : List (Key × V)} {o : HO} (x : PL H l L) (hd : H d = some (.dK kvs)) : PL (upd H d o) l L :=
  ⟨by rw [upd_ne fun z => by have := x.1; rw [z, hd] at this; cases this]; exact x.1, fun y hy => by rw [upd_ne fun z => by have := x.2 y hy; rw [z, hd] at this; cases this]; exact x.2 y hy⟩
theorem TDc.kp {H H' : Hp} {h d : Addr} {k : Nat} {L : List Str} {c : Str → Rat} (x : TDc H d L c) (he : Held H h k) (n : d ≠ h) (kp : Kp h H H') : TDc H' d L c := by
  obtain ⟨ad, h1, h2⟩ := x
  exact ⟨ad, kp.1 _ _ h1 n, fun y hy => kp.1 _ _ (h2 y hy) (he.no (h2 y hy) fun kvs e => by cases e)⟩
/-- what stands while the worths are laid -/
def Wst (C h o sl pl wd : Addr) (c0 n : Nat) (zs : List (List Nat)) (L ps : List (Addr × Rat)) (H : Hp) : Prop := ∃ (M : List Str) (c : Str → Rat), TDc H wd M c ∧ M.Nodup ∧ M.length ≤ n ∧ (∀ x ∈ M, Sz 50 (c x)) ∧ Held H h c0 ∧ Cel h wd H ∧ SL C H sl L ∧ PL H pl ps ∧ H o = some (.lst (zs.map fun l => V.str (S l)))
theorem Wst.put {C h o sl pl wd t : Addr} {c0 n : Nat} {zs : List (List Nat)} {L ps : List (Addr × Rat)} {H : Hp} {M : List Str} {c : Str → Rat} {ad : Str → Addr} {x : Str} {v : Rat} (hd : H wd = some (dctO M fun y => .ref (ad y))) (hv : ∀ y ∈ M, H (ad y) = some (tupP (pr (c y)))) (nd : M.Nodup) (ln : M.length ≤ n) (hz : ∀ x ∈ M, Sz 50 (c x))
    (held : Held H h c0) (cel : Cel h wd H) (hS : SL C H sl L) (hP : PL H pl ps) (ho : H o = some (.lst (zs.map fun l => V.str (S l)))) (ht : H t = some (tupP (pr v))) (sv : Sz 50 v) : Wst C h o sl pl wd c0 (n + 1) zs L ps (upd H wd (.dK (putK (M.map fun y => ((Sum.inr y : Key), V.ref (ad y))) (Sum.inr x) (.ref t)))) := by
  refine ⟨addK M x, setc c x v, TDc.put hd hv ht, addK_nd nd, Nat.le_trans (addK_len M x) (by omega), fun y hy => ?_, held.put cel, cel.put cel.ne.symm, hS.dput hd, hP.dput hd, by rw [upd_ne fun z => by rw [z, hd] at ho; cases ho]; exact ho⟩
  unfold setc
  split
  · exact sv
  · rename_i ny
    exact hz y ((addK_sub hy).elim id fun e => absurd e ny)
theorem pick_last {α : Type} (g : α → V) {L : List α} (h : 0 < L.length) : ∃ x ∈ L, atI (L.map g) (-1) = some (g x) := by
  refine ⟨L[L.length - 1], List.getElem_mem _, ?_⟩
  unfold atI ixN
  rw [List.length_map]
  rw [if_neg (by decide), if_pos (by omega)]
  show (L.map g)[((L.length : Int) + -1).toNat]? = _
  rw [show ((L.length : Int) + -1).toNat = L.length - 1 by omega, List.getElem?_map, List.getElem?_eq_getElem (by omega)]
  rfl
theorem le_same {ρ : Str → Rat} {l m : List Str} (h1 : l.Pairwise (IO.le ρ)) (h2 : m.Pairwise (IO.le ρ)) (p : l.Perm m) : l = m :=
  p.eq_of_pairwise (fun a b _ _ h g => by
    rcases h with h | ⟨h, h'⟩
    · rcases g with g | ⟨g, g'⟩
      · grind
      · grind
    · rcases g with g | ⟨g, g'⟩
      · grind
      · exact IO.slt_antisymm h' g') h1 h2
/-- a dict locked: what is known of the heap -/
theorem lockf {C : Addr} {H : Hp} {d : Addr} {L : List Str} {ad : Str → Addr} (hd : H d = some (dctO L fun x => .ref (ad x))) (od : Obj) :
    (upd H d (.frz od (dctO L fun x => .ref (ad x)))) d = some (.frz od (.dK (L.map fun x => ((Sum.inr x : Key), V.ref (ad x))))) ∧
    (∀ b o, H b = some o → b ≠ d → (upd H d (.frz od (dctO L fun x => .ref (ad x)))) b = some o) ∧
    (∀ b, (upd H d (.frz od (dctO L fun x => .ref (ad x)))) b = none → H b = none ∧ b ≠ d) ∧
    (∀ H', Same (upd H d (.frz od (dctO L fun x => .ref (ad x)))) H' → Same H (upd H' d (dctO L fun x => .ref (ad x)))) := by
  refine ⟨upd_same, fun b o e n => by rw [upd_ne n]; exact e, fun b e => ?_, fun H' s b o e => ?_⟩
  · by_cases z : b = d
    · subst z
      rw [upd_same] at e
      cases e
    · rw [upd_ne z] at e
      exact ⟨e, z⟩
  · by_cases z : b = d
    · subst z
      rw [upd_same, ← e, hd]
    · rw [upd_ne z]
      exact s _ _ (by rw [upd_ne z]; exact e)
theorem Sh.at_frz {C : Addr} {H : Hp} {p d : Addr} {q : Int × Int} {od : Obj} {u : HO} (h : Sh C H p q) (hd : H d = some (.frz od u)) : p ≠ d := fun z => by
  obtain ⟨dx, e⟩ := h
  rw [z, hd] at e
  cases e
theorem Sh.un {C : Addr} {H : Hp} {p d : Addr} {q : Int × Int} {o : HO} (h : Sh C H p q) (n : p ≠ d) : Sh C (upd H d o) p q := by
  obtain ⟨dx, e⟩ := h
  exact ⟨dx, by rw [upd_ne n]; exact e⟩
theorem nin_take {xs : List Str} (nd : xs.Nodup) {i : Nat} {z : Str} (h : xs[i]? = some z) : z ∉ xs.take i := fun hm => by
  obtain ⟨j, hj, e⟩ := List.mem_iff_getElem.mp hm
  rw [List.getElem_take] at e
  rw [List.length_take] at hj
  have e3 : xs[j]? = xs[i]? := by rw [h, List.getElem?_eq_getElem (by omega), e]
  have := (List.getElem?_inj (by omega) nd).mp e3
  omega
/-- one more put at the end, new -/
theorem strOk_ok {l : List Nat} (ok : NM.ok l) : PyData.strOk (S l) = true := by
  unfold PyData.strOk
  rw [← Array.all_toList, List.all_eq_true]
  intro c hc
  have := ok.2.2 c hc
  exact decide_eq_true (by omega)
theorem ne_same (v : V) : (!decide (v = v)) = false := by simp
section
variable {P : Program} {w : World} {K : PySem.W.Frag} {mg : Str → Option Value} {base : Heap} {f fI C : Addr} {fd fdI : FuncData}
def spLaw (K : PySem.W.Frag) : Sp := fun vs H Q _ => ∃ (a : Addr) (ns : List Int), vs = [.ref a] ∧ SqL K H a (ns.map V.int) ∧ ns.length ≤ 63 ∧ ∀ H', Q (.bl true) H'
theorem ok_law (F : Dn K d_law f fd) (bl : Bl mg) (bd : mg "dict" = none) (MS : MakS P w K mg base C) (cH : Cal P w K mg base 1 "_law_held" (spHeld K) []) (cD : CalD P w K mg base) (cNm : Cal P w K mg base 2 "_law_names" spNames []) (cFr : Cal P w K mg base 2 "_law_fraction" spFr []) (cP : Cal P w K mg base 1 "_law_pair" (spPair C) [])
    (cTR : Cal P w K mg base 6 "_law_total_right" (spTR C) []) (cGR : GL.CalG P w K mg base 6 "_law_greatest_right" (spGRt C) []) (cSo : Cal P w K mg base 1 "_law_sorted" spSo []) (cIO : Cal P w K mg base 4 "in_order" (spInOrder K C) [])
    (FI : FnOk P w K mg base CX0 4 fI fdI ["names", "shares"] (spInOrder K C)) (gI : mg "in_order" = some (.ref fI)) (kI : PySem.W.keepIn K (.ref fI) = true) (k2 : KBn K fdI ["names", "shares"] 0 ["shares", "names"] (fun us ws => us ++ ws.reverse) (fun vs zs => vs ++ zs.reverse)) : GL.FnG P w K mg base 7 f fd ["_law_script"] (spLaw K) := by
  refine GL.okG F sc_law (fun vs H Q E h => ?_) (fun cdv A outer s H vs Q E hgd hr h => ?_)
  · obtain ⟨a, ns, rfl, _⟩ := h
    rfl
  · obtain ⟨s0, ns, rfl, hS, hlen, hQ⟩ := h
    have hu := hu_of hr
    have hu64 : (A.deeper (envOfC d_law.qual d_law.scope s.heap.objs.size f cdv)).units + 64 < cLine := by have := hr.un; omega
    refine ⟨_, PSs.nox (pss_cons (ps_set (i := 1) sc_law.nd rfl (.inr rfl) (pe_c cH hr (by decide) rfl (pa_cons (pv 0) pa_nil)))
      (pss_cons (ps_for PassesOwn.never rfl (pi_range1 rfl bl.range (pa_cons pe_int pa_nil)) (pg_name (i := 2) sc_law.nd rfl (.inl rfl))
        (C8.pss_cut (ps_setLc (i := 3) (own := [("_law_k", 12)]) (g := gName 12) (tt := tYes) rfl sc_law.nd rfl rfl (sw_true rfl rfl rfl (by decide +kernel)) (pi_range1 rfl bl.range (pa_cons (pe_ix ix_list (pe_lst (pa_cons (pe_c cD hr (by decide) rfl (pa_cons (pv 1) (pa_cons pe_int pa_nil))) (pa_cons (pe_c cD hr (by decide) rfl (pa_cons (pv 1) (pa_cons pe_int pa_nil))) pa_nil))) (pe_c cD hr (by decide) rfl (pa_cons (pv 1) (pa_cons pe_int pa_nil))) (fun _ _ => rfl)) pa_nil)) (blkOk_by (N := N_law) (sc := defScope s_law) (by decide +kernel))
          (fun _ _ _ _ _ => pg_name (i := 12) sc_law.nd rfl (Or.inl rfl)) (fun _ _ _ _ _ => pts_nil) (fun _ _ _ _ _ => pe_c cFr hr (by decide) rfl (pa_cons (pv 1) pa_nil)))
        (C8.pss_cut (ps_if (PW.pt (pw_and (pt_cmpR (op_neD hu64) (pv 3) (pe_lst pa_nil) (nomark _)) (pw_and1 (pt_cmpR op_eq (pe_c cD hr (by decide) rfl (pa_cons (pv 1) (pa_cons pe_int pa_nil))) pe_int (nomark _)))))
          (pss_one (ps_expr (pe_bm PySem.F.plainAttrs_list PySem.F.slot_list_insert PySem.F.type_list_insert mt_insert (pv 3) (pa_cons (pe_c cD hr (by decide) rfl (pa_cons (pv 1) (pa_cons (pe_op op_add (pe_callB call_len_seq rfl bl.len boot_len (pa_cons (pv 3) pa_nil)) pe_int) pa_nil))) (pa_cons (pe_ix ix_list (pv 3) (pe_c cD hr (by decide) rfl (pa_cons (pv 1) (pa_cons (pe_callB call_len_seq rfl bl.len boot_len (pa_cons (pv 3) pa_nil)) pa_nil))) (fun _ _ => rfl)) pa_nil))))) pss_nil)
        (C8.pss_cut (ps_if (PW.pt (pw_and (pt_cmpR (op_neD hu64) (pv 3) (pe_lst pa_nil) (nomark _)) (pw_and1 (pt_cmpR op_eq (pe_c cD hr (by decide) rfl (pa_cons (pv 1) (pa_cons pe_int pa_nil))) pe_int (nomark _)))))
          (pss_cons (ps_par (i := 4) (j := 5) rfl sc_law.nd rfl rfl (by decide) rfl rfl (pa_cons (pe_op op_add (pe_op op_pow pe_int pe_int) (pe_c cD hr (by decide) rfl (pa_cons (pv 1) (pa_cons (pe_op op_pow pe_int pe_int) pa_nil)))) (pa_cons (pe_c cD hr (by decide) rfl (pa_cons (pv 1) (pa_cons (pe_callB call_len_seq rfl bl.len boot_len (pa_cons (pv 3) pa_nil)) pa_nil))) pa_nil)) rfl)
          (pss_one (ps_set (i := 3) sc_law.nd rfl (.inl rfl) (pe_op op_cat (pe_op op_cat (pe_slice sl_list (pv 3) po_none (po_some (pv 5))) (pe_lst (pa_cons (pe_tup (pa_cons (pv 4) (pa_cons (pe_op op_add (pv 4) pe_int) pa_nil))) (pa_cons (pe_tup (pa_cons (pe_op op_sub (pv 4) pe_int) (pa_cons (pv 4) pa_nil))) pa_nil)))) (pe_slice sl_list (pv 3) (po_some (pv 5)) po_none))))) pss_nil)
        (C8.pss_cut (ps_setLc (i := 6) (own := [("_law_pair_here", 13)]) (g := gName 13) (tt := tYes) rfl sc_law.nd rfl rfl (sw_true rfl rfl rfl (by decide +kernel)) (pi_list (pv 3)) (blkOk_by (N := N_law) (sc := defScope s_law) (by decide +kernel))
          (fun _ _ _ _ _ => pg_name (i := 13) sc_law.nd rfl (Or.inl rfl)) (fun _ _ _ _ _ => pts_nil) (fun _ _ _ _ _ => pe_mk MS hr (by decide) rfl (pa_cons (pe_ix (r := rIxT K) ix_tup (pv 13) pe_int (fun _ _ => rfl)) (pa_cons (pe_ix (r := rIxT K) ix_tup (pv 13) pe_int (fun _ _ => rfl)) pa_nil))))
        (pss_cons (ps_if (PW.pt (pw_or (pt_not (pt_val (pe_c cTR hr (by decide) rfl (pa_cons (pv 1) (pa_cons (pv 6) (pa_cons (pv 3) pa_nil)))))) (pw_or1 (pt_not (pt_val (GL.pe_cG cGR hgd hr (by decide) rfl (pa_cons (pv 1) (pa_cons (pv 6) (pa_cons (pv 3) pa_nil))))))))) pss_never pss_nil)
        (pss_cons (ps_set (i := 7) sc_law.nd rfl (.inl rfl) (pe_c cNm hr (by decide) rfl (pa_cons (pv 1) (pa_cons (pe_op op_add pe_int (pe_c cD hr (by decide) rfl (pa_cons (pv 1) (pa_cons pe_int pa_nil)))) pa_nil))))
        (C8.pss_cut (ps_set (i := 8) sc_law.nd rfl (.inr rfl) (pe_callTy (call_dictP rfl) rfl bd boot_dict (pa_cons (pe_lc (own := [("_law_name", 14)]) (g := gName 14) rfl sc_law.nd (pi_list (pv 7)) (blkOk_by (N := N_law) (sc := defScope s_law) (by decide +kernel))
          (fun _ _ _ _ _ => pg_name (i := 14) sc_law.nd rfl (Or.inl rfl)) (fun _ _ _ _ _ => pts_one (pt_cmpR op_gt (pe_c cD hr (by decide) rfl (pa_cons (pv 1) (pa_cons pe_int pa_nil))) pe_int (nomark _))) (fun _ _ _ _ _ => pe_tup (pa_cons (pv 14) (pa_cons (pe_c cFr hr (by decide) rfl (pa_cons (pv 1) pa_nil)) pa_nil)))) pa_nil)))
        (pss_cons (ps_dput hu (pv 8) pe_str (pe_tup (pa_cons pe_int (pa_cons pe_int pa_nil))) rfl)
        (C8.pss_cut (ps_if (PW.pt (pw_and (pt_cmpR op_gt (pe_callB call_len_seq rfl bl.len boot_len (pa_cons (pv 7) pa_nil)) pe_int (nomark _)) (pw_and1 (pt_cmpR op_eq (pe_c cD hr (by decide) rfl (pa_cons (pv 1) (pa_cons pe_int pa_nil))) pe_int (nomark _)))))
          (pss_cons (ps_set (i := 4) sc_law.nd rfl (.inl rfl) (pe_op op_add (pe_op op_pow pe_int pe_int) (pe_c cD hr (by decide) rfl (pa_cons (pv 1) (pa_cons (pe_op op_pow pe_int pe_int) pa_nil)))))
          (pss_one (ps_asg (pe_tup (pa_cons (pe_tup (pa_cons (pe_op op_sub (pv 4) pe_int) (pa_cons (pv 4) pa_nil))) (pa_cons (pe_tup (pa_cons (pv 4) (pa_cons (pe_op op_add (pv 4) pe_int) pa_nil))) pa_nil))) (pg_tup rfl (pgs_cons (pg_sub (pv 8) (pe_ix ix_list (pv 7) (pe_un un_neg pe_int) (fun _ _ => rfl)) (set_dict hu)) (pgs_cons (pg_sub (pv 8) (pe_ix ix_list (pv 7) pe_int (fun _ _ => rfl)) (set_dict hu)) pgs_nil)))))) pss_nil)
        (pss_cons (ps_set (i := 9) sc_law.nd rfl (.inl rfl) (pe_callTy (call_dictP rfl) rfl bd boot_dict (pa_cons (pe_lock (pe_lc (own := [("_law_name", 14)]) (g := gName 14) (tt := tYes) rfl sc_law.nd (pi_keys (pv 8)) (blkOk_by (N := N_law) (sc := defScope s_law) (by decide +kernel))
          (fun _ _ _ _ _ => pg_name (i := 14) sc_law.nd rfl (Or.inl rfl)) (fun _ _ _ _ _ => pts_nil) (fun _ _ _ _ _ => pe_tup (pa_cons (pv 14) (pa_cons (pe_mk MS hr (by decide) rfl (pa_cons (pe_ix (r := rIxT K) ix_tup (pe_dget hu (pv 8) (pv 14) (fun _ _ => rfl)) pe_int (fun _ _ => rfl)) (pa_cons (pe_ix (r := rIxT K) ix_tup (pe_dget hu (pv 8) (pv 14) (fun _ _ => rfl)) pe_int (fun _ _ => rfl)) pa_nil))) pa_nil))))) pa_nil)))
        (pss_cons (ps_set (i := 10) sc_law.nd rfl (.inl rfl) (pe_callTy call_list_of rfl bl.list boot_list (pa_cons (pv 7) pa_nil)))
        (pss_cons (ps_set (i := 11) sc_law.nd rfl (.inl rfl) (pe_c cIO hr (by decide) rfl (pa_cons (pv 10) (pa_cons (pv 9) pa_nil))))
        (pss_cons (ps_if (PW.pt (pw_or (pt_cmpR (op_neD hu64) (pv 11) (pe_c cSo hr (by decide) rfl (pa_cons (pv 7) (pa_cons (pv 8) pa_nil))) (nomark _)) (pw_or (pt_cmpR (op_neD hu64) (pv 10) (pv 7) (nomark _)) (pw_or1 (pt_not (pt_val (pe_callB call_isi rfl bl.isi boot_isinstance (pa_cons (pv 11) (pa_cons (pe_bltn (v := .ty "list") rfl bl.list boot_list rfl) pa_nil))))))))) pss_never pss_nil)
        (pss_cons (ps_expr (pe_bm PySem.F.plainAttrs_list PySem.F.slot_list_append PySem.F.type_list_append mt_append (pv 11) (pa_cons pe_str pa_nil)))
        (pss_cons (ps_if (pt_cmpR (op_neD hu64) (KW.pe_cK FI (hr.mono (by decide)) rfl gI kI k2 (pk_cons (pv 9) (pk_cons (pv 10) pk_nil))) (pe_c cSo hr (by decide) rfl (pa_cons (pv 7) (pa_cons (pv 8) pa_nil))) (nomark _)) pss_never pss_nil)
        (pss_one (ps_if (PW.pt (pw_or (pt_cmpR (op_neD hu64) (pe_lc (own := [("_law_share", 15)]) (g := gName 15) (tt := tYes) rfl sc_law.nd (pi_list (pv 6)) (blkOk_by (N := N_law) (sc := defScope s_law) (by decide +kernel))
          (fun _ _ _ _ _ => pg_name (i := 15) sc_law.nd rfl (Or.inl rfl)) (fun _ _ _ _ _ => pts_nil) (fun _ _ _ _ _ => pe_c cP hr (by decide) rfl (pa_cons (pv 15) pa_nil))) (pv 3) (nomark _)) (pw_or1 (pt_cmpR op_ne (pe_callB call_lenD rfl bl.len boot_len (pa_cons (pv 9) pa_nil)) (pe_callB call_lenD rfl bl.len boot_len (pa_cons (pv 8) pa_nil)) (nomark _))))) pss_never pss_nil))))))))))))))))))
      (pss_one (ps_ret pe_bl)))), ?_⟩
    refine ⟨_, rfl, s0, ns, rfl, hS, hlen, fun h H1 s1 f1 held1 => ?_⟩
    refine ⟨4, rfl, by decide, by decide, for_range (n := 4) (fun i σ H2 => ∃ v2 v3 v4 v5 v6 v7 v8 v9 v10 v11 v12 v13 v14 v15, σ = [some (.ref s0), some (.ref h), v2, v3, v4, v5, v6, v7, v8, v9, v10, v11, v12, v13, v14, v15] ∧ Held H2 h (1000 * (8 - i)))
      ⟨_, _, _, _, _, _, _, _, _, _, _, _, _, _, rfl, held1.weak (by decide)⟩ ?_ ?_⟩
    · rintro i σ H2 hi ⟨v2, v3, v4, v5, v6, v7, v8, v9, v10, v11, v12, v13, v14, v15, rfl, held2⟩
      obtain ⟨B, hB⟩ : ∃ B, B = 1000 * (8 - i) := ⟨_, rfl⟩
      have hB1 : 1000 ≤ B := by omega
      rw [← hB] at held2
      -- the fractions
      refine ⟨fun σ' H' => ∃ (pl : Addr) (w12 : Option V), σ' = [some (.ref s0), some (.ref h), some (.int (0 + i)), some (.ref pl), v4, v5, v6, v7, v8, v9, v10, v11, w12, v13, v14, v15] ∧ Pst h pl (B - 150) 14 H', ?_, ?_⟩
      · refine ⟨_, rfl, h, B - 1, 4, rfl, held2.weak (by omega), by decide, by decide, fun m1 H3 m10 m11 held3 k3 => ⟨_, rfl, h, B - 2, 15, rfl, held3.weak (by omega), by decide, by decide, fun m2 H4 m20 m21 held4 k4 => ⟨by show 2 ≤ sizeLine; decide, fun q fq => ?_⟩⟩⟩
        have sq := same_new (o := .lst [.int m1, .int m2]) fq
        have hq5 : (upd H4 q (.lst [.int m1, .int m2])) q = some (.lst [.int m1, .int m2]) := upd_same
        have held5 := held4.same sq
        generalize upd H4 q (.lst [.int m1, .int m2]) = H5 at hq5 held5
        refine ⟨_, rfl, h, B - 3, 2, rfl, held5.weak (by omega), by decide, by decide, fun r H6 r0 r1 held6 k6 => ?_⟩
        have hq6 := k6.1 _ _ hq5 (held5.no hq5 fun kvs e => by cases e)
        obtain ⟨n, hn, n14⟩ : ∃ n : Nat, atI [V.int m1, V.int m2] r = some (.int ((n : Nat) : Int)) ∧ n ≤ 14 := by
          rcases (show r = 0 ∨ r = 1 by omega) with rfl | rfl
          · exact ⟨m1.toNat, by show some (V.int m1) = _; rw [Int.toNat_of_nonneg m10], by omega⟩
          · exact ⟨m2.toNat, by show some (V.int m2) = _; rw [Int.toNat_of_nonneg m20], by omega⟩
        refine ⟨q, _, _, _, rfl, rfl, SqL.of hq6, hn, n, rfl, by omega, by omega, ?_⟩
        rw [show ((n : Nat) : Int).toNat = n from rfl]
        intro D hD
        refine lc_range (n := n) (fun j H' => ∃ ps : List (Addr × Rat), ps.length = j ∧ PL H' D ps ∧ (∀ x ∈ ps, Sz 50 x.2) ∧ Held H' h (B - 3 - 10 * j) ∧ Cel h D H') ?_ ?_ ?_
        · exact ⟨[], rfl, ⟨upd_same, fun x hx => (nomatch hx)⟩, fun x hx => (nomatch hx), (held6.same (same_new hD)).weak (by omega), (Cel.of held6 hD).kp (Kp.same (same_new hD))⟩
        · rintro j H7 hj ⟨ps, pl, P7, z7, held7, cel7⟩
          refine ⟨rfl, ?_⟩
          refine ⟨_, rfl, h, B - 3 - 10 * (j + 1), rfl, held7.weak (by omega), fun t v H8 held8 k8 ft ht sv => ?_⟩
          have P8 := P7.kp held7 k8
          have cel8 := cel7.kp k8
          refine ⟨_, P8.1, by rw [List.length_map, pl]; exact line_lt (by omega), ps ++ [(t, v)], by rw [List.length_append, pl]; rfl, P8.app (t, v) ht, fun x hx => ?_, held8.put cel8, cel8.put cel8.ne.symm⟩
          rcases List.mem_append.mp hx with z | z
          · exact z7 x z
          · rw [List.mem_singleton.mp z]
            exact sv.mono (by decide)
        · rintro H7 ⟨ps, pl, P7, z7, held7, cel7⟩
          exact ⟨D, _, rfl, ps, P7, by omega, z7, held7.weak (by omega), cel7⟩
      rintro σ' H3 ⟨pl, w12, rfl, st3⟩
      -- one more, twice
      refine ⟨fun σ' H' => σ' = [some (.ref s0), some (.ref h), some (.int (0 + i)), some (.ref pl), v4, v5, v6, v7, v8, v9, v10, v11, w12, v13, v14, v15] ∧ Pst h pl (B - 153) 15 H', ?_, ?_⟩
      · obtain ⟨ps, P3, l3, z3, held3, cel3⟩ := st3
        refine ⟨_, rfl, by show 0 ≤ sizeLine; decide, fun e fe => ?_⟩
        have se := same_new (o := .lst []) fe
        have P4 := P3.same se
        refine ⟨_, _, Dp.lst (SqL.of P4.1) (dp_pl ps P4.2), Dp.lst (SqL.of upd_same) (DQ.dp_strs []), DQ.sh_pairs _, rfl, _, rfl, ?_⟩
        have held4 := held3.same se
        have cel4 := cel3.kp (Kp.same se)
        generalize upd H3 e (.lst []) = H4 at P4 held4 cel4
        rw [eq_nil]
        refine ite2 (fun q => ?_) (fun q => ⟨rfl, ps, P4, by omega, z3, held4.weak (by omega), cel4⟩)
        have hne : 0 < ps.length := by
          rcases Nat.eq_zero_or_pos ps.length with z | z
          · exfalso
            rw [List.length_eq_zero_iff.mp z] at q
            simp at q
          · exact z
        refine ⟨_, rfl, h, B - 151, 2, rfl, held4.weak (by omega), by decide, by decide, fun r H5 r0 r1 held5 k5 => ⟨rfl, _, rfl, ?_⟩⟩
        have P5 := P4.kp held4 k5
        have cel5 := cel4.kp k5
        refine ite2 (fun _ => ?_) (fun _ => ⟨rfl, ps, P5, by omega, z3, held5.weak (by omega), cel5⟩)
        refine ⟨_, rfl, .inl ⟨rfl, _, SqL.of P5.1⟩, _, rfl, _, rfl, pl, _, rfl, .inl (SqL.of P5.1), _, _, rfl, rfl, h, B - 152, _, rfl, held5.weak (by omega), by omega, by rw [List.length_map]; omega, fun a H6 a0 a1 held6 k6 => ?_⟩
        have P6 := P5.kp held5 k6
        have cel6 := cel5.kp k6
        refine ⟨_, rfl, _, rfl, _, rfl, pl, _, rfl, .inl (SqL.of P6.1), h, B - 153, _, rfl, held6.weak (by omega), by rw [List.length_map]; omega, by rw [List.length_map]; omega, fun b H7 b0 b1 held7 k7 => ?_⟩
        have P7 := P6.kp held6 k7
        have cel7 := cel6.kp k7
        rw [List.length_map] at a1 b1
        obtain ⟨y, hy, ey⟩ := pick (fun x : Addr × Rat => V.ref x.1) (L := ps) b0 b1
        refine ⟨pl, _, _, _, rfl, rfl, SqL.of P7.1, ey, pl, _, a, _, rfl, rfl, P7.1, by rw [List.length_map]; exact line_lt (by omega), a0, by omega, rfl, ps.take a.toNat ++ [y] ++ ps.drop a.toNat, P7.ins y (P7.2 y hy) a.toNat, ?_, fun x hx => ?_, (held7.put cel7).weak (by omega), cel7.put cel7.ne.symm⟩
        · rw [List.length_append, List.length_append, List.length_take, List.length_drop]
          show _ + 1 + _ ≤ _
          omega
        · rcases List.mem_append.mp hx with z | z
          · rcases List.mem_append.mp z with z | z
            · exact z3 x (List.mem_of_mem_take z)
            · rw [List.mem_singleton.mp z]
              exact z3 y hy
          · exact z3 x (List.mem_of_mem_drop z)
      rintro σ' H4 ⟨rfl, st4⟩
      -- two far ones
      refine ⟨fun σ' H' => ∃ (pl : Addr) (w4 w5 : Option V), σ' = [some (.ref s0), some (.ref h), some (.int (0 + i)), some (.ref pl), w4, w5, v6, v7, v8, v9, v10, v11, w12, v13, v14, v15] ∧ Pst h pl (B - 156) 17 H', ?_, ?_⟩
      · obtain ⟨ps, P3, l3, z3, held3, cel3⟩ := st4
        refine ⟨_, rfl, by show 0 ≤ sizeLine; decide, fun e fe => ?_⟩
        have se := same_new (o := .lst []) fe
        have P4 := P3.same se
        refine ⟨_, _, Dp.lst (SqL.of P4.1) (dp_pl ps P4.2), Dp.lst (SqL.of upd_same) (DQ.dp_strs []), DQ.sh_pairs _, rfl, _, rfl, ?_⟩
        have held5 := held3.same se
        have cel5 := cel3.kp (Kp.same se)
        generalize upd H4 e (.lst []) = H5 at P4 held5 cel5
        rw [eq_nil]
        refine ite2 (fun q => ?_) (fun q => ⟨pl, _, _, rfl, ps, P4, by omega, z3, held5.weak (by omega), cel5⟩)
        have hne : 0 < ps.length := by
          rcases Nat.eq_zero_or_pos ps.length with z | z
          · exfalso
            rw [List.length_eq_zero_iff.mp z] at q
            simp at q
          · exact z
        refine ⟨_, rfl, h, B - 154, 4, rfl, held5.weak (by omega), by decide, by decide, fun r H6 r0 r1 held6 k6 => ⟨rfl, _, rfl, ?_⟩⟩
        have P6 := P4.kp held5 k6
        have cel6 := cel5.kp k6
        refine ite2 (fun _ => ?_) (fun _ => ⟨pl, _, _, rfl, ps, P6, by omega, z3, held6.weak (by omega), cel6⟩)
        refine ⟨_, _, rfl, rfl, ⟨by decide, by decide, by decide⟩, _, rfl, _, _, rfl, rfl, ⟨by decide, by decide, by decide⟩, h, B - 155, _, rfl, held6.weak (by omega), by decide, by decide, fun f1 H7 f10 f11 held7 k7 => ⟨_, _, rfl, rfl, ?_⟩⟩
        have f11 : f1 < 1000000 := f11
        have P7 := P6.kp held6 k7
        have cel7 := cel6.kp k7
        refine ⟨_, rfl, _, rfl, pl, _, rfl, .inl (SqL.of P7.1), h, B - 156, _, rfl, held7.weak (by omega), by rw [List.length_map]; omega, by rw [List.length_map]; omega, fun a H8 a0 a1 held8 k8 => ⟨_, _, rfl, ?_⟩⟩
        rw [List.length_map] at a1
        have P8 := P7.kp held7 k8
        obtain ⟨far, hfar⟩ : ∃ far : Int, far = 10 ^ 13 + f1 := ⟨_, rfl⟩
        have far0 : 10000000000000 ≤ far ∧ far < 10000001000000 := by omega
        refine ⟨_, rfl, _, rfl, _, rfl, pl, _, rfl, SqL.of P8.1, fun c1 fc1 => ?_⟩
        have sc1 := same_new (o := .lst (cutV (ps.map fun x => V.ref x.1) none (some a))) fc1
        have hc1 : (upd H8 c1 (.lst (cutV (ps.map fun x => V.ref x.1) none (some a)))) c1 = some (.lst ((ps.take a.toNat).map fun x => V.ref x.1)) := by rw [upd_same, cut_to (fun x : Addr × Rat => V.ref x.1) a0 (by omega)]
        generalize upd H8 c1 (.lst (cutV (ps.map fun x => V.ref x.1) none (some a))) = H9 at sc1 hc1
        refine ⟨_, rfl, _, rfl, _, _, rfl, rfl, by show 2 ≤ sizeLine; decide, fun t1 ft1 => ?_⟩
        have e13 : (10 : Int) ^ Int.toNat 13 = 10000000000000 := by decide
        have hfar' : far = 10 ^ Int.toNat 13 + f1 := by rw [e13]; omega
        have st1 := same_new (o := .tup [.int (10 ^ Int.toNat 13 + f1), .int (10 ^ Int.toNat 13 + f1 + 1)]) ft1
        have ht1 : (upd H9 t1 (.tup [.int (10 ^ Int.toNat 13 + f1), .int (10 ^ Int.toNat 13 + f1 + 1)])) t1 = some (tupP (pr (Rat.divInt far (far + 1)))) := by
          rw [upd_same, ← con_pr (by omega), hfar']
          rfl
        generalize upd H9 t1 (.tup [.int (10 ^ Int.toNat 13 + f1), .int (10 ^ Int.toNat 13 + f1 + 1)]) = H10 at st1 ht1
        refine ⟨_, rfl, _, _, rfl, rfl, _, rfl, by show 2 ≤ sizeLine; decide, fun t2 ft2 => ?_⟩
        have st2 := same_new (o := .tup [.int (10 ^ Int.toNat 13 + f1 - 1), .int (10 ^ Int.toNat 13 + f1)]) ft2
        have ht2 : (upd H10 t2 (.tup [.int (10 ^ Int.toNat 13 + f1 - 1), .int (10 ^ Int.toNat 13 + f1)])) t2 = some (tupP (pr (Rat.divInt (far - 1) (far - 1 + 1)))) := by
          rw [upd_same, ← con_pr (by omega), hfar', Int.sub_add_cancel]
          rfl
        generalize upd H10 t2 (.tup [.int (10 ^ Int.toNat 13 + f1 - 1), .int (10 ^ Int.toNat 13 + f1)]) = H11 at st2 ht2
        refine ⟨by show 2 ≤ sizeLine; decide, fun m fm => ?_⟩
        have sm := same_new (o := .lst [.ref t1, .ref t2]) fm
        have hm : (upd H11 m (.lst [.ref t1, .ref t2])) m = some (.lst [.ref t1, .ref t2]) := upd_same
        generalize upd H11 m (.lst [.ref t1, .ref t2]) = H12 at sm hm
        refine ⟨c1, m, _, _, rfl, rfl, sm _ _ (st2 _ _ (st1 _ _ hc1)), hm, by rw [List.length_map, List.length_take]; show _ + 2 ≤ _; have := line_lt (n := 100) (by decide); omega, fun c3 fc3 => ?_⟩
        have s3 := same_new (o := .lst (((ps.take a.toNat).map fun x => V.ref x.1) ++ [.ref t1, .ref t2])) fc3
        have hc3 : (upd H12 c3 (.lst (((ps.take a.toNat).map fun x => V.ref x.1) ++ [.ref t1, .ref t2]))) c3 = some (.lst (((ps.take a.toNat).map fun x => V.ref x.1) ++ [.ref t1, .ref t2])) := upd_same
        generalize upd H12 c3 (.lst (((ps.take a.toNat).map fun x => V.ref x.1) ++ [.ref t1, .ref t2])) = H13 at s3 hc3
        have s813 := sc1.trans (st1.trans (st2.trans (sm.trans s3)))
        refine ⟨_, rfl, _, rfl, _, rfl, pl, _, rfl, SqL.of (P8.same s813).1, fun c2 fc2 => ?_⟩
        have s4 := same_new (o := .lst (cutV (ps.map fun x => V.ref x.1) (some a) none)) fc2
        have hc2 : (upd H13 c2 (.lst (cutV (ps.map fun x => V.ref x.1) (some a) none))) c2 = some (.lst ((ps.drop a.toNat).map fun x => V.ref x.1)) := by rw [upd_same, cut_fr (fun x : Addr × Rat => V.ref x.1) a0 (by omega)]
        generalize upd H13 c2 (.lst (cutV (ps.map fun x => V.ref x.1) (some a) none)) = H14 at s4 hc2
        refine ⟨c3, c2, _, _, rfl, rfl, s4 _ _ hc3, hc2, by rw [List.length_append, List.length_map, List.length_map, List.length_take, List.length_drop]; show _ + 2 + _ ≤ _; have := line_lt (n := 100) (by decide); omega, fun c4 fc4 => ?_⟩
        have s5 := same_new (o := .lst ((((ps.take a.toNat).map fun x => V.ref x.1) ++ [.ref t1, .ref t2]) ++ ((ps.drop a.toNat).map fun x => V.ref x.1))) fc4
        have s814 := s813.trans s4
        have held14 := held8.same s814
        have P14 := P8.same (s814.trans s5)
        have h1 := s5 _ _ (s4 _ _ (s3 _ _ (sm _ _ (st2 _ _ ht1))))
        have h2 := s5 _ _ (s4 _ _ (s3 _ _ (sm _ _ ht2)))
        refine ⟨c4, _, _, rfl, ps.take a.toNat ++ [(t1, Rat.divInt far (far + 1)), (t2, Rat.divInt (far - 1) (far - 1 + 1))] ++ ps.drop a.toNat, ⟨?_, fun x hx => ?_⟩, ?_, fun x hx => ?_, (held14.same s5).weak (by omega), (Cel.of held14 fc4).kp (Kp.same s5)⟩
        · rw [upd_same]
          simp [List.map_append]
        · rcases List.mem_append.mp hx with z | z
          · rcases List.mem_append.mp z with z | z
            · exact P14.2 x (List.mem_of_mem_take z)
            · rcases List.mem_cons.mp z with z | z
              · rw [z]
                exact h1
              · rw [List.mem_singleton.mp z]
                exact h2
          · exact P14.2 x (List.mem_of_mem_drop z)
        · rw [List.length_append, List.length_append, List.length_take, List.length_drop]
          show _ + 2 + _ ≤ _
          omega
        · rcases List.mem_append.mp hx with z | z
          · rcases List.mem_append.mp z with z | z
            · exact z3 x (List.mem_of_mem_take z)
            · rcases List.mem_cons.mp z with z | z
              · rw [z]
                exact KM.sz_of_low (by omega) (by omega) (by omega)
              · rw [List.mem_singleton.mp z]
                exact KM.sz_of_low (by omega) (by omega) (by omega)
          · exact z3 x (List.mem_of_mem_drop z)
      rintro σ' H5 ⟨pl, w4, w5, rfl, ps, P5, l5, z5, held5, cel5⟩
      -- the Shares
      refine ⟨fun σ' H' => ∃ (sl : Addr) (L : List (Addr × Rat)) (w13 : Option V), σ' = [some (.ref s0), some (.ref h), some (.int (0 + i)), some (.ref pl), w4, w5, some (.ref sl), v7, v8, v9, v10, v11, w12, w13, v14, v15] ∧ Same H5 H' ∧ SL C H' sl L ∧ ratsOf L = ratsOf ps, ?_, ?_⟩
      · refine ⟨_, rfl, pl, rfl, ⟨_, SqL.of P5.1⟩, fun D hD => lc_list (K := K) (xs := ps.map fun x => V.ref x.1) (fun j H' => ∃ L : List (Addr × Rat), Same H5 H' ∧ SL C H' D L ∧ ratsOf L = ratsOf (ps.take j)) ?_ ?_ ?_ ?_⟩
        · exact ⟨[], same_new hD, ⟨upd_same, fun x hx => (nomatch hx)⟩, rfl⟩
        · exact fun j H' _ z => by obtain ⟨_, sm, _⟩ := z; exact SqL.of (sm _ _ P5.1)
        · rintro j v H6 hj ⟨L, s6, S6, er⟩
          rw [List.getElem?_map] at hj
          obtain ⟨x, hx, rfl⟩ := Option.map_eq_some_iff.mp hj
          have hm := List.mem_of_getElem? hx
          have hx6 := s6 _ _ (P5.2 x hm)
          refine ⟨rfl, _, rfl, x.1, _, _, _, rfl, rfl, SqT.of hx6, atI_nat (j := 0) rfl, _, rfl, x.1, _, _, _, rfl, rfl, SqT.of hx6, atI_nat (j := 1) rfl, ?_⟩
          intro t dt nt ndt ne
          refine mk_in (n := 50) nt ndt (by have := KM.den_pos x.2; show (x.2.den : Int) ≠ 0; omega) (by have := (z5 x hm).2; show (x.2.den : Int).natAbs < 2 ^ 50; omega) (by decide) (by decide) fun H7 s7 ht => ⟨rfl, ?_⟩
          have ht : Sh C H7 t (pr x.2) := by
            have e : Rat.divInt x.2.num (x.2.den : Int) = x.2 := Rat.num_divInt_den _
            have ht : Sh C H7 t (pr (Rat.divInt x.2.num (x.2.den : Int))) := ht
            rw [e] at ht
            exact ht
          have S7 := S6.same s7
          have lL : L.length ≤ 20 := by
            have := congrArg List.length er
            unfold ratsOf at this
            rw [List.length_map, List.length_map, List.length_take] at this
            omega
          refine ⟨_, S7.1, by rw [List.length_map]; exact line_lt (by omega), L ++ [(t, x.2)], fun b o e => by rw [upd_ne (ne_of_none e hD)]; exact s7 _ _ (s6 _ _ e), S7.app (t, x.2) ht, ?_⟩
          rw [take_one hx]
          unfold ratsOf at er ⊢
          rw [List.map_append, List.map_append, er]
          rfl
        · rintro H6 ⟨L, s6, S6, er⟩
          rw [List.length_map, List.take_length] at er
          exact ⟨D, L, _, rfl, s6, S6, er⟩
      rintro σ' H6 ⟨sl, L, w13, rfl, s6, S6, er⟩
      have P6 := P5.same s6
      have held6 := held5.same s6
      have lL : L.length ≤ 17 := by
        have := congrArg List.length er
        unfold ratsOf at this
        rw [List.length_map, List.length_map] at this
        omega
      have zL : ∀ x ∈ L, Sz 50 x.2 := fun x hx => by
        have h1 : x.2 ∈ ratsOf ps := by
          rw [← er]
          exact List.mem_map.mpr ⟨x, hx, rfl⟩
        obtain ⟨z, hz, e⟩ := List.mem_map.mp h1
        rw [← e]
        exact z5 z hz
      refine ⟨_, rfl, _, rfl, _, rfl, h, sl, pl, B - 158, L, ps, rfl, held6.weak (by omega), S6, P6, er, by omega, zL, z5, fun H7 held7 k7 => ⟨_, rfl, iteF ?_⟩⟩
      have P7 := P6.kp held6 k7
      have S7 := S6.kp held6 k7
      refine ⟨_, rfl, _, rfl, _, rfl, h, sl, pl, B - 160, L, ps, rfl, held7.weak (by omega), S7, P7, er, by omega, zL, z5, fun H8 held8 k8 => ⟨_, rfl, iteF ?_⟩⟩
      have P8 := P7.kp held7 k8
      have S8 := S7.kp held7 k8
      -- the folk
      refine ⟨_, rfl, _, rfl, h, B - 161, 12, rfl, held8.weak (by omega), by decide, by decide, fun r H9 r0 r1 held9 k9 => ⟨_, _, rfl, rfl, ?_⟩⟩
      obtain ⟨n, hn, n1, n12⟩ : ∃ n : Nat, (1 + r : Int) = (n : Int) ∧ 1 ≤ n ∧ n ≤ 12 := ⟨(1 + r).toNat, by omega, by omega, by omega⟩
      have P9 := P8.kp held8 k9
      have S9 := S8.kp held8 k9
      refine ⟨h, B - 201, n, (by show [V.ref h, V.int (1 + r)] = [V.ref h, V.int (n : Int)]; rw [hn]), held9.weak (by omega), by omega, fun o zs H10 held10 k10 fo ho zl zok zpw => ?_⟩
      have P10 := P9.kp held9 k10
      have S10 := S9.kp held9 k10
      have noh : o ≠ h := held9.ne_new fo
      -- the worths
      refine ⟨fun σ' H' => ∃ (wd : Addr) (w14 : Option V), σ' = [some (.ref s0), some (.ref h), some (.int (0 + i)), some (.ref pl), w4, w5, some (.ref sl), some (.ref o), some (.ref wd), v9, v10, v11, w12, w13, w14, v15] ∧ Wst C h o sl pl wd (B - 400) 12 zs L ps H', ?_, ?_⟩
      · refine ⟨_, rfl, o, rfl, ⟨_, SqL.of ho⟩, fun D hD => lc_list (K := K) (xs := zs.map fun l => V.str (S l)) (fun j H' => ∃ (M : List Str) (pa sa : Str → Addr) (c : Str → Rat), H' D = some (.lst (M.map fun x => V.ref (pa x))) ∧ (∀ x ∈ M, H' (pa x) = some (.tup [.str x, .ref (sa x)]) ∧ H' (sa x) = some (tupP (pr (c x))) ∧ Sz 50 (c x)) ∧ M.Nodup ∧ (∀ x ∈ M, x ∈ (zs.take j).map S) ∧ M.length ≤ j ∧ Held H' h (B - 201 - 11 * j) ∧ Cel h D H' ∧ Kp h H10 H')
          ⟨[], fun _ => 0, fun _ => 0, fun _ => 0, upd_same, fun x hx => (nomatch hx), List.nodup_nil, fun x hx => (nomatch hx), Nat.le_refl _, (held10.same (same_new hD)).weak (by omega), (Cel.of held10 hD).kp (Kp.same (same_new hD)), Kp.same (same_new hD)⟩ (fun j H' _ z => by obtain ⟨_, _, _, _, _, _, _, _, _, _, _, k⟩ := z; exact SqL.of (k.1 _ _ ho noh)) ?_ ?_⟩
        · rintro j v H11 hj ⟨M, pa, sa, c, hD11, hM, ndM, subM, lM, held11, cel11, k11⟩
          rw [List.getElem?_map] at hj
          obtain ⟨z, hz0, rfl⟩ := Option.map_eq_some_iff.mp hj
          have hjl : j < zs.length := (List.getElem?_eq_some_iff.mp hz0).1
          have nz : S z ∉ (zs.take j).map S := fun hm => by
            obtain ⟨y, hy, e⟩ := List.mem_map.mp hm
            have e := S_inj' e
            subst e
            obtain ⟨i', hi', e'⟩ := List.getElem_of_mem hy
            rw [List.getElem_take] at e'
            rw [List.length_take] at hi'
            have := List.pairwise_iff_getElem.mp zpw i' j (by omega) hjl (by omega)
            exact this (by rw [e']; exact (List.getElem?_eq_some_iff.mp hz0).2.symm)
          have nM : S z ∉ M := fun q => nz (subM _ q)
          have keepM : ∀ {H' : Hp}, Kp h H11 H' → (∀ x ∈ M, H' (pa x) = some (.tup [.str x, .ref (sa x)]) ∧ H' (sa x) = some (tupP (pr (c x))) ∧ Sz 50 (c x)) := fun {H'} k x hx => by
            obtain ⟨g1, g2, g3⟩ := hM x hx
            exact ⟨k.1 _ _ g1 (held11.no g1 fun kvs e => by cases e), k.1 _ _ g2 (held11.no g2 fun kvs e => by cases e), g3⟩
          have sub1 : ∀ x ∈ M, x ∈ (zs.take (j + 1)).map S := fun x hx => by
            rw [take_one hz0, List.map_append]
            exact List.mem_append_left _ (subM x hx)
          refine ⟨rfl, _, rfl, h, B - 201 - 11 * j - 1, 4, rfl, held11.weak (by omega), by decide, by decide, fun r H12 r0 r1 held12 k12 => ⟨_, _, rfl, rfl, _, rfl, ?_⟩⟩
          have hD12 := k12.1 _ _ hD11 cel11.ne
          refine ite2 (fun _ => ?_) (fun _ => ⟨M, pa, sa, c, hD12, keepM k12, ndM, sub1, by omega, held12.weak (by omega), cel11.kp k12, k11.trans k12⟩)
          refine ⟨_, rfl, _, rfl, h, B - 201 - 11 * (j + 1), rfl, held12.weak (by omega), fun t v H13 held13 k13 ft ht sv => ?_⟩
          refine ⟨by show 2 ≤ sizeLine; decide, fun q fq => ?_⟩
          have sq := same_new (o := .tup [.str (S z), .ref t]) fq
          have k1114 := (k12.trans k13).trans (Kp.same sq)
          have hD14 := sq _ _ (k13.1 _ _ hD12 cel11.ne)
          have hq14 : (upd H13 q (.tup [.str (S z), .ref t])) q = some (.tup [.str (S z), .ref t]) := upd_same
          have ht14 := sq _ _ ht
          have held14 := held13.same sq
          have M14 := keepM k1114
          have cel14 := cel11.kp k1114
          generalize upd H13 q (.tup [.str (S z), .ref t]) = H14 at k1114 hD14 hq14 ht14 held14 M14 cel14
          have nD : ∀ {p : Addr} {ob : HO}, H14 p = some ob → (∀ ys, ob ≠ .lst ys) → p ≠ D := fun {p ob} e n zz => by
            rw [zz, hD14] at e
            exact n _ (Option.some.inj e).symm
          refine ⟨_, hD14, by rw [List.length_map]; exact line_lt (by omega), M ++ [S z], fun x => if x = S z then q else pa x, fun x => if x = S z then t else sa x, fun x => if x = S z then v else c x, ?_, fun x hx => ?_, ?_, fun x hx => ?_, by rw [List.length_append]; show M.length + 1 ≤ _; omega, held14.put cel14, cel14.put cel14.ne.symm, ?_⟩
          · have e1 : M.map (fun x => V.ref (pa x)) = M.map fun x => V.ref (if x = S z then q else pa x) := List.map_congr_left fun x hx => by rw [if_neg (show ¬ x = S z from fun e => nM (e ▸ hx))]
            rw [upd_same, List.map_append, ← e1]
            simp
          · dsimp only
            by_cases e : x = S z
            · subst e
              rw [if_pos rfl, if_pos rfl, if_pos rfl]
              exact ⟨(upd_ne (nD hq14 fun ys e => by cases e)).trans hq14, (upd_ne (nD ht14 fun ys e => by cases e)).trans ht14, sv.mono (by decide)⟩
            · rw [if_neg e, if_neg e, if_neg e]
              have hx' : x ∈ M := by
                rcases List.mem_append.mp hx with g | g
                · exact g
                · exact absurd (List.mem_singleton.mp g) e
              obtain ⟨g1, g2, g3⟩ := M14 x hx'
              exact ⟨(upd_ne (nD g1 fun ys e => by cases e)).trans g1, (upd_ne (nD g2 fun ys e => by cases e)).trans g2, g3⟩
          · rw [List.nodup_append]
            exact ⟨ndM, by simp, fun a ha b hb e => nM (by rw [List.mem_singleton.mp hb] at e; exact e ▸ ha)⟩
          · rw [take_one hz0, List.map_append]
            rcases List.mem_append.mp hx with g | g
            · exact List.mem_append_left _ (subM x g)
            · exact List.mem_append_right _ g
          · exact Kp.new (k11.trans k1114) hD
        · rintro H11 ⟨M, pa, sa, c, hD11, hM, ndM, subM, lM, held11, cel11, k11⟩
          rw [List.length_map] at lM held11
          refine ⟨D, M.map pa, M.map fun x => ((Sum.inr x : Key), V.ref (sa x)), rfl, by rw [List.map_map]; exact SqL.of hD11, paired_map fun x hx => SqT.of (hM x hx).1, fun q fq => ?_⟩
          have em : mergeK [] (M.map fun x => ((Sum.inr x : Key), V.ref (sa x))) = M.map fun x => ((Sum.inr x : Key), V.ref (sa x)) := DQ.merge_map (fun x => V.ref (sa x)) (l := M) (m := []) ndM
          rw [em]
          have sq := same_new (o := .dK (M.map fun x => ((Sum.inr x : Key), V.ref (sa x)))) fq
          refine ⟨q, _, rfl, M, c, ⟨sa, upd_same, fun x hx => sq _ _ (hM x hx).2.1⟩, ndM, by omega, fun x hx => (hM x hx).2.2, (held11.same sq).weak (by omega), (Cel.of held11 fq).kp (Kp.same sq), (S10.kp held10 k11).same sq, (P10.kp held10 k11).same sq, sq _ _ (k11.1 _ _ ho noh)⟩
      rintro σ' H11 ⟨wd, w14, rfl, M, c, ⟨ad, hd11, hv11⟩, ndM, lM, zM, held11, cel11, S11, P11, ho11⟩
      -- one more
      refine ⟨by show 2 ≤ sizeLine; decide, fun t ft => ?_⟩
      have stt := same_new (o := .tup [.int 1, .int 2]) ft
      have ht12 : (upd H11 t (.tup [.int 1, .int 2])) t = some (tupP (pr (Rat.divInt 1 2))) := by
        rw [upd_same]
        exact congrArg some (congrArg tupP (con_pr (a := 1) (by decide)))
      refine ⟨_, rfl, wd, _, rfl, DPut.k (k := Sum.inr "zzzzzzzz") (stt _ _ hd11) (by rw [List.length_map]; exact line_lt (by omega)), ?_⟩
      have W13 := Wst.put (x := "zzzzzzzz") (stt _ _ hd11) (fun y hy => stt _ _ (hv11 y hy)) ndM lM zM (held11.same stt) (cel11.kp (Kp.same stt)) (S11.same stt) (P11.same stt) (stt _ _ ho11) ht12 (KM.sz_of_low (by decide) (by decide) (by decide))
      generalize upd (upd H11 t (.tup [.int 1, .int 2])) wd (.dK (putK (M.map fun y => ((Sum.inr y : Key), V.ref (ad y))) (Sum.inr "zzzzzzzz") (.ref t))) = H13 at W13
      refine ⟨fun σ' H' => ∃ (w4 : Option V), σ' = [some (.ref s0), some (.ref h), some (.int (0 + i)), some (.ref pl), w4, w5, some (.ref sl), some (.ref o), some (.ref wd), v9, v10, v11, w12, w13, w14, v15] ∧ Wst C h o sl pl wd (B - 402) 15 zs L ps H', ?_, ?_⟩
      · clear ndM lM zM hd11 hv11 held11 cel11 S11 P11 ho11 stt ht12
        obtain ⟨M, c, ⟨ad, hd, hv⟩, nd, lM, zM, held13, cel13, S13, P13, ho13⟩ := W13
        refine ⟨_, rfl, o, _, rfl, .inl (SqL.of ho13), _, _, rfl, rfl, _, rfl, ?_⟩
        refine ite2 (fun _ => ?_) (fun _ => ⟨_, rfl, M, c, ⟨ad, hd, hv⟩, nd, by omega, zM, held13.weak (by omega), cel13, S13, P13, ho13⟩)
        refine ⟨_, rfl, h, B - 401, 3, rfl, held13.weak (by omega), by decide, by decide, fun r H14 r0 r1 held14 k14 => ⟨rfl, _, rfl, ?_⟩⟩
        have hdl : ∀ {H' : Hp} {c' : Nat}, Kp h H13 H' → Held H' h c' → Wst C h o sl pl wd c' 13 zs L ps H' := fun {H' c'} k he =>
          ⟨M, c, TDc.kp ⟨ad, hd, hv⟩ held13 cel13.ne k, nd, lM, zM, he, cel13.kp k, S13.kp held13 k, P13.kp held13 k, k.1 _ _ ho13 noh⟩
        refine ite2 (fun _ => ?_) (fun _ => ?_)
        · refine ⟨_, _, rfl, rfl, ⟨by decide, by decide, by decide⟩, _, rfl, _, _, rfl, rfl, ⟨by decide, by decide, by decide⟩, h, B - 402, _, rfl, held14.weak (by omega), by decide, by decide, fun f1 H15 f10 f11 held15 k15 => ⟨_, _, rfl, rfl, ?_⟩⟩
          have f11 : f1 < 1000000 := f11
          have e13 : (10 : Int) ^ Int.toNat 13 = 10000000000000 := by decide
          obtain ⟨far, hfar⟩ : ∃ far : Int, far = 10 ^ Int.toNat 13 + f1 := ⟨_, rfl⟩
          have far0 : 10000000000000 ≤ far ∧ far < 10000001000000 := by rw [e13] at hfar; omega
          refine ⟨_, rfl, _, _, rfl, rfl, _, rfl, by show 2 ≤ sizeLine; decide, fun t1 ft1 => ?_⟩
          have st1 := same_new (o := .tup [.int (10 ^ Int.toNat 13 + f1 - 1), .int (10 ^ Int.toNat 13 + f1)]) ft1
          have ht1 : (upd H15 t1 (.tup [.int (10 ^ Int.toNat 13 + f1 - 1), .int (10 ^ Int.toNat 13 + f1)])) t1 = some (tupP (pr (Rat.divInt (far - 1) (far - 1 + 1)))) := by
            rw [upd_same, ← con_pr (by omega), hfar, Int.sub_add_cancel]
            rfl
          generalize upd H15 t1 (.tup [.int (10 ^ Int.toNat 13 + f1 - 1), .int (10 ^ Int.toNat 13 + f1)]) = H16 at st1 ht1
          refine ⟨_, rfl, _, rfl, _, _, rfl, rfl, by show 2 ≤ sizeLine; decide, fun t2 ft2 => ?_⟩
          have st2 := same_new (o := .tup [.int (10 ^ Int.toNat 13 + f1), .int (10 ^ Int.toNat 13 + f1 + 1)]) ft2
          have ht2 : (upd H16 t2 (.tup [.int (10 ^ Int.toNat 13 + f1), .int (10 ^ Int.toNat 13 + f1 + 1)])) t2 = some (tupP (pr (Rat.divInt far (far + 1)))) := by
            rw [upd_same, ← con_pr (by omega), hfar]
            rfl
          generalize upd H16 t2 (.tup [.int (10 ^ Int.toNat 13 + f1), .int (10 ^ Int.toNat 13 + f1 + 1)]) = H17 at st2 ht2
          refine ⟨by show 2 ≤ sizeLine; decide, fun u fu => ?_⟩
          have su := same_new (o := .tup [.ref t1, .ref t2]) fu
          have hu18 : (upd H17 u (.tup [.ref t1, .ref t2])) u = some (.tup [.ref t1, .ref t2]) := upd_same
          have h1 := su _ _ (st2 _ _ ht1)
          have h2 := su _ _ ht2
          have k1318 := (k14.trans k15).trans (Kp.same (st1.trans (st2.trans su)))
          have W18 := hdl k1318 (held15.same (st1.trans (st2.trans su)))
          generalize upd H17 u (.tup [.ref t1, .ref t2]) = H18 at su hu18 h1 h2 W18
          obtain ⟨M1, c1, ⟨a1, hd1, hv1⟩, nd1, lM1, zM1, held18, cel18, S18, P18, ho18⟩ := W18
          obtain ⟨zx, _, ex⟩ := pick_last (fun l => V.str (S l)) (L := zs) (by omega)
          refine ⟨u, _, rfl, SqT.of hu18, rfl, _, _, rfl, _, rfl, _, rfl, _, rfl, o, _, -1, _, rfl, rfl, SqL.of ho18, ex, wd, _, rfl, DPut.k (k := Sum.inr (S zx)) hd1 (by rw [List.length_map]; exact line_lt (by omega)), ?_⟩
          have W19 := Wst.put (x := S zx) hd1 hv1 nd1 lM1 zM1 held18 cel18 S18 P18 ho18 h1 (KM.sz_of_low (by omega) (by omega) (by omega))
          have h2' : (upd H18 wd (.dK (putK (M1.map fun y => ((Sum.inr y : Key), V.ref (a1 y))) (Sum.inr (S zx)) (.ref t1)))) t2 = some (tupP (pr (Rat.divInt far (far + 1)))) := by
            rw [upd_ne fun z => by rw [z, hd1] at h2; cases h2]
            exact h2
          generalize upd H18 wd (.dK (putK (M1.map fun y => ((Sum.inr y : Key), V.ref (a1 y))) (Sum.inr (S zx)) (.ref t1))) = H19 at W19 h2'
          obtain ⟨M2, c2, ⟨a2, hd2, hv2⟩, nd2, lM2, zM2, held19, cel19, S19, P19, ho19⟩ := W19
          have z00 : 0 < zs.length := by omega
          refine ⟨_, _, rfl, _, rfl, _, rfl, o, _, 0, .str (S zs[0]), rfl, rfl, SqL.of ho19, atI_nat (j := 0) (by rw [List.getElem?_map, List.getElem?_eq_getElem z00]; rfl), wd, _, rfl, DPut.k (k := Sum.inr (S zs[0])) hd2 (by rw [List.length_map]; exact line_lt (by omega)), rfl, _, rfl, ?_⟩
          have W20 := Wst.put (x := S zs[0]) hd2 hv2 nd2 lM2 zM2 held19 cel19 S19 P19 ho19 h2' (KM.sz_of_low (by omega) (by omega) (by omega))
          obtain ⟨M3, c3, b1, b2, b3, b4, b5, b6, b7, b8, b9⟩ := W20
          exact ⟨M3, c3, b1, b2, b3, b4, b5.weak (by omega), b6, b7, b8, b9⟩
        · obtain ⟨M3, c3, b1, b2, b3, b4, b5, b6, b7, b8, b9⟩ := hdl k14 held14
          exact ⟨_, rfl, M3, c3, b1, b2, by omega, b4, b5.weak (by omega), b6, b7, b8, b9⟩
      clear W13 ndM lM zM hd11 hv11 held11 cel11 S11 P11 ho11 stt ht12
      rintro σ' H14 ⟨w4', rfl, M, c, ⟨ad, hd14, hv14⟩, ndM, lM, zM, held14, cel14, S14, P14, ho14⟩
      have hz : ∀ x ∈ M, Sz 50 (c x) := zM
      -- the table
      refine ⟨wd, _, hd14, trivial, fun od => ?_⟩
      obtain ⟨hd1, kp1, new1, back1⟩ := lockf (C := C) hd14 od
      have hv1 : ∀ x ∈ M, (upd H14 wd (.frz od (dctO M fun x => .ref (ad x)))) (ad x) = some (tupP (pr (c x))) := fun x hx => kp1 _ _ (hv14 x hx) fun z => by have := hv14 x hx; rw [z, hd14] at this; cases this
      generalize upd H14 wd (.frz od (dctO M fun x => .ref (ad x))) = H15 at hd1 kp1 new1 back1 hv1
      refine ⟨_, rfl, wd, od, rfl, .inl ⟨_, hd1, fun D hD => lc_it walk_keys (fun j H2 => ∃ (pa sa : Str → Addr), H2 D = some (.lst ((M.take j).map fun x => V.ref (pa x))) ∧ (∀ x ∈ M.take j, H2 (pa x) = some (.tup [.str x, .ref (sa x)]) ∧ Sh C H2 (sa x) (pr (c x))) ∧ Same H15 H2)
        ⟨fun _ => 0, fun _ => 0, upd_same, fun x hx => by simp at hx, same_new hD⟩ (fun j H2 _ z => by obtain ⟨_, _, _, _, sm⟩ := z; exact sm _ _ hd1) ?_ ?_⟩⟩
      · rintro j x H2 H3 hi ⟨pa, sa, hdd, hval, sm⟩ ⟨eH, kk, v, hkk, rfl⟩
        have eH := eH.symm
        subst eH
        rw [List.length_map] at hi
        rw [List.getElem?_map] at hkk
        obtain ⟨z, hz0, e0⟩ := Option.map_eq_some_iff.mp hkk
        cases e0
        have hzL := List.mem_of_getElem? hz0
        have nz := nin_take ndM hz0
        refine ⟨rfl, ?_⟩
        have dg : DGet H2 wd (.str z) (some (.ref (ad z))) := .inl ⟨_, Sum.inr z, .inr ⟨od, sm _ _ hd1⟩, rfl, by rw [val_dct, if_pos hzL]⟩
        have hvz := sm _ _ (hv1 z hzL)
        refine ⟨_, rfl, _, rfl, _, rfl, wd, _, rfl, dg, ad z, _, _, _, rfl, rfl, SqT.of hvz, atI_nat (j := 0) rfl, _, rfl, _, rfl, wd, _, rfl, dg, ad z, _, _, _, rfl, rfl, SqT.of hvz, atI_nat (j := 1) rfl, ?_⟩
        intro t dt nt ndt ne
        refine mk_in (n := 50) nt ndt (by have := KM.den_pos (c z); show ((c z).den : Int) ≠ 0; omega) (by have := (hz z hzL).2; show ((c z).den : Int).natAbs < 2 ^ 50; omega) (by decide) (by decide) fun H4 s4 ht => ⟨rfl, ?_⟩
        have ht : Sh C H4 t (pr (c z)) := by
          have e : Rat.divInt (c z).num ((c z).den : Int) = c z := Rat.num_divInt_den _
          have ht : Sh C H4 t (pr (Rat.divInt (c z).num ((c z).den : Int))) := ht
          rw [e] at ht
          exact ht
        refine ⟨by show 2 ≤ sizeLine; decide, fun q fq => ?_⟩
        have sq := same_new (o := .tup [.str z, .ref t]) fq
        have s24 := s4.trans sq
        have hD4 := s24 _ _ hdd
        refine ⟨_, hD4, by rw [List.length_map, List.length_take]; exact line_lt (by omega), fun x => if x = z then q else pa x, fun x => if x = z then t else sa x, ?_, fun x hx => ?_, fun b o e => ?_⟩
        · rw [upd_same, take_one hz0, List.map_append]
          have e1 : (M.take j).map (fun x => V.ref (pa x)) = (M.take j).map fun x => V.ref (if x = z then q else pa x) := List.map_congr_left fun x hx => by rw [if_neg (show ¬ x = z from fun e => nz (e ▸ hx))]
          rw [e1]
          simp
        · have nD : ∀ {p : Addr} {o : HO}, (upd H4 q (.tup [.str z, .ref t])) p = some o → (∀ ys, o ≠ .lst ys) → p ≠ D := fun {p o} e n zz => by
            rw [zz, hD4] at e
            exact n _ (Option.some.inj e).symm
          rw [take_one hz0] at hx
          by_cases e : x = z
          · subst e
            dsimp only
            rw [if_pos rfl, if_pos rfl]
            refine ⟨?_, ?_⟩
            · rw [upd_ne (nD upd_same (fun ys e => by cases e))]
              exact upd_same
            · obtain ⟨dx, e⟩ := ht
              have e2 := sq _ _ e
              exact ⟨dx, by rw [upd_ne (nD e2 (fun ys e => by cases e))]; exact e2⟩
          · have hx' : x ∈ M.take j := by
              rcases List.mem_append.mp hx with q' | q'
              · exact q'
              · exact absurd (List.mem_singleton.mp q') e
            obtain ⟨h1, dx, h2⟩ := hval x hx'
            dsimp only
            rw [if_neg e, if_neg e]
            have g1 := s24 _ _ h1
            have g2 := s24 _ _ h2
            exact ⟨by rw [upd_ne (nD g1 (fun ys e => by cases e))]; exact g1, dx, by rw [upd_ne (nD g2 (fun ys e => by cases e))]; exact g2⟩
        · rw [upd_ne (ne_of_none e hD)]
          exact s24 _ _ (sm _ _ e)
      rintro H2' ⟨pa, sa, hdd, hval, sm⟩
      rw [List.length_map, List.take_length] at hdd hval
      obtain ⟨nD, nDd⟩ := new1 D hD
      have hd2 := sm _ _ hd1
      have s02 := back1 H2' sm
      refine ⟨hd2, ?_⟩
      have g0 : (upd H2' wd (dctO M fun x => .ref (ad x))) D = some (.lst (M.map fun x => V.ref (pa x))) := by rw [upd_ne nDd]; exact hdd
      have g1 : ∀ x ∈ M, (upd H2' wd (dctO M fun x => .ref (ad x))) (pa x) = some (.tup [.str x, .ref (sa x)]) ∧ Sh C (upd H2' wd (dctO M fun x => .ref (ad x))) (sa x) (pr (c x)) := fun x hx => by
        obtain ⟨h1, h2⟩ := hval x hx
        exact ⟨by rw [upd_ne fun z => by rw [z, hd2] at h1; cases h1]; exact h1, h2.un (h2.at_frz hd2)⟩
      generalize upd H2' wd (dctO M fun x => .ref (ad x)) = H16 at s02 g0 g1
      refine ⟨D, M.map pa, M.map fun x => ((Sum.inr x : Key), V.ref (sa x)), rfl, by rw [List.map_map]; exact SqL.of g0, paired_map fun x hx => SqT.of (g1 x hx).1, fun tb ftb => ?_⟩
      have em : mergeK [] (M.map fun x => ((Sum.inr x : Key), V.ref (sa x))) = M.map fun x => ((Sum.inr x : Key), V.ref (sa x)) := DQ.merge_map (fun x => V.ref (sa x)) (l := M) (m := []) ndM
      rw [em]
      have sq := same_new (o := .dK (M.map fun x => ((Sum.inr x : Key), V.ref (sa x)))) ftb
      have htb : (upd H16 tb (.dK (M.map fun x => ((Sum.inr x : Key), V.ref (sa x))))) tb = some (.dK (M.map fun x => ((Sum.inr x : Key), V.ref (sa x)))) := upd_same
      have hsa : ∀ x ∈ M, Sh C (upd H16 tb (.dK (M.map fun x => ((Sum.inr x : Key), V.ref (sa x))))) (sa x) (pr (c x)) := fun x hx => (g1 x hx).2.keep sq
      have s1417 := s02.trans sq
      generalize upd H16 tb (.dK (M.map fun x => ((Sum.inr x : Key), V.ref (sa x)))) = H17 at htb hsa s1417
      have ho17 := s1417 _ _ ho14
      have S17 := S14.same s1417
      have P17 := P14.same s1417
      have T17 : TDc H17 wd M c := TDc.same ⟨ad, hd14, hv14⟩ s1417
      have held17 := held14.same s1417
      have ezs : (zs.map fun l => V.str (S l)) = (zs.map S).map V.str := by rw [List.map_map]; rfl
      have okz : ∀ x ∈ zs.map S, PyData.strOk x = true := fun x hx => by
        obtain ⟨l, hl, rfl⟩ := List.mem_map.mp hx
        exact strOk_ok (zok l hl)
      have szg : ∀ x, Sz 50 (get0 M c x) := fun x => by
        unfold get0
        split
        · rename_i hx
          exact hz x hx
        · exact ⟨by decide, by decide⟩
      have shd : ∀ {H' : Hp}, Same H17 H' → ShD C H' tb (M.map fun x => ((Sum.inr x : Key), V.ref (sa x))) (get0 M c) := fun {H'} s => by
        refine ⟨s _ _ htb, fun y v e => ?_, fun y e => ?_⟩
        · rw [val_dct] at e
          split at e
          · rename_i hy
            cases e
            refine ⟨_, rfl, ?_⟩
            unfold get0
            rw [if_pos hy]
            exact (hsa y hy).keep s
          · cases e
        · rw [val_dct] at e
          split at e
          · cases e
          · rename_i hy
            unfold get0
            rw [if_neg hy]
      -- handed on, in order
      refine ⟨_, rfl, o, _, rfl, .inl (SqL.of ho17), fun hn fhn => ?_⟩
      have sn := same_new (o := .lst (zs.map fun l => V.str (S l))) fhn
      have hhn : (upd H17 hn (.lst (zs.map fun l => V.str (S l)))) hn = some (.lst ((zs.map S).map V.str)) := by rw [upd_same, ezs]
      generalize upd H17 hn (.lst (zs.map fun l => V.str (S l))) = H18 at sn hhn
      refine ⟨_, rfl, _, rfl, hn, tb, zs.map S, _, get0 M c, 50, rfl, SqL.of hhn, by rw [List.length_map]; omega, shd sn, szg, by decide, by decide, fun fo2 ys1 H19 s19 ffo hfo pm1 pw1 => ?_⟩
      have s1719 := sn.trans s19
      refine ⟨_, rfl, _, rfl, _, rfl, o, wd, zs.map S, M, c, rfl, by rw [s1719 _ _ ho17, ezs], by rw [List.length_map]; omega, T17.same s1719, hz, fun so H20 ys2 s20 fso hso pm2 pw2 => ?_⟩
      have ey : ys1 = ys2 := le_same pw1 pw2 (pm1.trans pm2.symm)
      subst ey
      have oky : ∀ x ∈ ys1, PyData.strOk x = true := fun x hx => okz x (pm1.mem_iff.mp hx)
      refine ⟨_, _, Dp.lst (SqL.of (s20 _ _ hfo)) (DQ.dp_strs ys1), Dp.lst (SqL.of hso) (DQ.dp_strs ys1), DQ.sh_strs oky, DQ.sh_strs oky, _, rfl, ?_⟩
      rw [DQ.eq_strs]
      refine iteF ?_
      have s1720 := s1719.trans s20
      have hhn20 := s20 _ _ (s19 _ _ hhn)
      have ho20 : H20 o = some (.lst ((zs.map S).map V.str)) := by rw [s1720 _ _ ho17, ezs]
      refine ⟨_, rfl, _, rfl, _, _, Dp.lst (SqL.of hhn20) (DQ.dp_strs _), Dp.lst (SqL.of ho20) (DQ.dp_strs _), DQ.sh_strs okz, DQ.sh_strs okz, _, rfl, ?_⟩
      rw [DQ.eq_strs]
      refine iteF ?_
      have hfo20 := s20 _ _ hfo
      refine ⟨_, rfl, _, _, _, _, true, rfl, ClsV.ty _, TyX.base (TyOf.lst hfo20), kit_ty (by decide +kernel), true, rfl, iteF ?_⟩
      -- more
      have yl : ys1.length ≤ 12 := by rw [pm1.length_eq, List.length_map]; omega
      refine ⟨_, rfl, .inl ⟨rfl, _, SqL.of hfo20⟩, fo2, _, _, rfl, rfl, hfo20, by rw [List.length_map]; exact line_lt (by omega), ?_⟩
      have s21 : Same H17 (upd H20 fo2 (.lst (ys1.map V.str ++ [.str "more"]))) := fun b o' e => by
        rw [upd_ne (ne_of_none (sn _ _ e) ffo)]
        exact s1720 _ _ e
      have hhn21 : (upd H20 fo2 (.lst (ys1.map V.str ++ [.str "more"]))) hn = some (.lst ((zs.map S).map V.str)) := by
        rw [upd_ne (ne_of_none hhn ffo)]
        exact hhn20
      generalize upd H20 fo2 (.lst (ys1.map V.str ++ [.str "more"])) = H21 at s21 hhn21
      refine ⟨_, rfl, _, rfl, rfl, hn, tb, zs.map S, _, get0 M c, 50, rfl, SqL.of hhn21, by rw [List.length_map]; omega, shd s21, szg, by decide, by decide, fun fo3 ys3 H22 s22 ffo3 hfo3 pm3 pw3 => ?_⟩
      have s1722 := s21.trans s22
      refine ⟨_, rfl, _, rfl, o, wd, zs.map S, M, c, rfl, by rw [s1722 _ _ ho17, ezs], by rw [List.length_map]; omega, T17.same s1722, hz, fun so4 H23 ys4 s23 fso4 hso4 pm4 pw4 => ?_⟩
      have ey4 : ys3 = ys4 := le_same pw3 pw4 (pm3.trans pm4.symm)
      subst ey4
      have oky3 : ∀ x ∈ ys3, PyData.strOk x = true := fun x hx => okz x (pm3.mem_iff.mp hx)
      refine ⟨_, _, Dp.lst (SqL.of (s23 _ _ hfo3)) (DQ.dp_strs ys3), Dp.lst (SqL.of hso4) (DQ.dp_strs ys3), DQ.sh_strs oky3, DQ.sh_strs oky3, _, rfl, ?_⟩
      rw [DQ.eq_strs]
      refine iteF ?_
      have s1723 := s1722.trans s23
      have S23 := S17.same s1723
      have P23 := P17.same s1723
      -- what was handed in stays
      refine ⟨_, rfl, sl, rfl, ⟨_, SqL.of S23.1⟩, fun E2 hE2 => lc_list (K := K) (xs := L.map fun x => V.ref x.1) (fun j H' => ∃ qs : List (Addr × Rat), PL H' E2 qs ∧ Same H23 H' ∧ ratsOf qs = ratsOf (L.take j)) ?_ ?_ ?_ ?_⟩
      · exact ⟨[], ⟨upd_same, fun x hx => (nomatch hx)⟩, same_new hE2, rfl⟩
      · exact fun j H' _ z => by obtain ⟨_, _, sm, _⟩ := z; exact SqL.of (sm _ _ S23.1)
      · rintro j v H24 hj ⟨qs, P24, s24, eq24⟩
        rw [List.getElem?_map] at hj
        obtain ⟨x, hx, rfl⟩ := Option.map_eq_some_iff.mp hj
        have hm := List.mem_of_getElem? hx
        refine ⟨rfl, _, rfl, x.1, _, rfl, (S23.2 x hm).keep s24, fun q H25 s25 fq hq => ?_⟩
        have P25 := P24.same s25
        have lq : qs.length ≤ 20 := by
          have := congrArg List.length eq24
          unfold ratsOf at this
          rw [List.length_map, List.length_map, List.length_take] at this
          omega
        refine ⟨_, P25.1, by rw [List.length_map]; exact line_lt (by omega), qs ++ [(q, x.2)], P25.app (q, x.2) hq, fun b o' e => by rw [upd_ne (ne_of_none e hE2)]; exact s25 _ _ (s24 _ _ e), ?_⟩
        rw [take_one hx]
        unfold ratsOf at eq24 ⊢
        rw [List.map_append, List.map_append, eq24]
        rfl
      · rintro H24 ⟨qs, P24, s24, eq24⟩
        rw [List.length_map, List.take_length, er] at eq24
        have P24' := P23.same s24
        have e1 : (qs.map fun x => pr x.2) = ps.map fun x => pr x.2 := by
          have := congrArg (List.map pr) eq24
          unfold ratsOf at this
          rw [List.map_map, List.map_map] at this
          exact this
        have d1 := dp_pl (K := K) qs P24.2
        rw [e1] at d1
        refine ⟨_, rfl, _, _, Dp.lst (SqL.of P24.1) d1, Dp.lst (SqL.of P24'.1) (dp_pl ps P24'.2), DQ.sh_pairs _, DQ.sh_pairs _, _, rfl, ?_⟩
        rw [DQ.eq_pairs]
        refine iteF ?_
        have s1724 := s1723.trans s24
        obtain ⟨ad2, hd24, _⟩ := T17.same s1724
        refine ⟨_, rfl, tb, _, rfl, s1724 _ _ htb, _, rfl, wd, _, rfl, hd24, rfl, _, rfl, ?_⟩
        rw [List.length_map, List.length_map, ne_same]
        refine iteF ?_
        exact ⟨_, _, _, _, _, _, _, _, _, _, _, _, _, _, rfl, (held17.same s1724).weak (by omega)⟩
    · rintro σ H2 ⟨v2, v3, v4, v5, v6, v7, v8, v9, v10, v11, v12, v13, v14, v15, rfl, held2⟩
      exact hQ H2
end
end K03
set_option Elab.async false
set_option linter.all false
set_option maxRecDepth 100000
set_option maxHeartbeats 0
namespace K03
open PySem PySem.Spec PyProof.Rows L2
open C8 (Cal Mak Met pe_c pe_mk pe_mt pe_mt0)
def fa : List He.Fa := [.glo "is_whole", .glo "common_part", .glo "total", .glo "greatest", .glo "in_order", .glo "_law_held", .glo "_law_draw", .glo "_law_names", .glo "_law_low", .glo "_law_add", .glo "_law_pair", .glo "_law_fraction", .glo "_law_total_right", .glo "_law_greatest_right", .glo "_law_sorted", .glo "law", .free "isinstance", .free "int", .free "bool", .free "abs", .free "list", .free "range", .free "len", .free "repr", .free "sorted", .free "dict", .glo "Share", .cls "Share", .mkr "Share", .noat "Share" "top", .noat "Share" "bottom", .meth "Share" "plus", .meth "Share" "below", .meth "Share" "__eq__", .meth "Share" "__repr__"]
def xk (K : PySem.W.Frag) : Bool := (fun K => GX.isB K (He.ga K "Share")) K
abbrev R : PySem.W.OpenRow := PySem.W.OpenLaw.row PySem.Challenge.rw_rideturns_k03_lists_of_shares
abbrev hk : PySem.W.Hook := He.hookX 6 fa fn [] [] xk
def ob (s : PySem.W.SharedT) : He.AlX := He.obsX 6 fa fn [] [] xk (HandSHeadRun.getT s)
theorem ob_eq (s : PySem.W.SharedT) : ob s = hk.obs s.abs := He.obsX_eq (HandSHeadRun.getT_eq s)
abbrev loose : List Str := [("_wall" : Str), ("NoKind" : Str), ("Nought" : Str), ("is_whole" : Str), ("common_part" : Str), ("Share" : Str), ("total" : Str), ("greatest" : Str), ("in_order" : Str), ("_law_held" : Str), ("_law_draw" : Str), ("_law_names" : Str), ("_law_low" : Str), ("_law_add" : Str), ("_law_pair" : Str), ("_law_fraction" : Str), ("_law_total_right" : Str), ("_law_greatest_right" : Str), ("_law_sorted" : Str)]
theorem run_ (w : World) : HandSHeadRun.RunEq R (PySem.W.view R.prog [23]) hk ob 5000 loose w := by
  intro os
  kernel_rfl
theorem cal_of {P : Program} {w : World} {K : PySem.W.Frag} {mg : Str → Option Value} {base : Heap} {f : Addr} {fd : FuncData} {ps : List Str} {k : Nat} {x : Str} {sp : Sp} (F : FnOk P w K mg base CX0 k f fd ps sp) (g : mg x = some (.ref f)) (kp : PySem.W.keepIn K (.ref f) = true) (b : Binds K fd ps []) : Cal P w K mg base k x sp [] :=
  ⟨f, fd, ps, [], F, g, kp, b, .nil⟩
theorem met_of {P : Program} {w : World} {K : PySem.W.Frag} {mg : Str → Option Value} {base : Heap} {f C : Addr} {fd : FuncData} {ps : List Str} {k : Nat} {m : Str} {sp : Sp} (c : Cls K C) (h : Meth K C m f) (F : FnOk P w K mg base CX0 k f fd ps sp) (b : Binds K fd ps []) : Met P w K mg base k C m sp [] :=
  ⟨f, fd, ps, [], c, h, F, b, .nil⟩
theorem facts {P : Program} {w : World} {K : PySem.W.Frag} {h h0 : Heap} {mg : Str → Option Value} {f : Addr} (X : K.In h) (G : h.Ns mainGlobals mg) (hfa : mg ("law" : Str) = some (.ref f)) (c : He.SaysX fa fn [] [] xk w h0 K) :
    ∃ fd : FuncData, (∀ (s : Shared) (v : Value), BindsTo s fd ⟨[v], []⟩ [("_law_script", v)]) ∧ ∀ base : Heap, K.In base → base.Ns mainGlobals mg → GL.FnG P w K mg base 7 f fd ["_law_script"] (spLaw K) := by
  have d := c.t.d
  have x := c.more
  have gl : ∀ (i : Nat) (x : Str), fa[i]? = some (.glo x) → mg x = some (.ref (He.ga K x)) := fun i x e => He.glo_ok X G (d.fact i e)
  have fr : ∀ (i : Nat) (x : Str), fa[i]? = some (.free x) → mg x = none := fun i x e => He.free_ok X G (d.fact i e)
  have me : ∀ (i : Nat) (C m : Str), fa[i]? = some (.meth C m) → Meth K (He.ga K C) m (He.ma K (He.ga K C) m) := fun i C m e => He.meth_ok (d.fact i e)
  have gl_is_whole := gl 0 "is_whole" rfl
  have gl_common_part := gl 1 "common_part" rfl
  have gl_total := gl 2 "total" rfl
  have gl_greatest := gl 3 "greatest" rfl
  have gl_in_order := gl 4 "in_order" rfl
  have gl__law_held := gl 5 "_law_held" rfl
  have gl__law_draw := gl 6 "_law_draw" rfl
  have gl__law_names := gl 7 "_law_names" rfl
  have gl__law_low := gl 8 "_law_low" rfl
  have gl__law_add := gl 9 "_law_add" rfl
  have gl__law_pair := gl 10 "_law_pair" rfl
  have gl__law_fraction := gl 11 "_law_fraction" rfl
  have gl__law_total_right := gl 12 "_law_total_right" rfl
  have gl__law_greatest_right := gl 13 "_law_greatest_right" rfl
  have gl__law_sorted := gl 14 "_law_sorted" rfl
  have gl_law := gl 15 "law" rfl
  have fr_isinstance := fr 16 "isinstance" rfl
  have fr_int := fr 17 "int" rfl
  have fr_bool := fr 18 "bool" rfl
  have fr_abs := fr 19 "abs" rfl
  have fr_list := fr 20 "list" rfl
  have fr_range := fr 21 "range" rfl
  have fr_len := fr 22 "len" rfl
  have fr_repr := fr 23 "repr" rfl
  have fr_sorted := fr 24 "sorted" rfl
  have fr_dict := fr 25 "dict" rfl
  have gl_Share := gl 26 "Share" rfl
  have cls_Share := He.cls_ok (d.fact 27 (f := .cls "Share") rfl)
  have mk_Share := He.mkr_ok (d.fact 28 (f := .mkr "Share") rfl)
  have no_Share_top := He.noat_ok (d.fact 29 (f := .noat "Share" "top") rfl)
  have no_Share_bottom := He.noat_ok (d.fact 30 (f := .noat "Share" "bottom") rfl)
  have me_Share_plus := me 31 "Share" "plus" rfl
  have me_Share_below := me 32 "Share" "below" rfl
  have me_Share_eq := me 33 "Share" "__eq__" rfl
  have me_Share_repr := me 34 "Share" "__repr__" rfl
  obtain ⟨fd_is_whole, D_is_whole⟩ := d.def_ 3 (d := d_is_whole) rfl
  obtain ⟨fd_common_part, D_common_part⟩ := d.def_ 4 (d := d_common_part) rfl
  obtain ⟨fd_Share_init, D_Share_init⟩ := d.def_ 5 (d := d_Share_init) rfl
  obtain ⟨fd_Share_eq, D_Share_eq⟩ := d.def_ 6 (d := d_Share_eq) rfl
  obtain ⟨fd_Share_repr, D_Share_repr⟩ := d.def_ 8 (d := d_Share_repr) rfl
  obtain ⟨fd_Share_plus, D_Share_plus⟩ := d.def_ 9 (d := d_Share_plus) rfl
  obtain ⟨fd_Share_below, D_Share_below⟩ := d.def_ 13 (d := d_Share_below) rfl
  obtain ⟨fd_total, D_total⟩ := d.def_ 15 (d := d_total) rfl
  obtain ⟨fd_greatest, D_greatest⟩ := d.def_ 16 (d := d_greatest) rfl
  obtain ⟨fd_in_order, D_in_order⟩ := d.def_ 17 (d := d_in_order) rfl
  obtain ⟨fd_l_held, D_l_held⟩ := d.def_ 18 (d := d_l_held) rfl
  obtain ⟨fd_l_draw, D_l_draw⟩ := d.def_ 19 (d := d_l_draw) rfl
  obtain ⟨fd_l_names, D_l_names⟩ := d.def_ 20 (d := d_l_names) rfl
  obtain ⟨fd_l_low, D_l_low⟩ := d.def_ 21 (d := d_l_low) rfl
  obtain ⟨fd_l_add, D_l_add⟩ := d.def_ 22 (d := d_l_add) rfl
  obtain ⟨fd_l_pair, D_l_pair⟩ := d.def_ 23 (d := d_l_pair) rfl
  obtain ⟨fd_l_fraction, D_l_fraction⟩ := d.def_ 24 (d := d_l_fraction) rfl
  obtain ⟨fd_l_total_right, D_l_total_right⟩ := d.def_ 25 (d := d_l_total_right) rfl
  obtain ⟨fd_l_greatest_right, D_l_greatest_right⟩ := d.def_ 26 (d := d_l_greatest_right) rfl
  obtain ⟨fd_l_sorted, D_l_sorted⟩ := d.def_ 27 (d := d_l_sorted) rfl
  obtain ⟨fd_law, D_law⟩ := d.def_ 28 (d := d_law) rfl
  have e := hfa.symm.trans gl_law
  cases e
  have bL := FunD.bindsA (ps := ["_law_script"]) D_law fun _ _ _ _ _ _ us hl => match us, hl with | [_], _ => rfl
  refine ⟨fd_law, fun s v => bL s [v] rfl, fun base _ _ => ?_⟩
  have b_is_whole : Binds K fd_is_whole ["thing"] [] := D_is_whole.bindsN fun _ _ _ _ _ _ us hl => match us, hl with | [_], _ => rfl
  have b_common_part : Binds K fd_common_part ["one", "other"] [] := D_common_part.bindsN fun _ _ _ _ _ _ us hl => match us, hl with | [_, _], _ => rfl
  have b_Share_init : Binds K fd_Share_init ["self", "top", "bottom"] [] := by
    obtain ⟨ds, h1, h2⟩ := D_Share_init.binds1 (ps := ["self", "top", "bottom"]) 3 1 (List.cons_ne_nil _ _) rfl (fun T kV doc pm an cdv ct us its hl h1 => match us, hl, its, h1 with | [_, _, _], _, [_], _ => ⟨_, rfl, rfl⟩)
    cases h1
    exact h2
  obtain ⟨ds1_Share_init, v1_Share_init, b1_Share_init⟩ := D_Share_init.binds1 (ps := ["self", "top", "bottom"]) 2 0 (List.cons_ne_nil _ _) rfl (fun T kV doc pm an cdv ct us its hl h1 => match us, hl, its, h1 with | [_, _], _, [_], _ => ⟨_, rfl, rfl⟩)
  have b_Share_eq : Binds K fd_Share_eq ["self", "other"] [] := D_Share_eq.bindsN fun _ _ _ _ _ _ us hl => match us, hl with | [_, _], _ => rfl
  have b_Share_repr : Binds K fd_Share_repr ["self"] [] := D_Share_repr.bindsN fun _ _ _ _ _ _ us hl => match us, hl with | [_], _ => rfl
  have b_Share_plus : Binds K fd_Share_plus ["self", "other"] [] := D_Share_plus.bindsN fun _ _ _ _ _ _ us hl => match us, hl with | [_, _], _ => rfl
  have b_Share_below : Binds K fd_Share_below ["self", "other"] [] := D_Share_below.bindsN fun _ _ _ _ _ _ us hl => match us, hl with | [_, _], _ => rfl
  have b_total : Binds K fd_total ["shares", "start"] [] := by
    obtain ⟨ds, h1, h2⟩ := D_total.binds1 (ps := ["shares", "start"]) 2 1 (List.cons_ne_nil _ _) rfl (fun T kV doc pm an cdv ct us its hl h1 => match us, hl, its, h1 with | [_, _], _, [_], _ => ⟨_, rfl, rfl⟩)
    cases h1
    exact h2
  obtain ⟨ds1_total, v1_total, b1_total⟩ := D_total.binds1 (ps := ["shares", "start"]) 1 0 (List.cons_ne_nil _ _) rfl (fun T kV doc pm an cdv ct us its hl h1 => match us, hl, its, h1 with | [_], _, [_], _ => ⟨_, rfl, rfl⟩)
  have b_greatest : Binds K fd_greatest ["shares", "none"] [] := by
    obtain ⟨ds, h1, h2⟩ := D_greatest.binds1 (ps := ["shares", "none"]) 2 1 (List.cons_ne_nil _ _) rfl (fun T kV doc pm an cdv ct us its hl h1 => match us, hl, its, h1 with | [_, _], _, [_], _ => ⟨_, rfl, rfl⟩)
    cases h1
    exact h2
  obtain ⟨ds1_greatest, v1_greatest, b1_greatest⟩ := D_greatest.binds1 (ps := ["shares", "none"]) 1 0 (List.cons_ne_nil _ _) rfl (fun T kV doc pm an cdv ct us its hl h1 => match us, hl, its, h1 with | [_], _, [_], _ => ⟨_, rfl, rfl⟩)
  have b_in_order : Binds K fd_in_order ["names", "shares"] [] := D_in_order.bindsN fun _ _ _ _ _ _ us hl => match us, hl with | [_, _], _ => rfl
  have b_l_held : Binds K fd_l_held ["_law_script"] [] := D_l_held.bindsN fun _ _ _ _ _ _ us hl => match us, hl with | [_], _ => rfl
  have b_l_draw : Binds K fd_l_draw ["_law_held_here", "_law_many"] [] := D_l_draw.bindsN fun _ _ _ _ _ _ us hl => match us, hl with | [_, _], _ => rfl
  have b_l_names : Binds K fd_l_names ["_law_held_here", "_law_many"] [] := D_l_names.bindsN fun _ _ _ _ _ _ us hl => match us, hl with | [_, _], _ => rfl
  have b_l_low : Binds K fd_l_low ["_law_top", "_law_bottom"] [] := D_l_low.bindsN fun _ _ _ _ _ _ us hl => match us, hl with | [_, _], _ => rfl
  have b_l_add : Binds K fd_l_add ["_law_one", "_law_other"] [] := D_l_add.bindsN fun _ _ _ _ _ _ us hl => match us, hl with | [_, _], _ => rfl
  have b_l_pair : Binds K fd_l_pair ["_law_share"] [] := D_l_pair.bindsN fun _ _ _ _ _ _ us hl => match us, hl with | [_], _ => rfl
  have b_l_fraction : Binds K fd_l_fraction ["_law_held_here"] [] := D_l_fraction.bindsN fun _ _ _ _ _ _ us hl => match us, hl with | [_], _ => rfl
  have b_l_total_right : Binds K fd_l_total_right ["_law_held_here", "_law_some", "_law_pairs"] [] := D_l_total_right.bindsN fun _ _ _ _ _ _ us hl => match us, hl with | [_, _, _], _ => rfl
  have b_l_greatest_right : Binds K fd_l_greatest_right ["_law_held_here", "_law_some", "_law_pairs"] [] := D_l_greatest_right.bindsN fun _ _ _ _ _ _ us hl => match us, hl with | [_, _, _], _ => rfl
  have b_l_sorted : Binds K fd_l_sorted ["_law_folk", "_law_worths"] [] := D_l_sorted.bindsN fun _ _ _ _ _ _ us hl => match us, hl with | [_, _], _ => rfl
  have b_law : Binds K fd_law ["_law_script"] [] := D_law.bindsN fun _ _ _ _ _ _ us hl => match us, hl with | [_], _ => rfl
  unfold xk GX.isB at x
  simp only [Bool.and_eq_true, decide_eq_true_eq] at x
  obtain ⟨y1, y2, y3, y4⟩ := x
  have IC : IsC K (He.ga K "Share") := ⟨He.eqO_ok y1, He.eqO_ok y2, y3, y4, by unfold PySem.W.kitOne; rw [if_pos (beq_self_eq_true _)]⟩
  have B : Bl mg := ⟨fr_isinstance, fr_int, fr_bool, fr_abs, fr_list, fr_range, fr_len⟩
  have T : Cl K mg (He.ga K "Share") := ⟨cls_Share, no_Share_top, no_Share_bottom, gl_Share⟩
  have cW : CalW P w K mg base := cal_of (ok_whole D_is_whole B) gl_is_whole D_is_whole.kp b_is_whole
  have cG : CalG P w K mg base := cal_of (ok_gcd D_common_part B) gl_common_part D_common_part.kp b_common_part
  have MS : MakS P w K mg base (He.ga K "Share") := ⟨_, _, _, _, mk_Share, ok_init D_Share_init cW cG T, T.g, b_Share_init, .nil⟩
  have M1 : MakS1 P w K mg base (He.ga K "Share") := ⟨_, _, _, _, mk_Share, ok_init D_Share_init cW cG T, T.g, b1_Share_init, v1_Share_init⟩
  have mP : Met P w K mg base 4 (He.ga K "Share") "plus" (sp2 (He.ga K "Share") (· + ·)) [] := met_of T.cl me_Share_plus ((ok_plus D_Share_plus MS T).imp fun _ _ _ _ => plusR) b_Share_plus
  have mB : Met P w K mg base 1 (He.ga K "Share") "below" (spLt (He.ga K "Share")) [] := met_of T.cl me_Share_below ((ok_below D_Share_below T).imp fun _ _ _ _ => belowR) b_Share_below
  have SE : OW.Spc P w K mg base 1 (He.ga K "Share") "__eq__" (spEq (He.ga K "Share")) := ⟨_, _, _, me_Share_eq.at_, me_Share_eq.fn, ok_eq D_Share_eq B T IC, b_Share_eq⟩
  have SR : OW.Spc P w K mg base 1 (He.ga K "Share") "__repr__" (spStr (He.ga K "Share") rpS) := ⟨_, _, _, me_Share_repr.at_, me_Share_repr.fn, ok_repr D_Share_repr T, b_Share_repr⟩
  have FT := ok_total (K := K) D_total M1 mP
  have cT0 : Cal P w K mg base 5 "total" (spTotal K (He.ga K "Share")) [.int 0] := ⟨_, _, _, _, FT, gl_total, D_total.kp, b1_total, v1_total⟩
  have cT : Cal P w K mg base 5 "total" (spTotal K (He.ga K "Share")) [] := cal_of FT gl_total D_total.kp b_total
  have FG := ok_gr (K := K) D_greatest B mB
  have cG0 : Cal P w K mg base 2 "greatest" (spGr K (He.ga K "Share")) [.non] := ⟨_, _, _, _, FG, gl_greatest, D_greatest.kp, b1_greatest, v1_greatest⟩
  have cG2 : Cal P w K mg base 2 "greatest" (spGr K (He.ga K "Share")) [] := cal_of FG gl_greatest D_greatest.kp b_greatest
  have FI := ok_in_order (K := K) D_in_order B fr_sorted M1 mB
  have cIO := cal_of FI gl_in_order D_in_order.kp b_in_order
  obtain ⟨i1, k1⟩ := KW.kb1 (ps := ["shares", "start"]) D_total 1 ["start"] (fun us its ws => us ++ ws) (List.cons_ne_nil _ _) (fun r _ s => r.append s) (fun T kV doc pm an cdv ct us its ws h1 h2 h3 => match us, h1, its, h2, ws, h3 with | [_], _, [_], _, [_], _ => ⟨_, rfl, rfl⟩)
  obtain ⟨i2, k2⟩ := KW.kb1 (ps := ["shares", "start"]) D_total 0 ["start", "shares"] (fun us its ws => us ++ ws.reverse) (List.cons_ne_nil _ _) (fun r _ s => r.append (KW.vals_rev s)) (fun T kV doc pm an cdv ct us its ws h1 h2 h3 => match us, h1, its, h2, ws, h3 with | [], _, [_], _, [_, _], _ => ⟨_, rfl, rfl⟩)
  obtain ⟨i3, k3⟩ := KW.kb1 (ps := ["shares", "none"]) D_greatest 1 ["none"] (fun us its ws => us ++ ws) (List.cons_ne_nil _ _) (fun r _ s => r.append s) (fun T kV doc pm an cdv ct us its ws h1 h2 h3 => match us, h1, its, h2, ws, h3 with | [_], _, [_], _, [_], _ => ⟨_, rfl, rfl⟩)
  have k4 := KW.kb0 (ps := ["names", "shares"]) D_in_order 0 ["shares", "names"] (fun us ws => us ++ ws.reverse) (fun r s => r.append (KW.vals_rev s)) (fun kV doc pm an cdv ct us ws h1 h2 => match us, h1, ws, h2 with | [], _, [_, _], _ => rfl)
  have cH := cal_of (P := P) (w := w) (base := base) (ok_held D_l_held B) gl__law_held D_l_held.kp b_l_held
  have cD : CalD P w K mg base := cal_of (ok_draw D_l_draw B) gl__law_draw D_l_draw.kp b_l_draw
  have cNm := cal_of (ok_names D_l_names B cD) gl__law_names D_l_names.kp b_l_names
  have cLo : CalL P w K mg base := cal_of (ok_low D_l_low B) gl__law_low D_l_low.kp b_l_low
  have cA := cal_of (ok_add D_l_add cLo) gl__law_add D_l_add.kp b_l_add
  have cP := cal_of (P := P) (w := w) (base := base) (ok_pair D_l_pair B T IC) gl__law_pair D_l_pair.kp b_l_pair
  have cFr := cal_of (ok_fr D_l_fraction cD cLo) gl__law_fraction D_l_fraction.kp b_l_fraction
  have cTR := cal_of (ok_tr D_l_total_right cD cA cP cT0 cT FT gl_total D_total.kp k1 k2) gl__law_total_right D_l_total_right.kp b_l_total_right
  have cGR : GL.CalG P w K mg base 6 "_law_greatest_right" (spGRt (He.ga K "Share")) [] := ⟨_, _, _, _, ok_grt D_l_greatest_right B fr_repr M1 cD cP SE SR cG0 cG2 FG gl_greatest D_greatest.kp k3, gl__law_greatest_right, D_l_greatest_right.kp, b_l_greatest_right, .nil⟩
  have cSo := cal_of (P := P) (w := w) (base := base) (ok_so D_l_sorted B) gl__law_sorted D_l_sorted.kp b_l_sorted
  exact ok_law D_law B fr_dict MS cH cD cNm cFr cP cTR cGR cSo cIO FI gl_in_order D_in_order.kp k4
end K03
open PySem PySem.W PySem.Calls PyProof.Rows
set_option maxRecDepth 100000 in
set_option maxHeartbeats 0 in
theorem PySem.Challenge.cw_rideturns_k03_lists_of_shares_holds : PySem.Challenge.rw_rideturns_k03_lists_of_shares.Holds := by
  w_on; o_law
  refine HandSHeadRun.head_any (r := OpenLaw.row PySem.Challenge.rw_rideturns_k03_lists_of_shares) (q := view (OpenLaw.row PySem.Challenge.rw_rideturns_k03_lists_of_shares).prog [23]) (H := K03.hk) (ob := K03.ob) (M := 5000) (loose := K03.loose) (d := HandSHeadRun.topDef (OpenLaw.row PySem.Challenge.rw_rideturns_k03_lists_of_shares).prog 23) (kwd := []) K03.ob_eq
    (by kernel_rfl) (fun s => by kernel_rfl) K03.run_ (by kernel_rfl) (by kernel_rfl) (by kernel_rfl) (by rfl) (by first | assumption | decide +kernel) (by decide +kernel) ⟨rfl, rfl, rfl, rfl, rfl, by decide +kernel⟩ ?hw ?hc
  case hw => w_witness2
  case hc =>
    refine GL.walkG (l := PySem.Challenge.rw_rideturns_k03_lists_of_shares) (n := 63) (k := 7) (x := "_law_script") rfl (by decide) (by kernel_rfl) ⟨rfl, by decide, by decide⟩ ?F
    intro w mg fa h Y G hmg0
    obtain ⟨K, KX, c⟩ := Y
    have hmg : mg ("law" : PySem.Str) = some (.ref fa) := by
      have e : (HandSHeadRun.topDef (OpenLaw.row PySem.Challenge.rw_rideturns_k03_lists_of_shares).prog 23).name = ("law" : PySem.Str) := by kernel_rfl
      rw [← e]
      exact hmg0
    obtain ⟨fd, hb, hF⟩ := K03.facts (P := (PySem.Challenge.rw_rideturns_k03_lists_of_shares).prog) (w := w) KX G hmg c
    exact ⟨K, fd, K03.spLaw K, KX, hb, fun H a ns hl hS => ⟨a, ns, rfl, hS, hl, fun _ => rfl⟩, hF⟩
