import PyProof.Rows.All
import Wide.All
import OpenK.AllK
import Wide.FinOn
import HandS.ForMost
import HandS.ForExc
import HandS.Defaults
import HandS.Codes
import HandS.IsInst
import HandS.Wide
import HandS.Flow
import HandS.Evl
import HandS.Steps
import HandS.ExcField
import HandS.Head0
import HandS.Head1
import HandS.Head2
import HandS.HeadEnd
import HandS.HeadHook1
import HandS.HeadHook2
import HandS.HeadHook3
import HandS.HeadHook4
import KE.KExcInit
import HandS.ExcInit
import HandS.Style
import HandS.Comp
import HandS.Text
import HandS.More
import PyProof.StrOps2
import HandS.List
import HandS.Call
import KE.SortCalls
import KE.SortKeyed
import KE.KCallOwn
import PyProof.ReprRoads
import PyProof.ReprDict
import HandS.Iter
import HandS.OwnEq
import HandS.DictTup
import KE.SortData
import HandS.Deep
import HandS.Dict
import KE.LtData
import KE.DataMinMax
import PyProof.Rows.CallKwBuiltin
import HandS.Words
import HandS.MakeKw
import HandS.MakeKwOnly
import HandS.ExcOwn
import HandS.Walk
import HandS.Star
import HandS.TryOnly
import HandS.TupAny
import PySem.Challenge.RW_rideturns_k20_whole_all_are_carried
set_option Elab.async false
set_option linter.all false
set_option maxRecDepth 100000
set_option maxHeartbeats 4000000
namespace K20
open PySem PySem.Spec PyProof.Rows L2
def top (i : Nat) : Stmt := PySem.Challenge.pw_rideturns_k20_whole_all_are_carried.main.body.getD i (.Pass ⟨0, 0, 0, 0⟩)
abbrev s__wall : Stmt := top 0
abbrev N__wall : List Str := ["k"]
theorem sc__wall : FnScope N__wall ["k"] (defScope s__wall) := ⟨rfl, rfl, rfl, by decide +kernel, rfl, by decide +kernel, by decide +kernel⟩
def d__wall : He.DefD := ⟨("_wall", none), "_wall", "_wall", defArgs s__wall, defBody s__wall, defScope s__wall, [], []⟩
abbrev s_NoKind_init : Stmt := inClass (top 2) 0
abbrev N_NoKind_init : List Str := ["self", "thing"]
theorem sc_NoKind_init : FnScope N_NoKind_init ["self", "thing"] (defScope s_NoKind_init) := ⟨rfl, rfl, rfl, by decide +kernel, rfl, by decide +kernel, by decide +kernel⟩
def d_NoKind_init : He.DefD := ⟨("NoKind", some "__init__"), "__init__", "NoKind.__init__", defArgs s_NoKind_init, defBody s_NoKind_init, defScope s_NoKind_init, [], []⟩
abbrev s_Nought_init : Stmt := inClass (top 3) 0
abbrev N_Nought_init : List Str := ["self", "top"]
theorem sc_Nought_init : FnScope N_Nought_init ["self", "top"] (defScope s_Nought_init) := ⟨rfl, rfl, rfl, by decide +kernel, rfl, by decide +kernel, by decide +kernel⟩
def d_Nought_init : He.DefD := ⟨("Nought", some "__init__"), "__init__", "Nought.__init__", defArgs s_Nought_init, defBody s_Nought_init, defScope s_Nought_init, [], []⟩
abbrev s_NoName_init : Stmt := inClass (top 4) 0
abbrev N_NoName_init : List Str := ["self", "name"]
theorem sc_NoName_init : FnScope N_NoName_init ["self", "name"] (defScope s_NoName_init) := ⟨rfl, rfl, rfl, by decide +kernel, rfl, by decide +kernel, by decide +kernel⟩
def d_NoName_init : He.DefD := ⟨("NoName", some "__init__"), "__init__", "NoName.__init__", defArgs s_NoName_init, defBody s_NoName_init, defScope s_NoName_init, [], []⟩
abbrev s_NoSeats_init : Stmt := inClass (top 5) 0
abbrev N_NoSeats_init : List Str := ["self", "lack"]
theorem sc_NoSeats_init : FnScope N_NoSeats_init ["self", "lack"] (defScope s_NoSeats_init) := ⟨rfl, rfl, rfl, by decide +kernel, rfl, by decide +kernel, by decide +kernel⟩
def d_NoSeats_init : He.DefD := ⟨("NoSeats", some "__init__"), "__init__", "NoSeats.__init__", defArgs s_NoSeats_init, defBody s_NoSeats_init, defScope s_NoSeats_init, [], []⟩
abbrev s_is_whole : Stmt := top 7
abbrev N_is_whole : List Str := ["thing"]
theorem sc_is_whole : FnScope N_is_whole ["thing"] (defScope s_is_whole) := ⟨rfl, rfl, rfl, by decide +kernel, rfl, by decide +kernel, by decide +kernel⟩
def d_is_whole : He.DefD := ⟨("is_whole", none), "is_whole", "is_whole", defArgs s_is_whole, defBody s_is_whole, defScope s_is_whole, [], []⟩
abbrev s_common_part : Stmt := top 9
abbrev N_common_part : List Str := ["one", "other"]
theorem sc_common_part : FnScope N_common_part ["one", "other"] (defScope s_common_part) := ⟨rfl, rfl, rfl, by decide +kernel, rfl, by decide +kernel, by decide +kernel⟩
def d_common_part : He.DefD := ⟨("common_part", none), "common_part", "common_part", defArgs s_common_part, defBody s_common_part, defScope s_common_part, [], []⟩
abbrev s_Share_init : Stmt := inClass (top 10) 0
abbrev N_Share_init : List Str := ["self", "top", "bottom", "thing", "common"]
theorem sc_Share_init : FnScope N_Share_init ["self", "top", "bottom"] (defScope s_Share_init) := ⟨rfl, rfl, rfl, by decide +kernel, rfl, by decide +kernel, by decide +kernel⟩
def d_Share_init : He.DefD := ⟨("Share", some "__init__"), "__init__", "Share.__init__", defArgs s_Share_init, defBody s_Share_init, defScope s_Share_init, [.int 1], []⟩
abbrev s_Share_eq : Stmt := inClass (top 10) 1
abbrev N_Share_eq : List Str := ["self", "other"]
theorem sc_Share_eq : FnScope N_Share_eq ["self", "other"] (defScope s_Share_eq) := ⟨rfl, rfl, rfl, by decide +kernel, rfl, by decide +kernel, by decide +kernel⟩
def d_Share_eq : He.DefD := ⟨("Share", some "__eq__"), "__eq__", "Share.__eq__", defArgs s_Share_eq, defBody s_Share_eq, defScope s_Share_eq, [], []⟩
abbrev s_Share_str : Stmt := inClass (top 10) 2
abbrev N_Share_str : List Str := ["self"]
theorem sc_Share_str : FnScope N_Share_str ["self"] (defScope s_Share_str) := ⟨rfl, rfl, rfl, by decide +kernel, rfl, by decide +kernel, by decide +kernel⟩
def d_Share_str : He.DefD := ⟨("Share", some "__str__"), "__str__", "Share.__str__", defArgs s_Share_str, defBody s_Share_str, defScope s_Share_str, [], []⟩
abbrev s_Share_repr : Stmt := inClass (top 10) 3
abbrev N_Share_repr : List Str := ["self"]
theorem sc_Share_repr : FnScope N_Share_repr ["self"] (defScope s_Share_repr) := ⟨rfl, rfl, rfl, by decide +kernel, rfl, by decide +kernel, by decide +kernel⟩
def d_Share_repr : He.DefD := ⟨("Share", some "__repr__"), "__repr__", "Share.__repr__", defArgs s_Share_repr, defBody s_Share_repr, defScope s_Share_repr, [], []⟩
abbrev s_Share_plus : Stmt := inClass (top 10) 4
abbrev N_Share_plus : List Str := ["self", "other"]
theorem sc_Share_plus : FnScope N_Share_plus ["self", "other"] (defScope s_Share_plus) := ⟨rfl, rfl, rfl, by decide +kernel, rfl, by decide +kernel, by decide +kernel⟩
def d_Share_plus : He.DefD := ⟨("Share", some "plus"), "plus", "Share.plus", defArgs s_Share_plus, defBody s_Share_plus, defScope s_Share_plus, [], []⟩
abbrev s_Share_less : Stmt := inClass (top 10) 5
abbrev N_Share_less : List Str := ["self", "other"]
theorem sc_Share_less : FnScope N_Share_less ["self", "other"] (defScope s_Share_less) := ⟨rfl, rfl, rfl, by decide +kernel, rfl, by decide +kernel, by decide +kernel⟩
def d_Share_less : He.DefD := ⟨("Share", some "less"), "less", "Share.less", defArgs s_Share_less, defBody s_Share_less, defScope s_Share_less, [], []⟩
abbrev s_Share_times : Stmt := inClass (top 10) 6
abbrev N_Share_times : List Str := ["self", "many"]
theorem sc_Share_times : FnScope N_Share_times ["self", "many"] (defScope s_Share_times) := ⟨rfl, rfl, rfl, by decide +kernel, rfl, by decide +kernel, by decide +kernel⟩
def d_Share_times : He.DefD := ⟨("Share", some "times"), "times", "Share.times", defArgs s_Share_times, defBody s_Share_times, defScope s_Share_times, [], []⟩
abbrev s_Share_over : Stmt := inClass (top 10) 7
abbrev N_Share_over : List Str := ["self", "many"]
theorem sc_Share_over : FnScope N_Share_over ["self", "many"] (defScope s_Share_over) := ⟨rfl, rfl, rfl, by decide +kernel, rfl, by decide +kernel, by decide +kernel⟩
def d_Share_over : He.DefD := ⟨("Share", some "over"), "over", "Share.over", defArgs s_Share_over, defBody s_Share_over, defScope s_Share_over, [], []⟩
abbrev s_Share_below : Stmt := inClass (top 10) 8
abbrev N_Share_below : List Str := ["self", "other"]
theorem sc_Share_below : FnScope N_Share_below ["self", "other"] (defScope s_Share_below) := ⟨rfl, rfl, rfl, by decide +kernel, rfl, by decide +kernel, by decide +kernel⟩
def d_Share_below : He.DefD := ⟨("Share", some "below"), "below", "Share.below", defArgs s_Share_below, defBody s_Share_below, defScope s_Share_below, [], []⟩
abbrev s_Share_whole : Stmt := inClass (top 10) 9
abbrev N_Share_whole : List Str := ["self"]
theorem sc_Share_whole : FnScope N_Share_whole ["self"] (defScope s_Share_whole) := ⟨rfl, rfl, rfl, by decide +kernel, rfl, by decide +kernel, by decide +kernel⟩
def d_Share_whole : He.DefD := ⟨("Share", some "whole"), "whole", "Share.whole", defArgs s_Share_whole, defBody s_Share_whole, defScope s_Share_whole, [], []⟩
abbrev s_in_order : Stmt := top 11
abbrev N_in_order : List Str := ["names", "shares", "nought", "ordered", "name", "share", "at"]
theorem sc_in_order : FnScope N_in_order ["names", "shares"] (defScope s_in_order) := ⟨rfl, rfl, rfl, by decide +kernel, rfl, by decide +kernel, by decide +kernel⟩
def d_in_order : He.DefD := ⟨("in_order", none), "in_order", "in_order", defArgs s_in_order, defBody s_in_order, defScope s_in_order, [], []⟩
abbrev s_seats_of : Stmt := top 13
abbrev N_seats_of : List Str := ["names", "seats", "name"]
theorem sc_seats_of : FnScope N_seats_of ["names", "seats"] (defScope s_seats_of) := ⟨rfl, rfl, rfl, by decide +kernel, rfl, by decide +kernel, by decide +kernel⟩
def d_seats_of : He.DefD := ⟨("seats_of", none), "seats_of", "seats_of", defArgs s_seats_of, defBody s_seats_of, defScope s_seats_of, [], []⟩
abbrev s_lacking : Stmt := top 14
abbrev N_lacking : List Str := ["riders", "seats"]
theorem sc_lacking : FnScope N_lacking ["riders", "seats"] (defScope s_lacking) := ⟨rfl, rfl, rfl, by decide +kernel, rfl, by decide +kernel, by decide +kernel⟩
def d_lacking : He.DefD := ⟨("lacking", none), "lacking", "lacking", defArgs s_lacking, defBody s_lacking, defScope s_lacking, [], []⟩
abbrev s_fewest : Stmt := top 15
abbrev N_fewest : List Str := ["riders", "seats", "lack", "drivers", "left", "many"]
theorem sc_fewest : FnScope N_fewest ["riders", "seats"] (defScope s_fewest) := ⟨rfl, rfl, rfl, by decide +kernel, rfl, by decide +kernel, by decide +kernel⟩
def d_fewest : He.DefD := ⟨("fewest", none), "fewest", "fewest", defArgs s_fewest, defBody s_fewest, defScope s_fewest, [], []⟩
abbrev s_best_sum : Stmt := top 16
abbrev N_best_sum : List Str := ["numbers", "many"]
theorem sc_best_sum : FnScope N_best_sum ["numbers", "many"] (defScope s_best_sum) := ⟨rfl, rfl, rfl, by decide +kernel, rfl, by decide +kernel, by decide +kernel⟩
def d_best_sum : He.DefD := ⟨("best_sum", none), "best_sum", "best_sum", defArgs s_best_sum, defBody s_best_sum, defScope s_best_sum, [], []⟩
abbrev s_choose : Stmt := top 17
abbrev N_choose : List Str := ["riders", "seats", "standing", "more", "left", "ordered", "room", "drivers", "at", "name"]
theorem sc_choose : FnScope N_choose ["riders", "seats", "standing"] (defScope s_choose) := ⟨rfl, rfl, rfl, by decide +kernel, rfl, by decide +kernel, by decide +kernel⟩
def d_choose : He.DefD := ⟨("choose", none), "choose", "choose", defArgs s_choose, defBody s_choose, defScope s_choose, [.non], []⟩
abbrev s_crews : Stmt := top 18
abbrev N_crews : List Str := ["riders", "drivers", "seats", "driver", "lack", "waiting", "cars", "room", "name"]
theorem sc_crews : FnScope N_crews ["riders", "drivers", "seats"] (defScope s_crews) := ⟨rfl, rfl, rfl, by decide +kernel, rfl, by decide +kernel, by decide +kernel⟩
def d_crews : He.DefD := ⟨("crews", none), "crews", "crews", defArgs s_crews, defBody s_crews, defScope s_crews, [], []⟩
abbrev s_is_car : Stmt := top 19
abbrev N_is_car : List Str := ["thing", "seats", "folk", "name"]
theorem sc_is_car : FnScope N_is_car ["thing", "seats"] (defScope s_is_car) := ⟨rfl, rfl, rfl, by decide +kernel, rfl, by decide +kernel, by decide +kernel⟩
def d_is_car : He.DefD := ⟨("is_car", none), "is_car", "is_car", defArgs s_is_car, defBody s_is_car, defScope s_is_car, [], []⟩
abbrev s_carries : Stmt := top 20
abbrev N_carries : List Str := ["riders", "seats", "thing", "seated", "driver", "others", "name", "car"]
theorem sc_carries : FnScope N_carries ["riders", "seats", "thing"] (defScope s_carries) := ⟨rfl, rfl, rfl, by decide +kernel, rfl, by decide +kernel, by decide +kernel⟩
def d_carries : He.DefD := ⟨("carries", none), "carries", "carries", defArgs s_carries, defBody s_carries, defScope s_carries, [], []⟩
abbrev s_l_pen : Stmt := top 22
abbrev N_l_pen : List Str := ["_law_script"]
theorem sc_l_pen : FnScope N_l_pen ["_law_script"] (defScope s_l_pen) := ⟨rfl, rfl, rfl, by decide +kernel, rfl, by decide +kernel, by decide +kernel⟩
def d_l_pen : He.DefD := ⟨("_law_pen", none), "_law_pen", "_law_pen", defArgs s_l_pen, defBody s_l_pen, defScope s_l_pen, [], []⟩
abbrev s_l_draw : Stmt := top 23
abbrev N_l_draw : List Str := ["_law_pen_here", "_law_many", "_law_found", "_law_at", "_law_cell", "_law_number"]
theorem sc_l_draw : FnScope N_l_draw ["_law_pen_here", "_law_many"] (defScope s_l_draw) := ⟨rfl, rfl, rfl, by decide +kernel, rfl, by decide +kernel, by decide +kernel⟩
def d_l_draw : He.DefD := ⟨("_law_draw", none), "_law_draw", "_law_draw", defArgs s_l_draw, defBody s_l_draw, defScope s_l_draw, [], []⟩
abbrev s_l_names : Stmt := top 24
abbrev N_l_names : List Str := ["_law_pen_here", "_law_many", "_law_letters", "_law_words", "_law_size", "_law_k", "_law_base", "_law_at", "_law_spot", "_law_way", "_law_found", "_law_word"]
theorem sc_l_names : FnScope N_l_names ["_law_pen_here", "_law_many"] (defScope s_l_names) := ⟨rfl, rfl, rfl, by decide +kernel, rfl, by decide +kernel, by decide +kernel⟩
def d_l_names : He.DefD := ⟨("_law_names", none), "_law_names", "_law_names", defArgs s_l_names, defBody s_l_names, defScope s_l_names, [], []⟩
abbrev s_l_drawn : Stmt := top 25
abbrev N_l_drawn : List Str := ["_law_pen_here", "_law_known", "_law_many", "_law_folk", "_law_rooms", "_law_most", "_law_called", "_law_lot"]
theorem sc_l_drawn : FnScope N_l_drawn ["_law_pen_here"] (defScope s_l_drawn) := ⟨rfl, rfl, rfl, by decide +kernel, rfl, by decide +kernel, by decide +kernel⟩
def d_l_drawn : He.DefD := ⟨("_law_drawn", none), "_law_drawn", "_law_drawn", defArgs s_l_drawn, defBody s_l_drawn, defScope s_l_drawn, [], []⟩
abbrev s_l_worths : Stmt := top 26
abbrev N_l_worths : List Str := ["_law_pen_here", "_law_known", "_law_found", "_law_called", "_law_lot"]
theorem sc_l_worths : FnScope N_l_worths ["_law_pen_here", "_law_known"] (defScope s_l_worths) := ⟨rfl, rfl, rfl, by decide +kernel, rfl, by decide +kernel, by decide +kernel⟩
def d_l_worths : He.DefD := ⟨("_law_worths", none), "_law_worths", "_law_worths", defArgs s_l_worths, defBody s_l_worths, defScope s_l_worths, [], []⟩
abbrev s_l_seats_lack : Stmt := top 27
abbrev N_l_seats_lack : List Str := ["_law_folk", "_law_some", "_law_rooms"]
theorem sc_l_seats_lack : FnScope N_l_seats_lack ["_law_folk", "_law_some", "_law_rooms"] (defScope s_l_seats_lack) := ⟨rfl, rfl, rfl, by decide +kernel, rfl, by decide +kernel, by decide +kernel⟩
def d_l_seats_lack : He.DefD := ⟨("_law_seats_lack", none), "_law_seats_lack", "_law_seats_lack", defArgs s_l_seats_lack, defBody s_l_seats_lack, defScope s_l_seats_lack, [], []⟩
abbrev s_l_less_right : Stmt := top 28
abbrev N_l_less_right : List Str := ["_law_folk", "_law_rooms", "_law_some", "_law_called", "_law_most", "_law_one"]
theorem sc_l_less_right : FnScope N_l_less_right ["_law_folk", "_law_rooms", "_law_some"] (defScope s_l_less_right) := ⟨rfl, rfl, rfl, by decide +kernel, rfl, by decide +kernel, by decide +kernel⟩
def d_l_less_right : He.DefD := ⟨("_law_less_right", none), "_law_less_right", "_law_less_right", defArgs s_l_less_right, defBody s_l_less_right, defScope s_l_less_right, [], []⟩
abbrev s_l_changed_right : Stmt := top 29
abbrev N_l_changed_right : List Str := ["_law_folk", "_law_rooms", "_law_cars", "_law_k", "_law_driver", "_law_others", "_law_less", "_law_more", "_law_full"]
theorem sc_l_changed_right : FnScope N_l_changed_right ["_law_folk", "_law_rooms", "_law_cars"] (defScope s_l_changed_right) := ⟨rfl, rfl, rfl, by decide +kernel, rfl, by decide +kernel, by decide +kernel⟩
def d_l_changed_right : He.DefD := ⟨("_law_changed_right", none), "_law_changed_right", "_law_changed_right", defArgs s_l_changed_right, defBody s_l_changed_right, defScope s_l_changed_right, [], []⟩
abbrev s_l_put_right : Stmt := top 30
abbrev N_l_put_right : List Str := ["_law_folk", "_law_rooms", "_law_some", "_law_row", "_law_one", "_law_other", "_law_near", "_law_called"]
theorem sc_l_put_right : FnScope N_l_put_right ["_law_folk", "_law_rooms", "_law_some", "_law_row"] (defScope s_l_put_right) := ⟨rfl, rfl, rfl, by decide +kernel, rfl, by decide +kernel, by decide +kernel⟩
def d_l_put_right : He.DefD := ⟨("_law_put_right", none), "_law_put_right", "_law_put_right", defArgs s_l_put_right, defBody s_l_put_right, defScope s_l_put_right, [], []⟩
abbrev s_l_right : Stmt := top 31
abbrev N_l_right : List Str := ["_law_folk", "_law_rooms", "_law_handed", "_law_some", "_law_row", "_law_cars", "_law_able", "_law_called"]
theorem sc_l_right : FnScope N_l_right ["_law_folk", "_law_rooms", "_law_handed"] (defScope s_l_right) := ⟨rfl, rfl, rfl, by decide +kernel, rfl, by decide +kernel, by decide +kernel⟩
def d_l_right : He.DefD := ⟨("_law_right", none), "_law_right", "_law_right", defArgs s_l_right, defBody s_l_right, defScope s_l_right, [], []⟩
abbrev s_law : Stmt := top 32
abbrev N_law : List Str := ["_law_script", "_law_pen_here", "_law_turn", "_law_folk", "_law_rooms", "_law_worths_here", "_law_called", "_law_handed"]
theorem sc_law : FnScope N_law ["_law_script"] (defScope s_law) := ⟨rfl, rfl, rfl, by decide +kernel, rfl, by decide +kernel, by decide +kernel⟩
def d_law : He.DefD := ⟨("law", none), "law", "law", defArgs s_law, defBody s_law, defScope s_law, [], []⟩
def fn : List He.DefD := [d__wall, d_NoKind_init, d_Nought_init, d_NoName_init, d_NoSeats_init, d_is_whole, d_common_part, d_Share_init, d_Share_eq, d_Share_str, d_Share_repr, d_Share_plus, d_Share_less, d_Share_times, d_Share_over, d_Share_below, d_Share_whole, d_in_order, d_seats_of, d_lacking, d_fewest, d_best_sum, d_choose, d_crews, d_is_car, d_carries, d_l_pen, d_l_draw, d_l_names, d_l_drawn, d_l_worths, d_l_seats_lack, d_l_less_right, d_l_changed_right, d_l_put_right, d_l_right, d_law]
end K20
set_option Elab.async false
set_option linter.all false
set_option maxRecDepth 100000
set_option maxHeartbeats 4000000
/-! GX: own exceptions over any built-in base, whose own __init__ calls the base's and stores a field. -/
namespace GX
open PySem PySem.Spec PyProof.Rows L2

/-- what the written part tells of the class -/
structure Gx (K : PySem.W.Frag) (C : Addr) (bmB : List Value) (nid : String) : Prop where
  over : PySem.W.excOver K C bmB = true
  made : PySem.W.excInitIn K C bmB nid = true
  hasd : ∃ cd, PySem.W.clsIn K C = some cd ∧ cd.hasDict = true
  sets : PySem.W.findIn K (.ref C) "__setattr__" = some (some (.builtin "object.__setattr__"))
  base : PySem.W.subIn K (.ref C) (.type "BaseException") = some true
  typ : PySem.W.typeIn K (.ref C) = some (.type "type")
  keep : PySem.W.keepIn K (.ref C) = true

section
open Builtin Builtin.ObjectAttr
variable {prog : Program} {w : World} {A : Around} {R : Result → Shared → Prop} {hp : Heap} {g : Array GenState} {d : Drawn} {t : Nat} {os : OsState} {B : String} {bmB : List Value}
theorem first_store {K : PySem.W.Frag} {name : Str} {tk : Tok} {v : Value} {x C : Addr} {fv : Array Value} {cd : ClassData} (SF : StoreFacts B bmB "object.__setattr__" "object")
    (X : K.In hp) (hx : hp.get? x = some { cls := .ref C, data := .fields fv }) (ho : PySem.W.excOver K C bmB = true) (hc : PySem.W.clsIn K C = some cd) (hd : cd.hasDict = true)
    (hf : PySem.W.findIn K (.ref C) name = some none)
    (post : ∀ h' tk' dx, (∀ b o, b ≠ x → hp.get? b = some o → h'.get? b = some o) → hp.objs.size ≤ dx → dx ≠ x →
      h'.get? x = some { cls := .ref C, dict := some dx, data := .fields fv } → h'.Ns1 dx (fun y => if y = name then some v else none) → R (.ok (.ret .none)) ⟨h', g, d, tk', os⟩) :
    codeAny (model prog w) A (.call (.builtin "object.__setattr__") ⟨[.ref x, .str name tk, v], []⟩) R ⟨hp, g, d, t, os⟩ := by
  have inst : PySem.W.InstAt hp x { cls := .ref C, data := .fields fv } C none := ⟨hx, rfl, rfl, trivial⟩
  have far : x ≠ hp.objs.size := Nat.ne_of_lt (Heap.lt_size hx)
  have lc : PySem.W.Looks (model prog w) hp (classData C) cd := PySem.W.looks_clsIn X hc
  refine PySem.W.osa_openX (r := none) SF X inst ho (by unfold PySem.W.takerIn; rw [hf]; rfl) fun b => ?_
  dsimp only
  obtain ⟨n1, n2, n3, n4, n5, n6, n7, n8, n9, n10, n11⟩ := cd
  dsimp only at hd
  subst hd
  unfold storeInOwnDict ownDictForStores
  repeat (first | with_reducible refine PySem.HandSPX.store_in_new ?_ ?_ | with_reducible refine wpAny_loadPart_at hx ?_ | with_reducible refine lc.at ?_ | wp_step)
  · exact ⟨_, #[], _, (Heap.get?_update_ne _ _ _ _ far.symm).trans (Heap.get?_push_at rfl rfl), rfl, fun e he => absurd he (by simp), fun _ => rfl⟩
  · intro h' tk' hn hs
    have hx1 : (hp.push { cls := .type "dict", data := .dict #[] }).get? x = some { cls := .ref C, data := .fields fv } := Heap.get?_push_of_some _ hx
    refine post h' tk' hp.objs.size (fun b o hb hob => ?_) (Nat.le_refl _) far.symm ?_ hn
    · have e1 := hs.2 b (Nat.ne_of_lt (Heap.lt_size hob))
      rw [e1, Heap.get?_update_ne _ _ _ _ hb]
      exact Heap.get?_push_of_some _ hob
    · rw [hs.2 x far]
      exact Heap.get?_update_self _ hx1 rfl
end

section
variable {X : Cx} {pins : List (Addr × Obj)} {σ : L2.St} {H : Hp} {s : Shared} {a C dx : Addr} {f : Str} {y : V} {u : Value} {Q : Unit → Shared → Prop} {E : Value → Shared → Prop} {A : Around} {B : String} {bmB : List Value} {nid iid : String}
/-- self.f = y, the first store -/
theorem put_first (SF : StoreFacts B bmB "object.__setattr__" "object") (T : Gx X.K C bmB nid) (I : Inv X pins σ H s) (e : H a = some (exo a C none)) (hno : PySem.W.findIn X.K (.ref C) f = some none) (ry : RelV y u)
    (post : ∀ dx s', H dx = none → dx ≠ a → Inv X pins σ (upd (upd H dx (exd dx [(f, y)])) a (exo a C (some dx))) s' → Q () s') : wpAny (model X.prog X.w) A (setAttr (.ref a) f u) Q E s := by
  obtain ⟨cd, hcd, hdd⟩ := T.hasd
  obtain ⟨t1, at1⟩ := exo_at I.hok e
  obtain ⟨hp, g, d, t, os⟩ := s
  refine PySem.W.set_plain I.kIn (ox := { cls := .ref C, dict := none, data := .fields #[.ref t1, .none, .none, .none, .bool false, .none] }) (od := none) ⟨at1, rfl, rfl, trivial⟩ T.sets ?_
  refine first_store SF I.kIn at1 T.over hcd hdd hno (fun h' tk' dx kp dn dne hx hn => ?_)
  have fresh : H dx = none := I.hok.fresh dn
  have old : ∀ {b : Addr} {o : Obj}, hp.get? b = some o → b ≠ dx := fun {b o} q => Nat.ne_of_lt (Nat.lt_of_lt_of_le (Heap.lt_size q) dn)
  have other : ∀ {b : Addr}, H b = none → b ≠ a := fun {b} n z => by
    rw [z, e] at n
    cases n
  have un : Un X.fs [] H (upd (upd H dx (exd dx [(f, y)])) a (exo a C (some dx))) hp h' := {
    keep := fun b o q n _ _ => kp b o (other n) q
    slot := fun b o q n _ _ => ⟨o.slots, kp b o (other n) q⟩
    free := fun b o q n _ => by rw [upd_ne (other n), upd_ne (old q)]; exact n
    there := fun b o q _ => by
      by_cases hb : b = a
      · exact ⟨_, hb ▸ hx⟩
      · exact ⟨o, kp b o hb q⟩
    tups := fun b xs q => by rw [upd_ne (at_ne e q exo_tup), upd_ne (ne_of_none q fresh)]; exact q
    frzs := fun b o v q => by rw [upd_ne (at_ne e q exo_frz), upd_ne (ne_of_none q fresh)]; exact q
    tbls := fun b ps q => ⟨#[], by rw [upd_ne (at_ne e q exo_tbl), upd_ne (ne_of_none q fresh), q]; simp⟩ }
  refine post dx _ fresh dne (I.un (t' := tk') un fun b o q => ?_)
  by_cases hb : b = a
  · subst hb
    rw [upd_same] at q
    cases q
    exact exo_ok hx
  · rw [upd_ne hb] at q
    by_cases hd : b = dx
    · subst hd
      rw [upd_same] at q
      cases q
      exact exd_ok hn (relO_put (fs := []) ry fun g => True.intro)
    · rw [upd_ne hd] at q
      refine (I.hok b o q).stay (fun c v hc z => kp c v ?_ z) (fun c hc => ?_) (fun c xs hc => ?_)
      · rcases hc with hc | hc
        · exact hc ▸ hb
        · exact at_ne e hc exo_own
      · rw [upd_ne (at_ne e hc exo_own), upd_ne (ne_of_none hc fresh)]; exact hc
      · rw [upd_ne (at_ne e hc exo_tup), upd_ne (ne_of_none hc fresh)]; exact hc
/-- Base.__init__(self, ..) -/
theorem base_init {us : List Value} {Q : Value → Shared → Prop} (FB : ExcBaseFacts B nid iid bmB) (T : Gx X.K C bmB nid) (I : Inv X pins σ H s) (e : H a = some (exo a C none)) (hl : us.length ≤ sizeLine) (post : ∀ s', Inv X pins σ H s' → Q .none s') :
    wpAny (model X.prog X.w) A (call (.builtin iid) (.ref a :: us)) Q E s := by
  obtain ⟨nm, N, qn, bs, bm, hdct, sn, sub, ab, col, dd, k0, k1, k2, k3, k5, hC, hT⟩ := PySem.W.excInit_of I.kIn T.made
  obtain ⟨t1, at1⟩ := exo_at I.hok e
  obtain ⟨hp, g, d, t, os⟩ := s
  refine wpAny_call (PySem.HandSPX.init_base FB hT hC at1 hl fun h' t2 kp hx => ?_)
  have J := I.write (t' := t) (x := a) (e := a) (o := exo a C none) (by rw [e]; exact True.intro) (.inl rfl) kp ⟨_, hx⟩ (exo_ok hx)
  have same : upd H a (exo a C none) = H := funext fun b => by
    by_cases hb : b = a
    · rw [hb, upd_same, e]
    · rw [upd_ne hb]
  rw [same] at J
  exact post _ J
end

/-! ### readings and rules -/
/-- Base.__init__(self, ..) -/
def tBi (K : PySem.W.Frag) (bmB : List Value) (nid : String) (ta : TA) : TE := fun σ H Q => ta σ H fun vs H1 => ∃ (a C : Addr) (ws : List V), vs = .ref a :: ws ∧ ws.length ≤ 1000 ∧ Gx K C bmB nid ∧ H1 a = some (exo a C none) ∧ Q .non H1
/-- self.f = e, the first one -/
def tPf (K : PySem.W.Frag) (bmB : List Value) (nid : String) (f : Str) (to te : TE) : TS := fun D σ H => te σ H fun y H1 => to σ H1 fun x H2 => ∃ a C : Addr, x = .ref a ∧ Gx K C bmB nid ∧ PySem.W.findIn K (.ref C) f = some none ∧
  H2 a = some (exo a C none) ∧ ∀ dx, H2 dx = none → dx ≠ a → D.nx σ (upd (upd H2 dx (exd dx [(f, y)])) a (exo a C (some dx)))
section
variable {X : Cx} {o e : Expr} {es : List Expr} {to te : TE} {ta : TA} {f : Str} {p p' p1 p2 pos : Pos} {B nid iid : String} {bmB : List Value} {x : Str}
theorem pe_bi {pl : Sem Bool} (FB : ExcBaseFacts B nid iid bmB) (hg : Gl X x) (hm : X.mg x = none) (hv : bootBuiltins x = some (.type B)) (ty : typeOf (.type B) = pure (.type "type"))
    (vV : PySem.W.findCls X.K (.type B) (.type "type") "__init__" = some (.val (.builtin iid))) (hb : PySem.W.handedIn (.builtin iid) = true) (hst : Manifest.isStub B = false) (ha : PA X (e :: es) ta)
    (hc : eval (.Call (.Attribute (.Name x p1) "__init__" p2) (e :: es) [] pos) X.env = (do
      let ov ← eval (.Name x p1) X.env
      standAt p2.atName
      let (f, first) ← holding [ov] (getMethod ov "__init__" pl)
      callWith pos f first (backTo pos (starEach (e :: es) X.env)) (backToKw pos (keywordEach [] X.env))) := by rfl)
    (hn : x ≠ "__name__" := by decide) (hd : (x == ("__debug__" : Str)) = false := by decide)
    (he : starEach (e :: es) X.env = (false, eval e X.env) :: starEach es X.env := by rfl) (hpl : (backTo pos (starEach es X.env)).any (·.1) = false := by rfl) :
    PE X (.Call (.Attribute (.Name x p1) "__init__" p2) (e :: es) [] pos) (tBi X.K bmB nid ta) := by
  refine ⟨fun pins s σ H Q I h => ?_⟩
  refine PySem.W.methodCall_KW (ld_blt I hg hm hv ?_ hn hd) hc
  obtain ⟨m, fr⟩ := I.fr
  refine PySem.W.method_type fr I.ok.mod.kin ty hst vV hb ?_
  show wpAny _ _ (callWith pos (Value.builtin iid) [] (backTo pos (starEach (e :: es) X.env)) []) _ _ _
  refine PyProof.Rows.callWith_method1 (thn (ha.run pos pins _ σ H _ (I.tok _) h) fun us s1 hh => ?_) he hpl
  obtain ⟨vs, H1, I1, r1, a, C, ws, ev, hl, T, ea, q⟩ := hh
  subst ev
  cases r1 with
  | @cons _ u0 _ ur ra rw' =>
    obtain rfl : u0 = Value.ref a := ra
    have hlen : ur.length ≤ sizeLine := by
      have := Paired.length rw'
      rw [sizeLine_eq]
      omega
    exact base_init FB T I1 ea hlen fun s' J => ⟨.non, H1, J, rfl, q⟩
theorem ps_pf (SF : StoreFacts B bmB "object.__setattr__" "object") (ho : PE X o to) (he : PE X e te) (hs : swapsWith e (some (.Attribute o f p')) pos.line X.env = pure false := by rfl) : PS X (.Assign [.Attribute o f p'] e pos) (tPf X.K bmB nid f to te) := by
  refine ⟨fun pins s σ H D I h => ?_⟩
  refine plainObj_wpAny_Assign_Attribute (thn (he.run pins s σ H _ I h) fun v s1 h1 => ?_) hs
  obtain ⟨y, H1, I1, r1, q1⟩ := h1
  refine thn (ho.run pins s1 σ H1 _ I1 q1) fun u s2 h2 => ?_
  obtain ⟨z, H2, I2, r2, a, C, ex, T, hno, ea, q⟩ := h2
  subst ex
  obtain rfl : u = Value.ref a := r2
  exact put_first SF T I2 ea hno r1 fun dx s' n ne J => ⟨σ, _, J, q dx n ne⟩
/-- C(e, ..) as what is raised, C's own __init__ keeping sp -/
theorem pmk_gx {CX : CXT} {C fI : Addr} {k : Nat} {fd : FuncData} {ps : List Str} {sp : Sp} {ds : List Value} {dvs : List V} (FB : ExcBaseFacts B nid iid bmB) (T : Gx X.K C bmB nid) (iC : PySem.W.findIn X.K (.ref C) "__init__" = some (some (.ref fI)))
    (tI : PySem.W.typeIn X.K (.ref fI) = some (.type "function"))
    (F1 : FnOk X.prog X.w X.K X.mg X.base CX k fI fd ps sp) (hr : Room (k + 1) X.A) (hb : Binds X.K fd ps ds) (hd : Vals dvs ds) (hx : Passes CX X (fun _ _ _ => False)) (hg : Gl X x) (hm : X.mg x = some (.ref C)) (ha : PA X (e :: es) ta)
    (hdb : (x == ("__debug__" : Str)) = false := by decide) (he : starEach (e :: es) X.env = (false, eval e X.env) :: starEach es X.env := by rfl) (hpl : (backTo pos (starEach es X.env)).any (·.1) = false := by rfl) :
    PMk X (.Call (.Name x p) (e :: es) [] pos) (tMkO C sp dvs ta) := by
  intro pins s σ H Q I h
  refine wpAny_Call_Name_kw (ld_glob I hg hm ?_ hdb)
  refine PySem.W.callWith_K (h₀ := X.base) I.ok.mod.kin T.keep (thn (ha.run pos pins s σ H _ I h) fun us s1 hh => ?_) he hpl
  obtain ⟨vs, H1, I1, r1, hz, q1⟩ := hh
  refine ⟨I1.kIn, ?_⟩
  show wpAny _ _ (call (.ref C) us) _ _ _
  obtain ⟨nm, N, qn, bs, bm, hdct, sn, sub, ab, col, dd, k0, k1, k2, k3, k5, hC, hT⟩ := PySem.W.excInit_of I1.kIn T.made
  obtain ⟨hp, g, dr, tk, os⟩ := s1
  have big : hp.objs.size ≤ hp.objs.size + 1 := Nat.le_succ _
  have hq := q1 (hp.objs.size + 1) (I1.hok.fresh big)
  have kk : ∀ b o, hp.get? b = some o → ((hp.push (PySem.W.kdv_tup us)).push (PySem.HandSPX.excO C hp.objs.size)).get? b = some o := fun b o z =>
    Heap.get?_push_of_some _ (Heap.get?_push_of_some _ z)
  have there : ((hp.push (PySem.W.kdv_tup us)).push (PySem.HandSPX.excO C hp.objs.size)).get? (hp.objs.size + 1) = some (PySem.HandSPX.excO C hp.objs.size) := by heap_get
  have I2 := I1.laid (t' := tk) (a := hp.objs.size + 1) (o := exo (hp.objs.size + 1) C none) (h' := (hp.push (PySem.W.kdv_tup us)).push (PySem.HandSPX.excO C hp.objs.size)) kk big (exo_ok there)
  have r2 : Vals (V.ref (hp.objs.size + 1) :: (vs ++ dvs)) (Value.ref (hp.objs.size + 1) :: (us ++ ds)) := .cons rfl (r1.append hd)
  have hl : (Value.ref (hp.objs.size + 1) :: us ++ ds).length = ps.length := by
    have e1 := r2.length
    rw [F1.len _ _ _ _ hq] at e1
    exact e1.symm
  have few : us.length ≤ sizeLine := by
    have := Paired.length r1
    rw [sizeLine_eq]
    omega
  refine wpAny_call (PySem.HandSPX.call_own FB hT hC (PySem.W.looks_findIn I1.kIn iC) (fun self => PySem.W.bind_fn I1.kIn self tI) few (codeAny_mono
    (F1.run _ X.stack _ _ ⟨Value.ref (hp.objs.size + 1) :: us, []⟩ (Value.ref (hp.objs.size + 1) :: (us ++ ds)) _ _ (fun _ _ _ => False) (hr.make C us []) (I2.env0.make C us []) (hb _ (Value.ref (hp.objs.size + 1) :: us) I2.kIn hl) r2 hq) fun r s' hq' => ?_))
  cases r with
  | error er => exact hx pins σ _ _ er s' I2 hq'
  | ok fl =>
    cases fl with
    | ret u =>
      obtain ⟨v, H2, os2, bare2, un2, hok2, rv, ev, d, fs, ea, ed, hd1, q2⟩ := hq'
      subst ev
      obtain ⟨h2, g2, d2, t2, os'⟩ := s'
      exact ⟨rv, mk_end (raises_own T.base T.typ) I1 big kk un2 hok2 os2 bare2 ea ed hd1 q2⟩
    | next => exact False.elim hq'
    | brk => exact False.elim hq'
    | cont => exact False.elim hq'
end
/-! ### the head's look at such a class -/
def hasDB (K : PySem.W.Frag) (C : Addr) : Bool := match PySem.W.clsIn K C with
  | some cd => cd.hasDict
  | none => false
/-- Base.__init__, read off the class Base -/
def vvB (K : PySem.W.Frag) (B iid : String) : Bool := match PySem.W.findCls K (.type B) (.type "type") "__init__" with
  | some (.val (.builtin n)) => n == iid
  | _ => false
theorem vvB_ok {K : PySem.W.Frag} {B iid : String} (h : vvB K B iid = true) : PySem.W.findCls K (.type B) (.type "type") "__init__" = some (.val (.builtin iid)) := by
  unfold vvB at h
  split at h
  · rename_i n e
    rw [e, eq_of_beq h]
  · cases h
/-- what isinstance asks of an own class -/
def isB (K : PySem.W.Frag) (C : Addr) : Bool := He.eqO (PySem.W.findIn K (.ref C) "__class__") (some (some (.builtin "object.__class__"))) && (He.eqO (PySem.W.specialIn K (.builtin "object.__class__") "__get__") (some (some (.builtin "getset_descriptor.__get__"))) &&
  (decide (PySem.W.takesIn K (.builtin "object.__class__") = some true) && decide (PySem.W.mroIn K C (.type "object") = some true)))
def gxB (K : PySem.W.Frag) (C : Addr) (bmB : List Value) (nid : String) : Bool := PySem.W.excOver K C bmB && (PySem.W.excInitIn K C bmB nid && (hasDB K C &&
  (He.eqO (PySem.W.findIn K (.ref C) "__setattr__") (some (some (.builtin "object.__setattr__"))) && (decide (PySem.W.subIn K (.ref C) (.type "BaseException") = some true) &&
  (decide (PySem.W.typeIn K (.ref C) = some (.type "type")) && PySem.W.keepIn K (.ref C))))))
theorem gxB_ok {K : PySem.W.Frag} {C : Addr} {bmB : List Value} {nid : String} (h : gxB K C bmB nid = true) : Gx K C bmB nid := by
  unfold gxB at h
  simp only [Bool.and_eq_true, decide_eq_true_eq] at h
  obtain ⟨h1, h2, h3, h4, h5, h6, h7⟩ := h
  refine ⟨h1, h2, ?_, He.eqO_ok h4, h5, h6, h7⟩
  unfold hasDB at h3
  split at h3
  · rename_i cd e
    exact ⟨cd, e, h3⟩
  · cases h3
end GX
set_option Elab.async false
set_option linter.all false
set_option maxRecDepth 100000
set_option maxHeartbeats 4000000
namespace K20
open PySem PySem.Spec PyProof.Rows L2
open C8 (Cal Mak Met pe_c pe_mk pe_mt pe_mt0)
/-- a def of the text -/
abbrev Dn (K : PySem.W.Frag) (d : He.DefD) (f : Addr) (fd : FuncData) : Prop := FunD K d.name d.qual d.params d.body d.scope (d.dvs K) (d.kws K) f fd
/-- what the module's names are -/
structure Bl (mg : Str → Option Value) : Prop where
  isi : mg "isinstance" = none
  int : mg "int" = none
  bool : mg "bool" = none
  str : mg "str" = none
  list : mg "list" = none
  range : mg "range" = none
  len : mg "len" = none
  all : mg "all" = none
  any : mg "any" = none
  max : mg "max" = none
  min : mg "min" = none
theorem same_new {H : Hp} {p : Addr} {o : HO} (h : H p = none) : Same H (upd H p o) := fun a u e => by
  rw [upd_ne (ne_of_none e h)]
  exact e
theorem dpInts {K : PySem.W.Frag} {H : Hp} : ∀ ns : List Int, DpAll K H (ns.map V.int) (ns.map PyData.int)
  | [] => .nil
  | n :: ns => .cons (.int n) (dpInts ns)
theorem cb_l {i j : Int} (h1 : -(2 ^ 64) < i) (h2 : i < 2 ^ 64) : CMul i j := .inl ⟨h1, h2⟩
theorem cb_r {i j : Int} (h1 : -(2 ^ 64) < j) (h2 : j < 2 ^ 64) : CMul i j := .inr ⟨h1, h2⟩
/-- the pen at p, good for c draws more -/
def penL (l : Addr) (n m : Int) : List V := [.ref l, .int n, .int m]
def Pen (H : Hp) (p : Addr) (c : Nat) : Prop := ∃ (l : Addr) (ns : List Int) (n m : Int), H p = some (.lst (penL l n m)) ∧ H l = some (.lst (ns.map V.int)) ∧ l ≠ p ∧ 0 ≤ n ∧ n + c ≤ 1000000000
theorem Pen.weak {H : Hp} {p : Addr} {c c' : Nat} (hc : c' ≤ c) (x : Pen H p c) : Pen H p c' := by
  obtain ⟨l, ns, n, m, h1, h2, h3, h4, h5⟩ := x
  exact ⟨l, ns, n, m, h1, h2, h3, h4, by omega⟩
theorem Pen.same {H H' : Hp} {p : Addr} {c : Nat} (s : Same H H') (x : Pen H p c) : Pen H' p c := by
  obtain ⟨l, ns, n, m, h1, h2, h3⟩ := x
  exact ⟨l, ns, n, m, s _ _ h1, s _ _ h2, h3⟩
/-- all but the pen is kept, its cells stay where they are -/
def Kp (p : Addr) (H H' : Hp) : Prop := (∀ b o, H b = some o → b ≠ p → H' b = some o) ∧ ∀ l n m, H p = some (.lst (penL l n m)) → ∃ n' m', H' p = some (.lst (penL l n' m'))
theorem Kp.refl (p : Addr) (H : Hp) : Kp p H H := ⟨fun _ _ e _ => e, fun _ n m e => ⟨n, m, e⟩⟩
theorem Kp.trans {p : Addr} {H H1 H2 : Hp} (a : Kp p H H1) (b : Kp p H1 H2) : Kp p H H2 := ⟨fun c o e n => b.1 c o (a.1 c o e n) n, fun l n m e => let ⟨n', m', e'⟩ := a.2 l n m e; b.2 l n' m' e'⟩
theorem Kp.same {p : Addr} {H H1 : Hp} (a : Same H H1) : Kp p H H1 := ⟨fun c o e _ => a c o e, fun _ n m e => ⟨n, m, a _ _ e⟩⟩
theorem pen_inj {l l' : Addr} {n m n' m' : Int} (h : HO.lst (penL l n m) = HO.lst (penL l' n' m')) : l = l' := by
  injection h with h
  injection h with h _
  injection h
theorem Kp.put {p l : Addr} {H : Hp} {n m : Int} (n' m' : Int) (e : H p = some (.lst (penL l n m))) : Kp p H (upd H p (.lst (penL l n' m'))) := by
  refine ⟨fun c o z ne => by rw [upd_ne ne]; exact z, fun l' n1 m1 z => ⟨n', m', ?_⟩⟩
  rw [upd_same, pen_inj (Option.some.inj (z.symm.trans e))]
theorem Kp.new {p st : Addr} {H1 H2 : Hp} {o : HO} (k : Kp p H1 H2) (f : H1 st = none) : Kp p H1 (upd H2 st o) :=
  ⟨fun b u e ne => by rw [upd_ne (ne_of_none e f)]; exact k.1 b u e ne, fun l n m e => by
    obtain ⟨n', m', e'⟩ := k.2 l n m e
    exact ⟨n', m', by rw [upd_ne (ne_of_none e f)]; exact e'⟩⟩
/-- D is neither the pen nor its cells -/
def Off (p D : Addr) (H : Hp) : Prop := ∃ l n m, H p = some (.lst (penL l n m)) ∧ l ≠ D ∧ p ≠ D
theorem Off.kp {p D : Addr} {H H' : Hp} (x : Off p D H) (k : Kp p H H') : Off p D H' := by
  obtain ⟨la, n, m, e, n1, n2⟩ := x
  obtain ⟨n', m', e'⟩ := k.2 _ _ _ e
  exact ⟨la, n', m', e', n1, n2⟩
theorem Off.of {p D : Addr} {H : Hp} {c : Nat} (x : Pen H p c) (f : H D = none) : Off p D H := by
  obtain ⟨la, ns, n, m, e1, e2, _⟩ := x
  exact ⟨la, n, m, e1, ne_of_none e2 f, ne_of_none e1 f⟩
theorem Off.ne {p D : Addr} {H : Hp} (x : Off p D H) : D ≠ p := by
  obtain ⟨_, _, _, _, _, n⟩ := x
  exact n.symm
theorem Off.put {p D D' : Addr} {H : Hp} {o : HO} (x : Off p D H) (n : p ≠ D') : Off p D (upd H D' o) := by
  obtain ⟨la', n', m', e', n1, n2⟩ := x
  exact ⟨la', n', m', by rw [upd_ne n]; exact e', n1, n2⟩
theorem Pen.put {p D : Addr} {H : Hp} {o : HO} {c : Nat} (x : Pen H p c) (y : Off p D H) : Pen (upd H D o) p c := by
  obtain ⟨la, ns, n, m, e1, e2, e3⟩ := x
  obtain ⟨la', n', m', e', n1, n2⟩ := y
  cases pen_inj (Option.some.inj (e1.symm.trans e'))
  exact ⟨la, ns, n, m, by rw [upd_ne n2]; exact e1, by rw [upd_ne n1]; exact e2, e3⟩
section
variable {P : Program} {w : World} {K : PySem.W.Frag} {mg : Str → Option Value} {base : Heap} {f C : Addr} {fd : FuncData}
def spPen (K : PySem.W.Frag) : Sp := fun vs H Q _ => ∃ (a : Addr) (ns : List Int), vs = [.ref a] ∧ SqL K H a (ns.map V.int) ∧ ns.length ≤ 63 ∧ ∀ p H', Same H H' → H p = none → Pen H' p 900000000 → Q (.ref p) H'
theorem ok_pen (F : Dn K d_l_pen f fd) (b : Bl mg) : FnOk P w K mg base CX0 1 f fd ["_law_script"] (spPen K) := by
  refine F.ok sc_l_pen (fun vs H Q E h => ?_) (fun cdv A outer s H vs Q E hr h => ?_)
  · obtain ⟨a, ns, rfl, _⟩ := h
    rfl
  · obtain ⟨a, ns, rfl, hS, hlen, hQ⟩ := h
    refine ⟨_, PSs.nox (pss_one (ps_ret (pe_lst (pa_cons (pe_callTy call_list_of rfl b.list boot_list (pa_cons (pe_slice sl_list (pv 0) po_none (po_some pe_int)) pa_nil)) (pa_cons pe_int (pa_cons pe_int pa_nil)))))), ?_⟩
    refine ⟨_, rfl, 63, rfl, a, _, rfl, hS, fun q hq => ⟨q, _, rfl, Or.inl (SqL.of upd_same), fun l hl => ?_⟩⟩
    refine ⟨by show 3 ≤ sizeLine; decide, fun p hp => ?_⟩
    have e : cutV (ns.map V.int) none (some 63) = (ns.take 63).map V.int := by
      unfold cutV
      simp [HT.sIx, List.map_take]
    have s1 := same_new (o := .lst (cutV (ns.map V.int) none (some 63))) hq
    have s2 := same_new (o := .lst (cutV (ns.map V.int) none (some 63))) hl
    have s3 := same_new (o := .lst (penL l 0 0)) hp
    refine hQ p _ ((s1.trans s2).trans s3) ((s1.trans s2).free hp) ⟨l, ns.take 63, 0, 0, upd_same, ?_, ?_, by decide, by decide⟩
    · rw [← e]
      exact s3 _ _ upd_same
    · exact ne_of_none upd_same hp
def spDraw : Sp := fun vs H Q _ => ∃ (p : Addr) (c : Nat) (k : Int), vs = [.ref p, .int k] ∧ Pen H p (c + 1) ∧ 0 < k ∧ k < 1073741824 ∧
  ∀ r H', 0 ≤ r → r < k → Pen H' p c → Kp p H H' → Q (.int r) H'
theorem ok_draw (F : Dn K d_l_draw f fd) (b : Bl mg) : FnOk P w K mg base CX0 1 f fd ["_law_pen_here", "_law_many"] spDraw := by
  refine F.ok sc_l_draw (fun vs H Q E h => ?_) (fun cdv A outer s H vs Q E hr h => ?_)
  · obtain ⟨p, c, k, rfl, _⟩ := h
    rfl
  · obtain ⟨p, c, k, rfl, ⟨l, ns, n, m, hp, hl, nlp, hn, hc⟩, hk0, hk1, hQ⟩ := h
    have hu64 : (A.deeper (envOfC d_l_draw.qual d_l_draw.scope s.heap.objs.size f cdv)).units + 64 < cLine := by have := hr.un; omega
    refine ⟨_, PSs.nox (pss_cons (ps_if (pt_cmpR op_gt (pe_ix ix_list (pv 0) pe_int (fun _ _ => rfl)) pe_int (nomark _))
         (pss_cons (ps_set (i := 2) sc_l_draw.nd rfl (.inl rfl) (pe_op op_mod (pe_ix ix_list (pv 0) pe_int (fun _ _ => rfl)) (pv 1)))
         (pss_cons (ps_asg (pe_op op_fdiv (pe_ix ix_list (pv 0) pe_int (fun _ _ => rfl)) (pv 1)) (pg_sub (pv 0) pe_int set_list))
         (pss_one (ps_ret (pv 2))))) pss_nil)
      (pss_cons (ps_set (i := 3) sc_l_draw.nd rfl (.inl rfl) (pe_ix ix_list (pv 0) pe_int (fun _ _ => rfl)))
      (pss_cons (ps_asg (pe_op op_add (pv 3) pe_int) (pg_sub (pv 0) pe_int set_list))
      (pss_cons (ps_set (i := 4) sc_l_draw.nd rfl (.inl rfl) pe_int)
      (C8.pss_cut (ps_if (pt_cmpR (op_neD hu64) (pe_ix ix_list (pv 0) pe_int (fun _ _ => rfl)) (pe_lst pa_nil) (nomark _))
        (pss_one (ps_set (i := 4) sc_l_draw.nd rfl (.inl rfl) (pe_ix ix_list (pe_ix ix_list (pv 0) pe_int (fun _ _ => rfl)) (pe_op op_mod (pv 3) (pe_callB call_len_seq rfl b.len boot_len (pa_cons (pe_ix ix_list (pv 0) pe_int (fun _ _ => rfl)) pa_nil))) (fun _ _ => rfl)))) pss_nil)
      (pss_cons (ps_if (PW.pt (pw_and (pt_cmpR op_ge (pv 4) (pe_op op_pow pe_int pe_int) (nomark _)) (pw_and1 (pt_cmpR op_lt (pv 3) (pe_callB call_len_seq rfl b.len boot_len (pa_cons (pe_ix ix_list (pv 0) pe_int (fun _ _ => rfl)) pa_nil)) (nomark _)))))
         (pss_cons (ps_asg (pe_op op_fdiv (pv 4) (pv 1)) (pg_sub (pv 0) pe_int set_list))
         (pss_one (ps_ret (pe_op op_mod (pv 4) (pv 1))))) pss_nil)
      (pss_cons (ps_set (i := 5) sc_l_draw.nd rfl (.inl rfl) (pe_op op_mod (pe_op op_add (pe_op op_add (pe_op op_add (pe_op op_mul (pe_op op_mod (pv 4) pe_int) pe_int) (pe_op op_mul (pe_op op_mul pe_int (pv 3)) (pv 3))) (pe_op op_mul pe_int (pv 3))) pe_int) pe_int))
      (pss_cons (ps_set (i := 5) sc_l_draw.nd rfl (.inl rfl) (pe_op op_mod (pe_op op_mul (pv 5) (pe_op op_add (pe_op op_mod (pv 5) pe_int) pe_int)) pe_int))
      (pss_one (ps_ret (pe_op op_mod (pe_op op_fdiv (pe_op op_mod (pe_op op_add (pe_op op_mul (pv 5) pe_int) (pv 3)) pe_int) pe_int) (pv 1)))))))))))), ?_⟩
    have cM : ∀ x y : Int, 0 < y → (0 ≤ x % y ∧ x % y < y) := fun x y hy => ⟨Int.emod_nonneg _ (by omega), Int.emod_lt_of_pos _ hy⟩
    have i2 : ∀ {n m : Int}, atI (penL l n m) 2 = some (.int m) := atI_nat (j := 2) rfl
    have i1 : ∀ {n m : Int}, atI (penL l n m) 1 = some (.int n) := atI_nat (j := 1) rfl
    have i0 : ∀ {n m : Int}, atI (penL l n m) 0 = some (.ref l) := atI_nat (j := 0) rfl
    refine ⟨_, rfl, p, _, _, _, rfl, rfl, SqL.of hp, i2, _, _, rfl, rfl, _, rfl, ?_⟩
    refine ite2 (fun h1 => ?_) (fun h1 => ?_)
    · refine ⟨_, rfl, p, _, _, _, rfl, rfl, SqL.of hp, i2, _, rfl, _, _, rfl, rfl, hk0, ?_⟩
      refine ⟨_, rfl, p, _, _, _, rfl, rfl, SqL.of hp, i2, _, rfl, _, _, rfl, rfl, ⟨hk0, hk1⟩, _, rfl, p, _, _, 2, rfl, rfl, hp, rfl, ?_⟩
      refine ⟨_, rfl, hQ _ _ (cM _ _ hk0).1 (cM _ _ hk0).2 ⟨l, ns, n, m / k, upd_same, ?_, nlp, hn, by omega⟩ (Kp.put n (m / k) hp)⟩
      rw [upd_ne nlp]
      exact hl
    · refine ⟨_, rfl, p, _, _, _, rfl, rfl, SqL.of hp, i1, ?_⟩
      refine ⟨_, rfl, _, _, rfl, rfl, _, rfl, p, _, _, 1, rfl, rfl, hp, rfl, ?_⟩
      have hp1 : (upd H p (.lst (penL l (n + 1) m))) p = some (.lst (penL l (n + 1) m)) := upd_same
      have hl1 : (upd H p (.lst (penL l (n + 1) m))) l = some (.lst (ns.map V.int)) := by rw [upd_ne nlp]; exact hl
      have kp1 : Kp p H (upd H p (.lst (penL l (n + 1) m))) := Kp.put _ _ hp
      refine ⟨fun σ' H' => ∃ (cell : Int), σ' = [some (.ref p), some (.int k), none, some (.int n), some (.int cell), none] ∧ H' p = some (.lst (penL l (n + 1) m)) ∧ H' l = some (.lst (ns.map V.int)) ∧ Kp p H H', ?_, ?_⟩
      · refine ⟨_, rfl, p, _, _, _, rfl, rfl, SqL.of hp1, i0, (by show 0 ≤ sizeLine; decide), fun e he => ?_⟩
        have s2 := same_new (o := .lst []) he
        have hp2 := s2 _ _ hp1
        have hl2 := s2 _ _ hl1
        have kp2 := kp1.trans (Kp.same s2)
        refine ⟨.list (ns.map .int), .list [], Dp.lst (SqL.of hl2) (dpInts ns), Dp.lst (SqL.of upd_same) .nil, PySem.W.ke_shaped_ints ns, by decide, _, rfl, ?_⟩
        cases ns with
        | nil => exact iteF ⟨5, rfl, hp2, hl2, kp2⟩
        | cons z zs =>
          refine iteT ?_
          have hlen : (0 : Int) < (((z :: zs).map V.int).length : Int) := by simp
          refine ⟨_, rfl, p, _, _, _, rfl, rfl, SqL.of hp2, i0, _, rfl, _, rfl, p, _, _, _, rfl, rfl, SqL.of hp2, i0, l, _, rfl, Or.inl (SqL.of hl2), _, _, rfl, rfl, hlen, ?_⟩
          obtain ⟨q, hq⟩ := Int.eq_ofNat_of_zero_le (cM n _ hlen).1
          have hq2 := (cM n _ hlen).2
          rw [hq] at hq2
          have hq3 : q < (z :: zs).length := by rw [List.length_map] at hq2; omega
          refine ⟨l, _, _, .int ((z :: zs)[q]), rfl, rfl, SqL.of hl2, (by rw [hq]; exact atI_nat (by rw [List.getElem?_map, List.getElem?_eq_getElem hq3]; rfl)), ?_⟩
          exact ⟨_, rfl, hp2, hl2, kp2⟩
      · rintro σ' H' ⟨cell, rfl, hp2, hl2, kp2⟩
        have stay0 : Pen H' p c := ⟨l, ns, n + 1, m, hp2, hl2, nlp, by omega, by omega⟩
        have last : ∀ D : Ends, D.rt = Q → tSeq (tAsg (tOp (rI (fun _ j => 0 < j) fun i j => .int (i % j)) (tOp (rI0 fun i j => .int (i + j)) (tOp (rI0 fun i j => .int (i + j)) (tOp (rI0 fun i j => .int (i + j))
            (tOp (rI CMul fun i j => .int (i * j)) (tOp (rI (fun _ j => 0 < j) fun i j => .int (i % j)) (tVar 4) (tC (.int 2147483629))) (tC (.int 40503))) (tOp (rI CMul fun i j => .int (i * j)) (tOp (rI CMul fun i j => .int (i * j)) (tC (.int 7919)) (tVar 3)) (tVar 3)))
            (tOp (rI CMul fun i j => .int (i * j)) (tC (.int 104729)) (tVar 3))) (tC (.int 29))) (tC (.int 2147483647))) (gName 5))
          (tSeq (tAsg (tOp (rI (fun _ j => 0 < j) fun i j => .int (i % j)) (tOp (rI CMul fun i j => .int (i * j)) (tVar 5) (tOp (rI0 fun i j => .int (i + j)) (tOp (rI (fun _ j => 0 < j) fun i j => .int (i % j)) (tVar 5) (tC (.int 65003))) (tC (.int 3)))) (tC (.int 2147483587))) (gName 5))
          (tRet (tOp (rI (fun _ j => 0 < j) fun i j => .int (i % j)) (tOp (rI CDiv fun i j => .int (i / j)) (tOp (rI (fun _ j => 0 < j) fun i j => .int (i % j)) (tOp (rI0 fun i j => .int (i + j)) (tOp (rI CMul fun i j => .int (i * j)) (tVar 5) (tC (.int 69621))) (tVar 3)) (tC (.int 2147483563))) (tC (.int 16))) (tVar 1)))) D [some (.ref p), some (.int k), none, some (.int n), some (.int cell), none] H' := by
          intro D hD
          refine ⟨_, rfl, _, _, rfl, rfl, (by decide : (0 : Int) < 2147483629), _, _, rfl, rfl, cb_r (by decide) (by decide), _, rfl, _, _, rfl, rfl, cb_l (by decide) (by decide), _, rfl, _, _, rfl, rfl, cb_r (by omega) (by omega), _, _, rfl, rfl, ?_⟩
          refine ⟨_, rfl, _, _, rfl, rfl, cb_l (by decide) (by decide), _, _, rfl, rfl, _, _, rfl, rfl, _, _, rfl, rfl, (by decide : (0 : Int) < 2147483647), ?_⟩
          refine ⟨_, rfl, _, rfl, _, _, rfl, rfl, (by decide : (0 : Int) < 65003), _, _, rfl, rfl, _, _, rfl, rfl, ?_, _, _, rfl, rfl, (by decide : (0 : Int) < 2147483587), ?_⟩
          · refine cb_l ?_ ?_
            · exact Int.lt_of_lt_of_le (by decide) (cM _ 2147483647 (by decide)).1
            · exact Int.lt_trans (cM _ 2147483647 (by decide)).2 (by decide)
          refine ⟨_, rfl, _, _, rfl, rfl, cb_r (by decide) (by decide), _, rfl, _, _, rfl, rfl, _, _, rfl, rfl, (by decide : (0 : Int) < 2147483563), _, _, rfl, rfl, ⟨by decide, by decide⟩, _, rfl, _, _, rfl, rfl, hk0, ?_⟩
          rw [hD]
          exact hQ _ _ (cM _ _ hk0).1 (cM _ _ hk0).2 stay0 kp2
        refine ⟨_, rfl, _, _, rfl, rfl, ⟨by decide, by decide, by decide⟩, _, _, rfl, rfl, _, rfl, ?_⟩
        refine ite2 (fun g1 => ?_) (fun g1 => iteF (last _ rfl))
        refine ⟨_, rfl, _, rfl, p, _, _, _, rfl, rfl, SqL.of hp2, i0, l, _, rfl, Or.inl (SqL.of hl2), _, _, rfl, rfl, _, rfl, ?_⟩
        refine ite2 (fun g2 => ?_) (fun g2 => last _ rfl)
        refine ⟨_, rfl, _, rfl, _, _, rfl, rfl, ⟨hk0, hk1⟩, _, rfl, p, _, _, 2, rfl, rfl, hp2, rfl, ?_⟩
        refine ⟨_, rfl, _, rfl, _, _, rfl, rfl, hk0, ?_⟩
        refine hQ _ _ (cM _ _ hk0).1 (cM _ _ hk0).2 ⟨l, ns, n + 1, cell / k, upd_same, ?_, nlp, by omega, by omega⟩ (kp2.trans (Kp.put (n + 1) (cell / k) hp2))
        rw [upd_ne nlp]
        exact hl2
end
end K20
set_option Elab.async false
set_option linter.all false
set_option maxRecDepth 100000
set_option maxHeartbeats 4000000
/-! NM: the names that a law draws: words by a base, a place, a spot and a way. -/
namespace NM
open PySem PySem.Spec
def ok (l : List Nat) : Prop := 1 ≤ l.length ∧ l.length ≤ 8 ∧ ∀ c ∈ l, 97 ≤ c ∧ c ≤ 122
def words : List (List Nat) := [[108, 97, 116, 101], [105, 110], [111, 117, 116], [114, 105, 100, 101], [104, 97, 110, 100], [108, 97, 99, 107], [121, 101, 115], [110, 111], [110, 97, 109, 101, 115], [103, 111, 110, 101], [116, 101, 120, 116], [112, 108, 97, 110], [117, 110, 100, 111], [117, 115, 117, 97, 108], [98, 97, 99, 107], [108, 101, 97, 118, 101]]
def lets : List Nat := (List.range 26).map (97 + ·)
def w0 (bs : List Nat) (at_ spot k : Nat) : List Nat := bs.take at_ ++ [97 + (spot + 5 * k) % 26] ++ bs.drop (at_ + 1)
def w1 (bs : List Nat) (at_ spot k : Nat) : List Nat := (w0 bs at_ spot k).take (bs.length - k % (bs.length - at_))
def w2 (spot k : Nat) : List Nat := (List.replicate 8 (97 + (spot + k / 8) % 26)).take (k % 8 + 1)
def w3 (spot k : Nat) : List Nat := words.getD ((spot + k) % 16) []
def word (bs : List Nat) (at_ spot way k : Nat) : List Nat := if way = 1 then w1 bs at_ spot k else if way = 2 then w2 spot k else if way = 3 then w3 spot k else w0 bs at_ spot k
theorem words_ok : ∀ i, i < 16 → ok (words.getD i []) := by
  have : ∀ i : Fin 16, 1 ≤ (words.getD i.1 []).length ∧ (words.getD i.1 []).length ≤ 8 ∧ (words.getD i.1 []).all (fun c => decide (97 ≤ c ∧ c ≤ 122)) = true := by decide +kernel
  intro i hi
  obtain ⟨h1, h2, h3⟩ := this ⟨i, hi⟩
  refine ⟨h1, h2, fun c hc => ?_⟩
  have := List.all_eq_true.mp h3 c hc
  exact of_decide_eq_true this
theorem words_inj : ∀ i j, i < 16 → j < 16 → words.getD i [] = words.getD j [] → i = j := by
  have : ∀ i j : Fin 16, words.getD i.1 [] = words.getD j.1 [] → i = j := by decide +kernel
  intro i j hi hj e
  exact congrArg Fin.val (this ⟨i, hi⟩ ⟨j, hj⟩ e)
section
variable {bs : List Nat} {at_ spot k : Nat}
theorem w0_len (h : at_ < bs.length) : (w0 bs at_ spot k).length = bs.length := by
  unfold w0
  simp only [List.length_append, List.length_take, List.length_drop, List.length_cons, List.length_nil]
  omega
theorem w0_at (h : at_ < bs.length) : (w0 bs at_ spot k)[at_]? = some (97 + (spot + 5 * k) % 26) := by
  unfold w0
  rw [List.append_assoc, List.getElem?_append_right (by rw [List.length_take]; omega), List.length_take, Nat.min_eq_left (by omega), Nat.sub_self]
  rfl
theorem w0_mem (hb : ∀ c ∈ bs, 97 ≤ c ∧ c ≤ 122) : ∀ c ∈ w0 bs at_ spot k, 97 ≤ c ∧ c ≤ 122 := by
  intro c hc
  unfold w0 at hc
  rcases List.mem_append.mp hc with hc | hc
  · rcases List.mem_append.mp hc with hc | hc
    · exact hb c (List.mem_of_mem_take hc)
    · rw [List.mem_singleton] at hc
      omega
  · exact hb c (List.mem_of_mem_drop hc)
theorem w1_len (h : at_ < bs.length) : at_ + 1 ≤ (w1 bs at_ spot k).length ∧ (w1 bs at_ spot k).length ≤ bs.length := by
  unfold w1
  rw [List.length_take, w0_len h]
  have := Nat.mod_lt k (show 0 < bs.length - at_ by omega)
  omega
theorem w1_at (h : at_ < bs.length) : (w1 bs at_ spot k)[at_]? = some (97 + (spot + 5 * k) % 26) := by
  have h1 := (w1_len (spot := spot) (k := k) h).1
  unfold w1 at h1 ⊢
  rw [List.length_take, w0_len h] at h1
  rw [List.getElem?_take_of_lt (by omega)]
  exact w0_at h
theorem spot_inj {i j : Nat} (hi : i < 16) (hj : j < 16) (e : 97 + (spot + 5 * i) % 26 = 97 + (spot + 5 * j) % 26) : i = j := by omega
theorem word_ok (hb0 : 1 ≤ bs.length) (hb8 : bs.length ≤ 8) (hb : ∀ c ∈ bs, 97 ≤ c ∧ c ≤ 122) (h : at_ < bs.length) (way : Nat) : ok (word bs at_ spot way k) := by
  unfold word
  split
  · have := w1_len (spot := spot) (k := k) h
    exact ⟨by omega, by omega, fun c hc => w0_mem hb c (List.mem_of_mem_take hc)⟩
  split
  · unfold w2
    refine ⟨by rw [List.length_take, List.length_replicate]; omega, by rw [List.length_take, List.length_replicate]; omega, fun c hc => ?_⟩
    have := List.eq_of_mem_replicate (List.mem_of_mem_take hc)
    omega
  split
  · exact words_ok _ (Nat.mod_lt _ (by decide))
  · exact ⟨by rw [w0_len h]; exact hb0, by rw [w0_len h]; exact hb8, w0_mem hb⟩
theorem word_inj (h : at_ < bs.length) (way : Nat) {i j : Nat} (hi : i < 16) (hj : j < 16) (e : word bs at_ spot way i = word bs at_ spot way j) : i = j := by
  unfold word at e
  split at e
  · have h1 := w1_at (spot := spot) (k := i) h
    rw [e, w1_at h] at h1
    exact (spot_inj hj hi (Option.some.inj h1)).symm
  split at e
  · unfold w2 at e
    have hl := congrArg List.length e
    rw [List.length_take, List.length_take, List.length_replicate, List.length_replicate] at hl
    have h0 : ((List.replicate 8 (97 + (spot + i / 8) % 26)).take (i % 8 + 1))[0]? = ((List.replicate 8 (97 + (spot + j / 8) % 26)).take (j % 8 + 1))[0]? := by rw [e]
    rw [List.getElem?_take_of_lt (by omega), List.getElem?_take_of_lt (by omega), List.getElem?_replicate, List.getElem?_replicate, if_pos (by decide), if_pos (by decide)] at h0
    have := Option.some.inj h0
    omega
  split at e
  · have := words_inj _ _ (Nat.mod_lt _ (by decide)) (Nat.mod_lt _ (by decide)) e
    omega
  · have h1 := w0_at (spot := spot) (k := i) h
    rw [e, w0_at h] at h1
    exact (spot_inj hj hi (Option.some.inj h1)).symm
/-- as many as are asked: unlike ones -/
theorem all_unlike (h : at_ < bs.length) (way n : Nat) (hn : n ≤ 16) : ((List.range n).map (word bs at_ spot way)).Pairwise (· ≠ ·) := by
  rw [List.pairwise_map]
  refine (List.pairwise_lt_range (n := n)).imp_of_mem fun {a b} ha hb hlt e => ?_
  have := word_inj h way (by have := List.mem_range.mp ha; omega) (by have := List.mem_range.mp hb; omega) e
  omega
end
end NM
set_option Elab.async false
set_option linter.all false
set_option maxRecDepth 100000
set_option maxHeartbeats 4000000
namespace K20
open PySem PySem.Spec PyProof.Rows L2
open C8 (Cal Mak Met pe_c pe_mk pe_mt pe_mt0)
open SX (S)
theorem lets_S : (Str.ofString "abcdefghijklmnopqrstuvwxyz").cps.toList = NM.lets := by decide +kernel
theorem words_S : Txt.split (Str.ofString "late in out ride hand lack yes no names gone text plan undo usual back leave") (Str.ofString " ") = NM.words.map S := by decide +kernel
theorem at_lets {x : Int} {j : Nat} (e : x = (j : Int)) (hj : j < 26) : atI (Str.ofString "abcdefghijklmnopqrstuvwxyz").cps.toList x = some (97 + j) := by
  rw [e, lets_S]
  refine atI_nat ?_
  unfold NM.lets
  rw [List.getElem?_map, List.getElem?_range hj]
  rfl
theorem cut_t {l : List Nat} {x : Int} {j : Nat} (e : x = (j : Int)) (h : j ≤ l.length) : cutS (S l) none (some x) = S (l.take j) := by
  rw [e]
  unfold cutS
  rw [HT.sIx_nat, HT.sIx_none, SX.S_len, Nat.min_eq_left h]
  simp [S]
theorem cut_d {l : List Nat} {x : Int} {j : Nat} (e : x = (j : Int)) (h : j ≤ l.length) : cutS (S l) (some x) none = S (l.drop j) := by
  rw [e]
  unfold cutS
  rw [HT.sIx_nat, HT.sIx_none, SX.S_len, Nat.min_eq_left h]
  simp [S, List.take_of_length_le]
theorem ones : ∀ bs : List Nat, ((bs.map fun c => S [c]).map (·.length)).sum = bs.length
  | [] => rfl
  | b :: bs => by
    rw [List.map_cons, List.map_cons, List.sum_cons, ones bs, List.length_cons, SX.S_len]
    simp
    omega
theorem joined : ∀ bs : List Nat, TL.joinL [] (bs.map fun c => [c]) = bs
  | [] => rfl
  | [b] => rfl
  | b :: d :: bs => by
    have := joined (d :: bs)
    simp only [List.map_cons, TL.joinL] at this ⊢
    simp [this]
/-- a sign eight times -/
theorem op_eight {X : Cx} : OpR X (binaryOp .Mult) (fun x y H Q => ∃ c : Nat, x = .str ⟨#[c]⟩ ∧ y = .int 8 ∧ Q (.str (S (List.replicate 8 c))) H) := by
  intro pins s σ H x y v u Q I rx ry h
  obtain ⟨c, rfl, rfl, q⟩ := h
  obtain ⟨t, rfl⟩ := rx
  obtain ⟨t', rfl⟩ := ry
  refine PySem.P.mul_str (by decide) (fun _ _ => by show ¬ ((1 : Int) > (2 ^ 63 - 1) / 8); decide) (fun _ _ => by show Builtin.Str.tooLong 8 = false; decide) ?_
  rw [if_neg (by decide), if_neg (by show ¬ ((8 : Int) == 1 || (1 : Nat) == 0) = true; decide)]
  exact ⟨by show 8 ≤ _; decide, ⟨.str (S (List.replicate 8 c)), H, I.tok _, ⟨_, rfl⟩, q⟩⟩
section
variable {P : Program} {w : World} {K : PySem.W.Frag} {mg : Str → Option Value} {base : Heap} {f C : Addr} {fd : FuncData}
abbrev CalD (P : Program) (w : World) (K : PySem.W.Frag) (mg : Str → Option Value) (base : Heap) : Prop := Cal P w K mg base 1 "_law_draw" spDraw []
def spNames : Sp := fun vs H Q _ => ∃ (p : Addr) (c n : Nat), vs = [.ref p, .int n] ∧ Pen H p (c + 40) ∧ n ≤ 16 ∧
  ∀ (o : Addr) (zs : List (List Nat)) (H' : Hp), Pen H' p c → Kp p H H' → H o = none → Off p o H' → H' o = some (.lst (zs.map fun l => V.str (S l))) → zs.length = n → (∀ z ∈ zs, NM.ok z) → zs.Pairwise (· ≠ ·) → Q (.ref o) H'
theorem ok_names (F : Dn K d_l_names f fd) (bl : Bl mg) (cD : CalD P w K mg base) : FnOk P w K mg base CX0 2 f fd ["_law_pen_here", "_law_many"] spNames := by
  refine F.ok sc_l_names (fun vs H Q E h => ?_) (fun cdv A outer s H vs Q E hr h => ?_)
  · obtain ⟨p, c, n, rfl, _⟩ := h
    rfl
  · obtain ⟨p, c, n, rfl, pen, hn, hQ⟩ := h
    refine ⟨_, PSs.nox (pss_cons (ps_set (i := 2) sc_l_names.nd rfl (.inr rfl) pe_str)
      (pss_cons (ps_set (i := 3) sc_l_names.nd rfl (.inl rfl) (pe_split pe_str pe_str))
      (pss_cons (ps_set (i := 4) sc_l_names.nd rfl (.inl rfl) (pe_op op_add pe_int (pe_c cD hr (by decide) rfl (pa_cons (pv 0) (pa_cons pe_int pa_nil)))))
      (C8.pss_cut (ps_set (i := 6) sc_l_names.nd rfl (.inl rfl) (pe_join pe_str (pe_lc (own := [("_law_k", 5)]) (g := gName 5) (tt := tYes) rfl sc_l_names.nd (pi_range1 rfl bl.range (pa_cons (pv 4) pa_nil)) (blkOk_by (N := N_l_names) (sc := defScope s_l_names) (by decide +kernel))
          (fun _ _ _ _ _ => pg_name (i := 5) sc_l_names.nd rfl (Or.inl rfl)) (fun _ _ _ _ _ => pts_nil) (fun _ _ _ _ _ => pe_ix ix_str (pv 2) (pe_c cD hr (by decide) rfl (pa_cons (pv 0) (pa_cons pe_int pa_nil))) (fun _ _ => rfl)))))
      (pss_cons (ps_par3 (i := 7) (j := 8) (l := 9) rfl sc_l_names.nd rfl rfl rfl (by decide) (by decide) (by decide) rfl rfl rfl (pa_cons (pe_c cD hr (by decide) rfl (pa_cons (pv 0) (pa_cons (pv 4) pa_nil))) (pa_cons (pe_c cD hr (by decide) rfl (pa_cons (pv 0) (pa_cons pe_int pa_nil)))
          (pa_cons (pe_op op_mod (pe_c cD hr (by decide) rfl (pa_cons (pv 0) (pa_cons pe_int pa_nil))) pe_int) pa_nil))) rfl)
      (pss_cons (ps_set (i := 10) sc_l_names.nd rfl (.inl rfl) (pe_lst pa_nil))
      (pss_cons (ps_for PassesOwn.never rfl (pi_range1 rfl bl.range (pa_cons (pv 1) pa_nil)) (pg_name (i := 5) sc_l_names.nd rfl (.inl rfl))
        (pss_cons (ps_set (i := 11) sc_l_names.nd rfl (.inl rfl) (pe_op op_add_str (pe_op op_add_str (pe_slice sl_str (pv 6) po_none (po_some (pv 7))) (pe_ix ix_str (pv 2) (pe_op op_mod (pe_op op_add (pv 8) (pe_op op_mul pe_int (pv 5))) pe_int) (fun _ _ => rfl)))
            (pe_slice sl_str (pv 6) (po_some (pe_op op_add (pv 7) pe_int)) po_none)))
        (C8.pss_cut (ps_if (pt_cmpR op_eq (pv 9) pe_int (nomark _)) (pss_one (ps_set (i := 11) sc_l_names.nd rfl (.inl rfl) (pe_slice sl_str (pv 11) po_none (po_some (pe_op op_sub (pv 4) (pe_op op_mod (pv 5) (pe_op op_sub (pv 4) (pv 7)))))))) pss_nil)
        (C8.pss_cut (ps_if (pt_cmpR op_eq (pv 9) pe_int (nomark _)) (pss_one (ps_set (i := 11) sc_l_names.nd rfl (.inl rfl) (pe_slice sl_str (pe_op op_eight (pe_ix ix_str (pv 2) (pe_op op_mod (pe_op op_add (pv 8) (pe_op op_fdiv (pv 5) pe_int)) pe_int) (fun _ _ => rfl)) pe_int) po_none
            (po_some (pe_op op_add (pe_op op_mod (pv 5) pe_int) pe_int))))) pss_nil)
        (C8.pss_cut (ps_if (pt_cmpR op_eq (pv 9) pe_int (nomark _)) (pss_one (ps_set (i := 11) sc_l_names.nd rfl (.inl rfl) (pe_ix ix_list (pv 3) (pe_op op_mod (pe_op op_add (pv 8) (pv 5)) pe_int) (fun _ _ => rfl)))) pss_nil)
        (pss_one (ps_expr (pe_bm PySem.F.plainAttrs_list PySem.F.slot_list_insert PySem.F.type_list_insert mt_insert (pv 10) (pa_cons (pe_c cD hr (by decide) rfl (pa_cons (pv 0) (pa_cons (pe_op op_add (pe_callB call_len_seq rfl bl.len boot_len (pa_cons (pv 10) pa_nil)) pe_int) pa_nil))) (pa_cons (pv 11) pa_nil))))))))))
      (pss_one (ps_ret (pv 10)))))))))), ?_⟩
    -- the words
    refine ⟨⟨_, rfl⟩, _, _, rfl, rfl, by decide +kernel, by decide +kernel, fun wl fwl => ?_⟩
    rw [words_S]
    have s1 := same_new (o := .lst ((NM.words.map S).map V.str)) fwl
    have hwl := upd_same (H := H) (a := wl) (o := .lst ((NM.words.map S).map V.str))
    have pen1 := pen.same s1
    have off1 : Off p wl (upd H wl (.lst ((NM.words.map S).map V.str))) := (Off.of pen fwl).kp (Kp.same s1)
    generalize upd H wl (.lst ((NM.words.map S).map V.str)) = H1 at s1 hwl pen1 off1 ⊢
    -- the size
    refine ⟨_, rfl, p, c + 39, _, rfl, pen1, by decide, by decide, fun z0 H2 a2 b2 pen2 k2 => ?_⟩
    refine ⟨_, _, rfl, rfl, ?_⟩
    obtain ⟨sz, hsz⟩ := Int.eq_ofNat_of_zero_le (show 0 ≤ 1 + z0 by omega)
    have sz1 : 1 ≤ sz := by omega
    have sz8 : sz ≤ 8 := by omega
    have hwl2 := k2.1 _ _ hwl off1.ne
    have off2 := off1.kp k2
    -- the base
    refine ⟨fun σ' H' => ∃ bs : List Nat, σ' = [some (.ref p), some (.int n), some (.str (Str.ofString "abcdefghijklmnopqrstuvwxyz")), some (.ref wl), some (.int (sz : Int)), none, some (.str (S bs)), none, none, none, none, none] ∧ bs.length = sz ∧ (∀ c ∈ bs, 97 ≤ c ∧ c ≤ 122) ∧
      Pen H' p (c + 30) ∧ Kp p H H' ∧ H' wl = some (.lst ((NM.words.map S).map V.str)) ∧ Off p wl H', ?_, ?_⟩
    · refine ⟨⟨_, rfl⟩, _, rfl, _, rfl, by omega, by omega, ?_⟩
      rw [hsz, Int.toNat_natCast]
      intro D hD
      have offD := Off.of pen2 hD
      have sD := same_new (o := .lst []) hD
      refine lc_range (n := sz) (fun i H3 => ∃ bs : List Nat, bs.length = i ∧ (∀ c ∈ bs, 97 ≤ c ∧ c ≤ 122) ∧ H3 D = some (.lst (bs.map fun c => V.str (S [c]))) ∧ Pen H3 p (c + 39 - i) ∧ Kp p H2 H3 ∧ Off p D H3) ?_ ?_ ?_
      · exact ⟨[], rfl, by simp, upd_same, pen2.same sD, Kp.same sD, offD.kp (Kp.same sD)⟩
      · rintro i H3 hi ⟨bs, hbl, hbc, hd, pen3, k3, off3⟩
        refine ⟨rfl, ?_⟩
        refine ⟨_, rfl, _, rfl, p, c + 39 - (i + 1), _, rfl, pen3.weak (by omega), by decide, by decide, fun r H4 r0 r1 pen4 k4 => ?_⟩
        obtain ⟨rn, rfl⟩ := Int.eq_ofNat_of_zero_le r0
        have hd4 := k4.1 _ _ hd off3.ne
        have off4 := off3.kp k4
        refine ⟨_, _, 97 + rn, rfl, rfl, by decide +kernel, at_lets rfl (by omega), _, hd4, ?_, bs ++ [97 + rn], by simp [hbl], ?_, ?_, pen4.put off4, (k3.trans k4).new hD, ?_⟩
        · rw [List.length_map, hbl]
          exact Nat.lt_of_lt_of_le (by omega : i < 64) (by decide)
        · intro c' hc'
          rcases List.mem_append.mp hc' with hc' | hc'
          · exact hbc c' hc'
          · rw [List.mem_singleton] at hc'
            omega
        · rw [upd_same]
          simp [S]
        · exact off4.put (by obtain ⟨_, _, _, _, _, z⟩ := off4; exact z)
      · rintro H3 ⟨bs, hbl, hbc, hd, pen3, k3, off3⟩
        have ey : (bs.map fun c => V.str (S [c])) = (bs.map fun c => S [c]).map V.str := by rw [List.map_map]; rfl
        refine ⟨_, D, bs.map fun c => S [c], rfl, rfl, .inl (by rw [← ey]; exact SqL.of hd), ?_, bs, ?_, hbl, hbc, pen3.weak (by omega), ((Kp.same s1).trans k2).trans k3, k3.1 _ _ hwl2 off2.ne, off2.kp k3⟩
        · have e1 : ((bs.map fun c => S [c]).map (·.length)).sum = bs.length := by
            exact ones bs
          rw [e1, List.length_map]
          have e2 : (Str.ofString "").length = 0 := by decide +kernel
          rw [e2, hbl]
          omega
        · have e3 : Txt.join (Str.ofString "") (bs.map fun c => S [c]) = S bs := by
            have e4 : Str.ofString "" = S [] := by decide +kernel
            have e5 : (bs.map fun c => S [c]) = (bs.map fun c => [c]).map S := by rw [List.map_map]; rfl
            rw [e4, e5, SX.join_S]
            rw [joined]
          rw [e3]
          rw [← hsz]
          rfl
    clear pen pen1 pen2 k2 hwl hwl2 off1 off2 s1
    rintro σ' H3 ⟨bs, rfl, hbl, hbc, pen3, k3, hwl3, offw3⟩
    refine ⟨_, rfl, _, rfl, p, c + 29, _, rfl, pen3, by omega, by omega, fun at_ H4 a4 b4 pen4 k4 => ?_⟩
    refine ⟨_, rfl, p, c + 28, _, rfl, pen4, by decide, by decide, fun spot H5 a5 b5 pen5 k5 => ?_⟩
    refine ⟨_, rfl, p, c + 27, _, rfl, pen5, by decide, by decide, fun way0 H6 a6 b6 pen6 k6 => ?_⟩
    refine ⟨_, _, rfl, rfl, (by decide : (0 : Int) < 4), _, _, _, rfl, ?_⟩
    obtain ⟨at_, rfl⟩ := Int.eq_ofNat_of_zero_le a4
    obtain ⟨spot, rfl⟩ := Int.eq_ofNat_of_zero_le a5
    obtain ⟨way, hway⟩ := Int.eq_ofNat_of_zero_le (show 0 ≤ way0 % 4 by omega)
    have hat : at_ < bs.length := by omega
    have k36 := (k4.trans k5).trans k6
    have k06 := k3.trans k36
    have hwl6 := k36.1 _ _ hwl3 offw3.ne
    have offw6 := offw3.kp k36
    clear k4 k5 k6 pen4 pen5
    refine ⟨by show 0 ≤ sizeLine; decide, fun o fo => ?_⟩
    have so := same_new (o := .lst []) fo
    refine ⟨_, rfl, _, rfl, by omega, by omega, ?_⟩
    rw [Int.toNat_natCast]
    refine for_range (n := n) (fun i σ H7 => ∃ (zs : List (List Nat)) (v5 v11 : Option V), σ = [some (.ref p), some (.int n), some (.str (Str.ofString "abcdefghijklmnopqrstuvwxyz")), some (.ref wl), some (.int (sz : Int)), v5, some (.str (S bs)), some (.int (at_ : Int)), some (.int (spot : Int)), some (.int (way0 % 4)), some (.ref o), v11] ∧
        H7 o = some (.lst (zs.map fun l => V.str (S l))) ∧ zs.Perm ((List.range i).map (NM.word bs at_ spot way)) ∧ Pen H7 p (c + 27 - i) ∧ Kp p H6 H7 ∧ Off p o H7)
      ⟨[], none, none, rfl, upd_same, List.Perm.refl _, pen6.same so, Kp.same so, (Off.of pen6 fo).kp (Kp.same so)⟩ ?_ ?_
    · rintro i σ H7 hi ⟨zs, v5, v11, rfl, ho7, perm7, pen7, k7, off7⟩
      have hwl7 := k7.1 _ _ hwl6 offw6.ne
      have zl : zs.length = i := by rw [perm7.length_eq, List.length_map, List.length_range]
      have len0 : (S bs).length ≤ sizeLine := by rw [SX.S_len]; exact Nat.le_trans (by omega : bs.length ≤ 8) (by decide)
      have lets_len : (Str.ofString "abcdefghijklmnopqrstuvwxyz").length ≤ sizeLine := by decide +kernel
      have e5 : ((spot : Int) + 5 * (0 + (i : Int))) % 26 = (((spot + 5 * i) % 26 : Nat) : Int) := by omega
      -- the word
      refine ⟨_, rfl, _, rfl, _, rfl, _, rfl, len0, ?_⟩
      rw [cut_t rfl (by omega)]
      refine ⟨_, rfl, _, rfl, _, rfl, _, _, rfl, rfl, cb_l (by decide) (by decide), _, _, rfl, rfl, _, _, rfl, rfl, (by decide : (0 : Int) < 26), _, _, _, rfl, rfl, lets_len, at_lets e5 (Nat.mod_lt _ (by decide)), _, _, rfl, rfl, ?_, ?_⟩
      · rw [SX.S_len, List.length_take]
        exact Nat.le_trans (by show min at_ bs.length + 1 ≤ 64; omega) (by decide)
      refine ⟨_, rfl, _, rfl, _, _, rfl, rfl, _, rfl, _, rfl, len0, ?_⟩
      rw [cut_d (j := at_ + 1) (by omega) (by omega)]
      have ec : S (bs.take at_) ++ (⟨#[97 + (spot + 5 * i) % 26]⟩ : Str) = S (bs.take at_ ++ [97 + (spot + 5 * i) % 26]) := SX.S_cat _ _
      rw [ec]
      refine ⟨_, _, rfl, rfl, ?_, ?_⟩
      · rw [SX.S_len, SX.S_len, List.length_append, List.length_take, List.length_drop]
        exact Nat.le_trans (by show min at_ bs.length + 1 + (bs.length - (at_ + 1)) ≤ 64; omega) (by decide)
      rw [SX.S_cat]
      have ew0 : bs.take at_ ++ [97 + (spot + 5 * i) % 26] ++ bs.drop (at_ + 1) = NM.w0 bs at_ spot i := rfl
      rw [ew0]
      -- cut short
      refine ⟨fun σ' H' => H' = H7 ∧ σ' = [some (.ref p), some (.int n), some (.str (Str.ofString "abcdefghijklmnopqrstuvwxyz")), some (.ref wl), some (.int (sz : Int)), some (.int (0 + i)), some (.str (S bs)), some (.int (at_ : Int)), some (.int (spot : Int)), some (.int (way0 % 4)), some (.ref o), some (.str (S (if way = 1 then NM.w1 bs at_ spot i else NM.w0 bs at_ spot i)))], ?_, ?_⟩
      · refine ⟨_, rfl, rfl, _, rfl, ?_⟩
        refine ite2 (fun c1 => ?_) (fun c1 => ?_)
        · have e1 : way = 1 := by have := V.int.inj (of_decide_eq_true c1); omega
          refine ⟨_, rfl, _, rfl, _, rfl, _, rfl, _, rfl, _, _, rfl, rfl, _, _, rfl, rfl, (by omega : (0 : Int) < (sz : Int) - (at_ : Int)), _, _, rfl, rfl, _, rfl, _, rfl, by rw [SX.S_len, NM.w0_len hat]; exact Nat.le_trans (by omega : bs.length ≤ 8) (by decide), ?_⟩
          have em : (sz : Int) - (0 + (i : Int)) % ((sz : Int) - (at_ : Int)) = ((bs.length - i % (bs.length - at_) : Nat) : Int) := by
            have h1 : ((sz : Int) - (at_ : Int)) = ((bs.length - at_ : Nat) : Int) := by omega
            rw [h1, Int.zero_add, ← Int.natCast_emod]
            have := Nat.mod_lt i (show 0 < bs.length - at_ by omega)
            omega
          rw [cut_t em (by rw [NM.w0_len hat]; omega)]
          rw [if_pos e1]
          exact ⟨rfl, rfl⟩
        · have e1 : ¬ way = 1 := fun z => c1 (decide_eq_true (by rw [hway, z]; rfl))
          rw [if_neg e1]
          exact ⟨rfl, rfl⟩
      rintro σ' H' ⟨rfl, rfl⟩
      -- one sign again and again
      refine ⟨fun σ' H'' => H'' = H' ∧ σ' = [some (.ref p), some (.int n), some (.str (Str.ofString "abcdefghijklmnopqrstuvwxyz")), some (.ref wl), some (.int (sz : Int)), some (.int (0 + i)), some (.str (S bs)), some (.int (at_ : Int)), some (.int (spot : Int)), some (.int (way0 % 4)), some (.ref o), some (.str (S (if way = 1 then NM.w1 bs at_ spot i else if way = 2 then NM.w2 spot i else NM.w0 bs at_ spot i)))], ?_, ?_⟩
      · refine ⟨_, rfl, rfl, _, rfl, ?_⟩
        refine ite2 (fun c1 => ?_) (fun c1 => ?_)
        · have e1 : way = 2 := by have := V.int.inj (of_decide_eq_true c1); omega
          have e6 : ((spot : Int) + (0 + (i : Int)) / 8) % 26 = (((spot + i / 8) % 26 : Nat) : Int) := by omega
          refine ⟨_, rfl, _, rfl, _, rfl, _, _, rfl, rfl, ⟨by decide, by decide⟩, _, _, rfl, rfl, _, _, rfl, rfl, (by decide : (0 : Int) < 26), _, _, _, rfl, rfl, lets_len, at_lets e6 (Nat.mod_lt _ (by decide)), _, rfl, rfl, ?_⟩
          refine ⟨_, rfl, _, _, rfl, rfl, (by decide : (0 : Int) < 8), _, _, rfl, rfl, _, rfl, _, rfl, by rw [SX.S_len, List.length_replicate]; decide, ?_⟩
          rw [cut_t (j := i % 8 + 1) (by omega) (by rw [List.length_replicate]; omega)]
          subst e1
          exact ⟨rfl, rfl⟩
        · have e1 : ¬ way = 2 := fun z => c1 (decide_eq_true (by rw [hway, z]; rfl))
          rw [if_neg e1]
          exact ⟨rfl, rfl⟩
      rintro σ' H'' ⟨rfl, rfl⟩
      -- a word of the list
      refine ⟨fun σ' H' => H' = H'' ∧ σ' = [some (.ref p), some (.int n), some (.str (Str.ofString "abcdefghijklmnopqrstuvwxyz")), some (.ref wl), some (.int (sz : Int)), some (.int (0 + i)), some (.str (S bs)), some (.int (at_ : Int)), some (.int (spot : Int)), some (.int (way0 % 4)), some (.ref o), some (.str (S (NM.word bs at_ spot way i)))], ?_, ?_⟩
      · refine ⟨_, rfl, rfl, _, rfl, ?_⟩
        refine ite2 (fun c1 => ?_) (fun c1 => ?_)
        · have e1 : way = 3 := by have := V.int.inj (of_decide_eq_true c1); omega
          have e7 : ((spot : Int) + (0 + (i : Int))) % 16 = (((spot + i) % 16 : Nat) : Int) := by omega
          have hw16 : (spot + i) % 16 < NM.words.length := Nat.mod_lt _ (by decide)
          refine ⟨_, rfl, _, rfl, _, rfl, _, _, rfl, rfl, _, _, rfl, rfl, (by decide : (0 : Int) < 16), wl, _, _, .str (S (NM.w3 spot i)), rfl, rfl, SqL.of hwl7, ?_, ?_⟩
          · rw [e7]
            refine atI_nat ?_
            rw [List.getElem?_map, List.getElem?_map, List.getElem?_eq_getElem hw16]
            unfold NM.w3
            rw [List.getD_eq_getElem?_getD, List.getElem?_eq_getElem hw16]
            rfl
          · subst e1
            exact ⟨rfl, rfl⟩
        · have e1 : ¬ way = 3 := fun z => c1 (decide_eq_true (by rw [hway, z]; rfl))
          refine ⟨rfl, ?_⟩
          unfold NM.word
          rw [if_neg e1]
      rintro σ' H' ⟨rfl, rfl⟩
      -- put in
      refine ⟨_, rfl, Or.inl ⟨rfl, _, SqL.of ho7⟩, _, rfl, _, rfl, o, _, rfl, .inl (SqL.of ho7), _, _, rfl, rfl, p, c + 27 - (i + 1), _, rfl, pen7.weak (by omega), by omega, by rw [List.length_map]; omega, fun r H8 r0 r1 pen8 k8 => ?_⟩
      have off8 := off7.kp k8
      have ho8 := k8.1 _ _ ho7 off7.ne
      refine ⟨_, rfl, o, _, _, _, rfl, rfl, ho8, ?_, r0, by rw [List.length_map] at r1; omega, ?_⟩
      · rw [List.length_map, zl]
        exact Nat.lt_of_lt_of_le (by omega : i < 64) (by decide)
      · refine ⟨zs.take r.toNat ++ [NM.word bs at_ spot way i] ++ zs.drop r.toNat, _, _, rfl, ?_, ?_, pen8.put off8, (k7.trans k8).new fo, ?_⟩
        · rw [upd_same]
          simp [List.map_append, List.map_take, List.map_drop]
        · have hp1 : (zs.take r.toNat ++ [NM.word bs at_ spot way i] ++ zs.drop r.toNat).Perm (NM.word bs at_ spot way i :: zs) := by
            rw [List.append_assoc]
            have := List.perm_middle (a := NM.word bs at_ spot way i) (l₁ := zs.take r.toNat) (l₂ := zs.drop r.toNat)
            rw [List.take_append_drop] at this
            exact this
          refine hp1.trans ?_
          rw [List.range_succ, List.map_append]
          exact (List.Perm.cons _ perm7).trans (List.perm_append_singleton _ _).symm
        · exact off8.put (by obtain ⟨_, _, _, _, _, z⟩ := off8; exact z)
    · rintro σ H7 ⟨zs, v5, v11, rfl, ho7, perm7, pen7, k7, off7⟩
      refine ⟨_, rfl, hQ o zs H7 (pen7.weak (by omega)) (k06.trans k7) ?_ off7 ho7 (by rw [perm7.length_eq, List.length_map, List.length_range]) (fun z hz => ?_) ?_⟩
      · cases q : H o with
        | none => rfl
        | some u =>
          have z := k06.1 _ _ q (Off.of pen6 fo).ne
          rw [fo] at z
          cases z
      · obtain ⟨k, _, rfl⟩ := List.mem_map.mp (perm7.subset hz)
        exact NM.word_ok (by omega) (by omega) hbc hat way
      · exact (perm7.symm.pairwise_iff (fun h => Ne.symm h)).mp (NM.all_unlike hat way n hn)
end
end K20
set_option Elab.async false
set_option linter.all false
set_option maxRecDepth 100000
set_option maxHeartbeats 4000000
/-! sorted(xs), xs a list of data at any depth -/
namespace SRT
open PySem PySem.Spec PyProof.Rows L2
/-- p stands not behind q -/
def leD (p q : V × PyData) : Bool := !PySem.W.dataLt q.2 p.2
/-- the sorted list -/
def srt (xs : List V) (ds : List PyData) : List V := ((xs.zip ds).mergeSort leD).map Prod.fst
theorem len_of {K : PySem.W.Frag} {H : Hp} : ∀ {xs : List V} {ds : List PyData}, DpAll K H xs ds → xs.length = ds.length
  | _, _, .nil => rfl
  | _, _, .cons _ t => congrArg (· + 1) (len_of t)
theorem srt_perm {xs : List V} {ds : List PyData} (h : xs.length = ds.length) : (srt xs ds).Perm xs := by
  unfold srt
  refine ((List.mergeSort_perm _ _).map Prod.fst).trans ?_
  rw [List.map_fst_zip (by omega)]
theorem vals_each : ∀ {xs : List V} {us : List Value} {ds : List PyData}, Vals xs us → xs.length = ds.length → PySem.W.EachIs (fun v (b : V × PyData) => RelV b.1 v) us (xs.zip ds)
  | [], _, [], .nil, _ => .nil
  | x :: xs, _, d :: ds, .cons r rs, h => .cons r (vals_each rs (by simpa using h))
theorem each_vals : ∀ {us : List Value} {bs : List (V × PyData)}, PySem.W.EachIs (fun v (b : V × PyData) => RelV b.1 v) us bs → Vals (bs.map Prod.fst) us
  | _, _, .nil => .nil
  | _, _, .cons r rs => .cons r (each_vals rs)
def rSortedD (K : PySem.W.Frag) : List V → Hp → VK → Prop := fun vs H Q => ∃ (a : Addr) (xs : List V) (ds : List PyData), vs = [V.ref a] ∧ (SqL K H a xs ∨ SqT K H a xs) ∧ DpAll K H xs ds ∧ PySem.W.AllAlike ds ∧ PySem.W.Sortable ds ∧ (∀ d ∈ ds, d.depth ≤ 60) ∧
  ∀ p : Addr, H p = none → Q (.ref p) (upd H p (.lst (srt xs ds)))
/-! sorted of a tuple -/
section
variable {prog : Program} {w : World} {A : Around} {E : Value → Shared → Prop} {s : Shared} {κ : KeyKind}
theorem gather_tup {b : Addr} {us : List Value} {R : List Value → Shared → Prop} (ht : s.heap.IsTuple b us.toArray) (hz : us.length ≤ sizeLine)
    (h : R us { s with heap := (s.heap.push (seqObj "list" #[] 0)).update s.heap.objs.size (Obj.mapSeq (· ++ us.toArray)) }) : wpAny (model prog w) A (collect (.ref b)) R E s := by
  obtain ⟨ob, e1, e2, k, e3⟩ := id ht
  have e4 : (s.heap.push (seqObj "list" #[] 0)).get? b = some ob := Heap.get?_push_of_some _ e1
  have em : (s.heap.push (seqObj "list" #[] 0)).get? s.heap.objs.size = some (seqObj "list" #[] 0) := Heap.get?_push_size _ rfl
  unfold collect
  refine wpAny_bind (wpAny_runValue (codeAny_builtin entry_proto_collect' ?_))
  show wpAny _ _ (do again (.builtin "list.__iadd__" ⟨[← newList [], .ref b], []⟩)) _ _ s
  refine wpAny_bind (wpAny_newList (wpAny_pure ⟨Code.quiet_builtin _ (by decide +kernel), codeAny_builtin entry_list_iadd' ?_⟩))
  show wpAny _ _ (Builtin.List.listExtendWith (.ref s.heap.objs.size) (.ref b) (.ref s.heap.objs.size)) _ _ { s with heap := s.heap.push (seqObj "list" #[] 0) }
  unfold Builtin.List.listExtendWith
  refine wpAny_bind (wpAny_typeOf (T := "tuple") ⟨ob, e4, e2⟩ ?_)
  have et : (Value.type "tuple" == Value.type "tuple") = true := by rfl
  rw [if_pos (by rw [et]; simp)]
  refine wpAny_bind (listItems_at e4 e3 (wpAny_bind (listItems_at em rfl ?_)))
  rw [if_neg (by simp)]
  refine wpAny_bind (listUpdate_at em rfl ?_ (Nat.zero_le _) (by simp only [Array.size_append, List.size_toArray, List.length_nil]; omega))
  refine wpAny_pure ?_
  show wpAny (model prog w) A (load s.heap.objs.size >>= fun o => match o.data with | .seq xs _ => pure xs.toList | _ => unsupported "internal:collect") R E _
  refine wpAny_bind (wpAny_load (get?_update_seq em _) ?_)
  show wpAny _ _ (pure ((#[] : Array Value) ++ us.toArray).toList) R E _
  have e5 : ((#[] : Array Value) ++ us.toArray).toList = us := by simp
  rw [e5]
  exact wpAny_pure h
theorem sorted_tupV {b : Addr} {us : List Value} {R : Value → Shared → Prop} (ht : s.heap.IsTuple b us.toArray) (hz : us.length ≤ sizeLine)
    (S : PySem.W.SortsAt prog w A.in1.in1 { s with heap := PySem.W.sortingHeap (PySem.W.copyHeap s.heap us) (s.heap.objs.size + 1) us } κ us)
    (h : R (.ref (s.heap.objs.size + 1)) { s with heap := sortedAll s.heap us (PySem.W.sortVals κ false us us).toArray }) : wpAny (model prog w) A (call (.builtin "sorted") [.ref b]) R E s := by
  refine Calls.call_function_entry kind_sorted plain_sorted entry_sorted (args_sorted1 _) ?_
  unfold Builtin.«sorted»
  refine wpAny_bind (m := checkCount "sorted" 1 1 _) (wpAny_pure (wpAny_bind (gather_tup ht hz (wpAny_bind (wpAny_newList ?_ hz)))))
  have e : ((s.heap.push (seqObj "list" #[] 0)).update s.heap.objs.size (Obj.mapSeq (· ++ us.toArray))).objs.size = s.heap.objs.size + 1 := (Heap.size_update ..).trans (size_push' ..)
  show wpAny _ _ _ _ _ { s with heap := PySem.W.copyHeap s.heap us }
  rw [e]
  refine wpAny_bind (wpAny_holding (wpAny_call_entry slot_list_sort ⟨_, PySem.W.copyHeap_at s.heap us, rfl⟩ entry_list_sort ?_ (args_list_sort _)))
  exact PySem.W.list_sort_vals (s := { s with heap := PySem.W.copyHeap s.heap us }) (PySem.W.copyHeap_at s.heap us) S hz ⟨_, rfl, wpAny_pure ⟨_, rfl, h⟩⟩
end
section
variable {X : Cx} {pins : List (Addr × Obj)} {σ : L2.St} {H : Hp} {s : Shared}
theorem reads_each (I : Inv X pins σ H s) : ∀ {ds : List PyData} {vs : List V} {us : List Value}, DpAll X.K H vs ds → Vals vs us → PySem.W.EachIs (fun v d => ∃ as, Reads s.heap v d as) us ds
  | [], _, _, h, r => by
    cases h
    cases r
    exact .nil
  | d :: ds, _, _, h, r => by
    cases h with
    | cons h1 h2 =>
      cases r with
      | cons r1 r2 => exact .cons (Dp.reads I d _ _ h1 r1) (reads_each I h2 r2)
theorem cr_sortedD (hu : X.A.units + 64 < cLine) : CallR X (.builtin "sorted") (rSortedD X.K) := by
  intro pins s σ H vs us Q I r h
  obtain ⟨a, xs, ds, rfl, hs, hd, al, so, dp, q⟩ := h
  rw [Vals.ref1 r]
  have ln := len_of hd
  have main : ∀ its : List Value, Vals xs its → xs.length ≤ sizeLine → ∃ κ : KeyKind, PySem.W.SortsAt X.prog X.w X.A.in1.in1 { s with heap := PySem.W.sortingHeap (PySem.W.copyHeap s.heap its) (s.heap.objs.size + 1) its } κ its ∧
      EP X pins σ Q (.ref (s.heap.objs.size + 1)) { s with heap := sortedAll s.heap its (PySem.W.sortVals κ false its its).toArray } := fun its rv hz => by
    have e := reads_each I hd rv
    have e2 : PySem.W.EachIs (fun v d => ∃ as, Reads (PySem.W.sortingHeap (PySem.W.copyHeap s.heap its) (s.heap.objs.size + 1) its) v d as) its ds := e.mono fun v d ⟨as, h⟩ => ⟨as, Reads.keeps (fun b o z => PySem.W.sorting_copy_old z) h⟩
    have S := PySem.W.SortsAt.data (prog := X.prog) (w := X.w) (A := X.A.in1.in1) (s := { s with heap := PySem.W.sortingHeap (PySem.W.copyHeap s.heap its) (s.heap.objs.size + 1) its }) e2 al so (fun d hd => by have := dp d hd; show X.A.units + 1 + 1 + d.depth < cLine; omega)
    refine ⟨_, S, ?_⟩
    have ek : PySem.W.EachIs (fun v (b : V × PyData) => (PySem.W.dataKind (PySem.W.sortingHeap (PySem.W.copyHeap s.heap its) (s.heap.objs.size + 1) its) ds).keyOf v = some (PySem.W.keyToks b.2)) its (xs.zip ds) := by
      have f := PySem.W.each_keys al e2
      have mz : (xs.zip ds).map Prod.snd = ds := List.map_snd_zip (by omega)
      rw [← mz] at f
      have f' := PySem.W.each_of_map (fun b : V × PyData => b.2) f
      rw [mz] at f'
      exact f'
    have eo := PySem.W.sortVals_each (κ := PySem.W.dataKind (PySem.W.sortingHeap (PySem.W.copyHeap s.heap its) (s.heap.objs.size + 1) its) ds) (rev := false) (fun b : V × PyData => PySem.W.keyToks b.2) (vals_each rv ln) ek
    have vo := each_vals eo
    generalize PySem.W.sortVals _ false its its = out at vo ⊢
    obtain ⟨ep, he'⟩ := PyProof.Rows.sortedAll_at s.heap its out.toArray
    have hlen : (srt xs ds).length ≤ sizeLine := by rw [(srt_perm ln).length_eq]; exact hz
    exact ⟨.ref _, upd H (s.heap.objs.size + 1) (.lst (srt xs ds)), I.laid (t' := s.toks) (fun _ _ => PyProof.Rows.sortedAll_old) (Nat.le_succ _) ⟨hlen, out, ep, vo, he'⟩, rfl, q _ (I.hok.fresh (Nat.le_succ _))⟩
  rcases hs with hs | hs
  · obtain ⟨its, rv, hl, hz⟩ := I.list hs
    obtain ⟨κ, S, k⟩ := main its rv hz
    exact PySem.W.sorted_vals hl.isList S (by rw [← rv.length]; exact hz) k
  · obtain ⟨its, rv, hl, hz⟩ := I.tuple hs
    obtain ⟨κ, S, k⟩ := main its rv hz
    exact sorted_tupV hl (by rw [← rv.length]; exact hz) S k
/-- texts -/
def leS (x y : Str) : Prop := ¬ y.cps.toList < x.cps.toList
theorem dpS {H : Hp} : ∀ xs : List Str, DpAll X.K H (xs.map V.str) (xs.map PyData.str)
  | [] => .nil
  | x :: xs => .cons (.str x) (dpS xs)
theorem srtS (xs : List Str) : ∃ ys : List Str, srt (xs.map V.str) (xs.map PyData.str) = ys.map V.str ∧ ys.Perm xs ∧ ys.Pairwise leS := by
  have tot := PySem.W.sortLe_total (listOrd itemOrd) false (fun p : V × PyData => PySem.W.keyToks p.2)
  have pw := PySem.W.sort_pairwise tot ((xs.map V.str).zip (xs.map PyData.str))
  have pm := List.mergeSort_perm ((xs.map V.str).zip (xs.map PyData.str)) leD
  have mem : ∀ p ∈ ((xs.map V.str).zip (xs.map PyData.str)).mergeSort leD, ∃ x, p = (V.str x, PyData.str x) := fun p hp => by
    have := pm.mem_iff.mp hp
    rw [List.zip_map'] at this
    obtain ⟨x, _, e⟩ := List.mem_map.mp this
    exact ⟨x, e.symm⟩
  have pw' : (((xs.map V.str).zip (xs.map PyData.str)).mergeSort leD).Pairwise fun a b => leD a b = true := pw
  unfold srt
  generalize ((xs.map V.str).zip (xs.map PyData.str)).mergeSort leD = L at pm mem pw'
  have : ∃ ys : List Str, L = ys.map fun x => (V.str x, PyData.str x) := by
    clear pm pw'
    induction L with
    | nil => exact ⟨[], rfl⟩
    | cons p L ih =>
      obtain ⟨x, e⟩ := mem p List.mem_cons_self
      obtain ⟨ys, e2⟩ := ih fun q hq => mem q (List.mem_cons_of_mem _ hq)
      exact ⟨x :: ys, by rw [e, e2]; rfl⟩
  obtain ⟨ys, rfl⟩ := this
  refine ⟨ys, ?_, ?_, ?_⟩
  · rw [List.map_map]
    rfl
  · have p2 := pm.map fun p : V × PyData => match p.1 with | .str x => x | _ => ""
    rw [List.map_map, List.zip_map', List.map_map] at p2
    simpa [Function.comp_def] using p2
  · refine (List.pairwise_map.mp pw').imp fun {a b} h => ?_
    have h' : (!PySem.W.dataLt (.str b) (.str a)) = true := h
    rw [PySem.W.dataLt_str] at h'
    simpa [leS] using h'
/-- sorted of texts, a list or a tuple -/
def rSortedTx (K : PySem.W.Frag) : List V → Hp → VK → Prop := fun vs H Q => ∃ (a : Addr) (xs : List Str), vs = [V.ref a] ∧ (SqL K H a (xs.map V.str) ∨ SqT K H a (xs.map V.str)) ∧
  ∀ (ys : List Str) (p : Addr), ys.Perm xs → ys.Pairwise leS → H p = none → Q (.ref p) (upd H p (.lst (ys.map V.str)))
theorem cr_sortedTx (hu : X.A.units + 64 < cLine) : CallR X (.builtin "sorted") (rSortedTx X.K) := by
  intro pins s σ H vs us Q I r h
  obtain ⟨a, xs, rfl, hs, q⟩ := h
  obtain ⟨ys, e, pm, pw⟩ := srtS xs
  refine cr_sortedD hu pins s σ H _ us Q I r ⟨a, _, xs.map PyData.str, rfl, hs, dpS xs, fun d h1 d' h2 => ?_, .inr fun d h1 => ?_, fun d h1 => ?_, fun p fp => ?_⟩
  · obtain ⟨x, _, rfl⟩ := List.mem_map.mp h1
    obtain ⟨y, _, rfl⟩ := List.mem_map.mp h2
    rfl
  · obtain ⟨x, _, rfl⟩ := List.mem_map.mp h1
    refine ⟨fun z => ?_, fun l z => ?_⟩ <;> cases z
  · obtain ⟨x, _, rfl⟩ := List.mem_map.mp h1
    show 0 ≤ 60
    decide
  · rw [e]
    exact q ys p pm pw fp
end
end SRT
set_option Elab.async false
set_option linter.all false
set_option maxRecDepth 100000
set_option maxHeartbeats 4000000
/-! OW: ==, !=, str and repr of instances of an own class by its own __eq__, __str__, __repr__. -/
namespace OW
open PySem PySem.Spec PyProof.Rows L2
/-- what is known of a special def of the class: where it stands, that it keeps its promise -/
structure Spc (P : Program) (w : World) (K : PySem.W.Frag) (mg : Str → Option Value) (base : Heap) (k : Nat) (C : Addr) (m : Str) (sp : Sp) : Prop where
  ex : ∃ (f : Addr) (fd : FuncData) (ps : List Str), PySem.W.findIn K (.ref C) m = some (some (.ref f)) ∧ PySem.W.isFn K (.ref f) = true ∧ FnOk P w K mg base CX0 k f fd ps sp ∧ Binds K fd ps []
section
variable {X : Cx} {pins : List (Addr × Obj)} {σ : L2.St} {H : Hp} {s : Shared} {Q : VK} {k : Nat} {C a b : Addr} {sp : Sp}
/-- a def called at any around with room -/
theorem run_at {f : Addr} {fd : FuncData} {ps : List Str} {A : Around} {us : List Value} {vs : List V} {E' : Value → Shared → Prop} (F : FnOk X.prog X.w X.K X.mg X.base CX0 k f fd ps sp) (hb : Binds X.K fd ps []) (hr : Room k A) (I : Inv X pins σ H s)
    (he : Env0 X.prog X.w X.K X.mg X.base A X.stack s H) (r : Vals vs us) (h : sp vs H Q E0) : wpAny (model X.prog X.w) A (call (.ref f) us) (EP X pins σ Q) E' s := by
  have hl : us.length = ps.length := by rw [← r.length]; exact F.len _ _ _ _ h
  have b := hb s us I.kIn (by rw [List.append_nil]; exact hl)
  rw [List.append_nil] at b
  refine wpAny_call (codeAny_mono (F.run A X.stack s H ⟨us, []⟩ us vs Q E0 hr he b r h) fun r s' hq => ?_)
  cases r with
  | error e => exact False.elim hq
  | ok fl =>
    cases fl with
    | ret u => exact I.after hq
    | next => exact False.elim hq
    | brk => exact False.elim hq
    | cont => exact False.elim hq
theorem same_first : PySem.W.notFirst X.K C (.ref C) = true := by
  unfold PySem.W.notFirst
  rw [beq_self_eq_true, Bool.true_or]
/-- x == y, both of the class -/
def rEqO (C : Addr) (sp : Sp) : R2 := fun x y H Q => ∃ a dx fs b dy gs, x = .ref a ∧ y = .ref b ∧ H a = some (.ins C dx fs) ∧ H b = some (.ins C dy gs) ∧ sp [x, y] H (fun v H' => ∃ z, v = .bl z ∧ Q (.bl z) H') E0
def rNeO (C : Addr) (sp : Sp) : R2 := fun x y H Q => ∃ a dx fs b dy gs, x = .ref a ∧ y = .ref b ∧ H a = some (.ins C dx fs) ∧ H b = some (.ins C dy gs) ∧ sp [x, y] H (fun v H' => ∃ z, v = .bl z ∧ Q (.bl (!z)) H') E0
theorem op_eqO (S : Spc X.prog X.w X.K X.mg X.base k C "__eq__" sp) (hr : Room k X.A) : OpR X (compareOp .Eq) (rEqO C sp) := by
  obtain ⟨f, fd, ps, h1, h2, F, hb⟩ := S.ex
  intro pins s σ H x y v u Q I rx ry h
  obtain ⟨a, dx, fs, b, dy, gs, rfl, rfl, ea, eb, q⟩ := h
  cases (show v = Value.ref a from rx)
  cases (show u = Value.ref b from ry)
  obtain ⟨mA, O, _⟩ := ins_get I.hok ea
  obtain ⟨od, J, _⟩ := O.look
  obtain ⟨mB, O', _⟩ := ins_get I.hok eb
  obtain ⟨od', J', _⟩ := O'.look
  obtain ⟨m, hF⟩ := I.fr
  show wpAny _ _ (richCompare .Eq (.ref a) (.ref b)) _ _ _
  refine PySem.W.cmp_K (op := .Eq) (tb := .ref C) hr.units0 hF I.ok.mod.kin J J'.type same_first h1 h2 ?_
  refine wpAny_mono (run_at (E' := X.xe) (vs := [.ref a, .ref b]) F hb hr I I.env0 (.cons rfl (.cons rfl .nil)) q) (fun w s' z => ?_) fun _ _ x => x
  obtain ⟨z', H', I', rz, z, rfl, qz⟩ := z
  cases (show w = Value.bool z from rz)
  exact ⟨.bl z, H', I', rfl, qz⟩
open Builtin in
theorem op_neO (S : Spc X.prog X.w X.K X.mg X.base (k + 1) C "__eq__" sp) (hn : PySem.W.findIn X.K (.ref C) "__ne__" = some (some (.builtin "object.__ne__"))) (hm : PySem.W.mroIn X.K C (.type "object") = some true) (hr : Room (k + 2) X.A) : OpR X (compareOp .NotEq) (rNeO C sp) := by
  obtain ⟨f, fd, ps, h1, h2, F, hb⟩ := S.ex
  intro pins s σ H x y v u Q I rx ry h
  obtain ⟨a, dx, fs, b, dy, gs, rfl, rfl, ea, eb, q⟩ := h
  cases (show v = Value.ref a from rx)
  cases (show u = Value.ref b from ry)
  obtain ⟨mA, O, _⟩ := ins_get I.hok ea
  obtain ⟨od, J, _⟩ := O.look
  obtain ⟨mB, O', _⟩ := ins_get I.hok eb
  obtain ⟨od', J', _⟩ := O'.look
  have KI := I.kIn
  have callEq : wpAny (model X.prog X.w) X.A.in1 (call (.ref f) [.ref a, .ref b]) (fun v s' => ∃ z, v = .bool z ∧ EP X pins σ Q (.bool (!z)) s') X.xe s := by
    refine wpAny_mono (run_at (E' := X.xe) (vs := [.ref a, .ref b]) F hb hr.in1 I I.env0.in1 (.cons rfl (.cons rfl .nil)) q) (fun w s' z => ?_) fun _ _ x => x
    obtain ⟨z', H', I', rz, z, rfl, qz⟩ := z
    exact ⟨z, rz, .bl (!z), H', I', rfl, qz⟩
  have slot := PySem.F.cmp_object.ne
  have sub : PySem.W.Looks (model X.prog X.w) s.heap (isInstance (.ref a) (.type "object")) true := J.type.andThen (PySem.W.looks_mroIn KI hm)
  have uu : X.A.in1.units < cLine := hr.in1.units0
  have body : wpAny (model X.prog X.w) X.A.in1 (Builtin.«object.__ne__» ⟨[.ref a, .ref b], []⟩) (fun fin s' => match fin with | .done f => (match f with | .ret v => EP X pins σ Q v s' ∧ ∃ z, v = .bool z | _ => False) | .again _ => False) X.xe s := by
    unfold Builtin.«object.__ne__»
    repeat (first
      | with_reducible refine wpAny_cRoomFor uu ?_
      | (refine wpAny_bind (m := callSpecialIfBound? (.ref a) (Str.ofString "__eq__") [.ref b]) (PySem.W.ifBound_K KI J h1 h2 (wpAny_mono callEq (fun r s' hr => by
          obtain ⟨z, rfl, hq⟩ := hr
          repeat (first | exact ⟨hq, _, rfl⟩ | exact wpAny_pure ⟨hq, _, rfl⟩ | (refine wpAny_bind (m := truthy (.bool _)) (wpAny_truthy_bool ?_)) | wp_step)) fun _ _ e => e)))
      | wp_step)
  have callNe : wpAny (model X.prog X.w) X.A (call (.builtin "object.__ne__") [.ref a, .ref b]) (fun v s' => EP X pins σ Q v s' ∧ ∃ z, v = .bool z) X.xe s := by
    refine wpAny_call (codeAny_call_builtin slot.plain PySem.F.cmpEntry_ne (PySem.W.check_slot PySem.F.cmpKind_ne PySem.F.cmpSplit_ne sub (PySem.F.cmpArgs_ne _ _) ?_))
    refine wpAny_mono body (fun fin s' z => ?_) fun _ _ x => x
    cases fin with
    | done fl =>
      cases fl with
      | ret v => exact z
      | next => exact z.elim
      | brk => exact z.elim
      | cont => exact z.elim
    | again c => exact z.elim
  show wpAny _ _ (richCompare .NotEq (.ref a) (.ref b)) _ _ _
  unfold richCompare
  simp only [oneThing_ref]
  refine wpAny_holding (wpAny_bind (wpAny_cRoomFor hr.units0 ?_))
  rw [cmpInfo_NotEq]
  dsimp only
  refine wpAny_bind (J.type.here (wpAny_bind (J'.type.here ?_)))
  rw [show (Value.ref C != Value.ref C) = false from by simp]
  simp only [Bool.false_eq_true, if_false]
  refine wpAny_bind (wpAny_pure ?_)
  simp only [Bool.false_eq_true, if_false, tryCompare]
  have fin : wpAny (model X.prog X.w) X.A (call (.builtin "object.__ne__") ([.ref a] ++ [.ref b]) >>= fun v => pure (some v)) (fun r s' => ∃ v, r = some v ∧ EP X pins σ Q v s' ∧ ∃ z, v = .bool z) X.xe s :=
    wpAny_bind (wpAny_mono callNe (fun v s' h' => wpAny_pure ⟨v, rfl, h'⟩) fun _ _ h' => h')
  have bound : wpAny (model X.prog X.w) X.A (callSpecialIfBound? (.ref a) "__ne__" [.ref b]) (fun r s' => ∃ v, r = some v ∧ EP X pins σ Q v s' ∧ ∃ z, v = .bool z) X.xe s := by
    simp only [callSpecialIfBound?, bindSpecialIfBound?]
    refine wpAny_holding (wpAny_bind (wpAny_bind (wpAny_bind (J.type.here ((PySem.W.looks_findIn KI hn).here ?_)))))
    simp only [slot.bind]
    refine wpAny_bind (wpAny_askSetting (wpAny_ite ?_))
    split
    · exact wpAny_bind (wpAny_pure (wpAny_pure fin))
    · exact wpAny_tryCatch (wpAny_bind (wpAny_pure (wpAny_pure fin)))
  refine wpAny_bind (wpAny_bind (wpAny_mono bound (fun r s' z => ?_) fun _ _ h => h))
  obtain ⟨v, rfl, hq, z, rfl⟩ := z
  first | exact wpAny_pure (wpAny_pure hq) | exact wpAny_pure hq
/-- str(x), repr(x) -/
def rStrO (C : Addr) (sp : Sp) : List V → Hp → VK → Prop := fun xs H Q => ∃ a dx fs, xs = [.ref a] ∧ H a = some (.ins C dx fs) ∧ sp [.ref a] H (fun v H' => ∃ z, v = .str z ∧ Q (.str z) H') E0
theorem call_strO (S : Spc X.prog X.w X.K X.mg X.base k C "__str__" sp) (hr : Room (k + 2) X.A) : CallR X (.type "str") (rStrO C sp) := by
  obtain ⟨f, fd, ps, h1, h2, F, hb⟩ := S.ex
  intro pins s σ H xs us Q I r h
  obtain ⟨a, dx, fs, rfl, ea, q⟩ := h
  obtain ⟨u, rfl, ru⟩ := vals1 r
  cases (show u = Value.ref a from ru)
  obtain ⟨mA, O, _⟩ := ins_get I.hok ea
  obtain ⟨od, J, _⟩ := O.look
  refine PySem.W.kso_call hr.in1.in1.units0 I.kIn J h1 h2 ?_
  refine wpAny_mono (run_at (E' := X.xe) (vs := [.ref a]) F hb hr.in1.in1 I I.env0.in1.in1 (.cons rfl .nil) q) (fun w s' z => ?_) fun _ _ x => x
  obtain ⟨z', H', I', rz, z, rfl, qz⟩ := z
  obtain ⟨t, rfl⟩ := rz
  exact ⟨.str z, H', I', ⟨t, rfl⟩, qz⟩
theorem call_reprO (S : Spc X.prog X.w X.K X.mg X.base k C "__repr__" sp) (hr : Room (k + 1) X.A) : CallR X (.builtin "repr") (rStrO C sp) := by
  obtain ⟨f, fd, ps, h1, h2, F, hb⟩ := S.ex
  intro pins s σ H xs us Q I r h
  obtain ⟨a, dx, fs, rfl, ea, q⟩ := h
  obtain ⟨u, rfl, ru⟩ := vals1 r
  cases (show u = Value.ref a from ru)
  obtain ⟨mA, O, _⟩ := ins_get I.hok ea
  obtain ⟨od, J, _⟩ := O.look
  obtain ⟨m, hF⟩ := I.fr
  refine PySem.W.repr_K hr.in1.units0 hF I.ok.mod.kin J h1 h2 ?_
  refine wpAny_mono (run_at (E' := X.xe) (vs := [.ref a]) F hb hr.in1 I I.env0.in1 (.cons rfl .nil) q) (fun w s' z => ?_) fun _ _ x => x
  obtain ⟨z', H', I', rz, z, rfl, qz⟩ := z
  obtain ⟨t, rfl⟩ := rz
  exact ⟨.str z, H', I', ⟨t, rfl⟩, qz⟩
end
end OW
set_option Elab.async false
set_option linter.all false
set_option maxRecDepth 100000
set_option maxHeartbeats 4000000
/-! GL: promises of defs that are asked only where no repr is under way (A.guards = some []); what such a def may do more: repr of lists and tuples. -/
namespace GL
open PySem PySem.Spec PyProof.Rows L2
/-- a def's promise, where no repr is under way -/
structure FnG (P : Program) (w : World) (K : PySem.W.Frag) (mg : Str → Option Value) (base : Heap) (k : Nat) (f : Addr) (fd : FuncData) (ps : List Str) (sp : Sp) : Prop where
  len : ∀ vs H Q E, sp vs H Q E → vs.length = ps.length
  run : ∀ (A : Around) (outer : List Env) (s : Shared) (H : Hp) (args : Args) (us : List Value) (vs : List V) (Q : VK) (E : XK), A.guards = some [] → Room k A → Env0 P w K mg base A outer s H → BindsTo s fd args (ps.zip us) → Vals vs us → sp vs H Q E →
    codeAny (model P w) A (.call (.ref f) args) (CR CX0 outer P w H s Q E) s
section
variable {P : Program} {w : World} {K : PySem.W.Frag} {mg : Str → Option Value} {base : Heap} {k : Nat} {f : Addr} {fd : FuncData} {ps : List Str} {sp : Sp}
theorem FnG.of (F : FnOk P w K mg base CX0 k f fd ps sp) : FnG P w K mg base k f fd ps sp := ⟨F.len, fun A outer s H args us vs Q E _ => F.run A outer s H args us vs Q E⟩
/-- by its body -/
theorem okG {x qual : Str} {params : Arguments} {body : List Stmt} {scope : Scope} {dvs : List V} {kws : List (Str × V)} {N : List Str} (F : FunD K x qual params body scope dvs kws f fd) (S : FnScope N ps scope) (len : ∀ vs H Q E, sp vs H Q E → vs.length = ps.length)
    (hbody : ∀ (cdv : Value) (A : Around) (outer : List Env) (s : Shared) (H : Hp) (vs : List V) (Q : VK) (E : XK), A.guards = some [] → Room k (A.deeper (envOfC qual scope s.heap.objs.size f cdv)) → sp vs H Q E →
      ∃ t, PSs (cxOf CX0 P w K mg base N qual scope f cdv A outer s H E) body t ∧ t { nx := fun _ H' => Q .non H', rt := Q } (start N vs) H) : FnG P w K mg base (k + 1) f fd ps sp := by
  refine ⟨len, fun A outer s H args us vs Q E hg hr e0 hb r hsp => ?_⟩
  obtain ⟨oc, od, dV, kV, doc, pm, an, cdv, ct, osl, hfd, lk, hcd, _, _⟩ := F.ex
  subst hfd
  obtain ⟨t, ht, hq⟩ := hbody cdv A outer s H vs Q E hg (hr.deeper _) hsp
  have keep : ∀ b o, base.get? b = some o → s.heap.get? b = some o := fun b o e => (e0.bs b o e).1
  have KX : K.In s.heap := e0.mod.kin.keeps keep
  refine codeAny_call_function hr.depth (KX _ _ lk) rfl S.co S.gen rfl (PySem.W.codeRec_of KX hcd) (hb _ _ _ _ (wpAny_newFunctionEnv_cells S.kind (fun y hy => ?_) fun env he s1 x => ?_))
  · exact (S.par y.1 (List.of_mem_zip hy).1).imp id fun q => ⟨q, PySem.W.cellsFrom_some _ _ _ (.inl q)⟩
  · subst he
    refine ⟨(e0.mod.nolimit.keeps keep).keeps x.toInCall.keep, codeAny_func (wpAny_mono (ht.run [] s1 (start N vs) H _ (inv_start S hr.hd e0 (len _ _ _ _ hsp) r x) hq) (fun fl s' hs => ?_) fun e s' hs => hs)⟩
    match fl, hs with
    | .ret u, ⟨v, σ', H', J, rv, q⟩ => exact ⟨v, H', J.os, J.bare, J.base, J.hok, rv, q⟩
    | .next, ⟨σ', H', J, q⟩ => exact ⟨.non, H', J.os, J.bare, J.base, J.hok, rfl, q⟩
    | .brk, ⟨_, _, _, q⟩ => exact q.elim
    | .cont, ⟨_, _, _, q⟩ => exact q.elim
end
/-- the package of a def of this kind -/
structure CalG (P : Program) (w : World) (K : PySem.W.Frag) (mg : Str → Option Value) (base : Heap) (k : Nat) (x : Str) (sp : Sp) (dvs : List V) : Prop where
  ex : ∃ (f : Addr) (fd : FuncData) (ps : List Str) (ds : List Value), FnG P w K mg base k f fd ps sp ∧ mg x = some (.ref f) ∧ PySem.W.keepIn K (.ref f) = true ∧ Binds K fd ps ds ∧ Vals dvs ds
section
variable {X : Cx} {k j : Nat} {x : Str} {sp : Sp} {dvs : List V} {e : Expr} {es : List Expr} {t : TA} {p pos : Pos}
theorem pe_cG (c : CalG X.prog X.w X.K X.mg X.base k x sp dvs) (hgd : X.A.guards = some []) (hr : Room j X.A) (hk : k ≤ j) (hg : Gl X x) (ha : PA X (e :: es) t)
    (hdb : (x == ("__debug__" : Str)) = false := by decide) (he : starEach (e :: es) X.env = (false, eval e X.env) :: starEach es X.env := by rfl) (hpl : (backTo pos (starEach es X.env)).any (·.1) = false := by rfl) :
    PE X (.Call (.Name x p) (e :: es) [] pos) (tCall sp dvs E0 t) := by
  obtain ⟨f, fd, ps, ds, F, hm, kp, b, d⟩ := c.ex
  refine ⟨fun pins s σ H Q I h => wpAny_Call_Name_kw (ld_glob I hg hm (PySem.W.callWith_K (h₀ := X.base) I.ok.mod.kin kp (thn (ha.run pos pins s σ H _ I h) fun us s1 ⟨vs, H1, I1, r, q⟩ => ⟨I1.kIn, ?_⟩) he hpl) hdb)⟩
  have r2 := r.append d
  refine wpAny_call (codeAny_mono (F.run X.A X.stack s1 H1 ⟨us, []⟩ (us ++ ds) (vs ++ dvs) Q E0 hgd (hr.mono hk) I1.env0 (b s1 us I1.kIn (r2.length.symm.trans (F.len _ _ _ _ q))) r2 q) fun r s' hq => ?_)
  match r, hq with
  | .error _, hq => exact hq.elim
  | .ok (.ret u), hq => exact I1.after hq
  | .ok .next, hq => exact hq.elim
  | .ok .brk, hq => exact hq.elim
  | .ok .cont, hq => exact hq.elim
/-- repr of what is flat, of lists and tuples -/
def rRepr (K : PySem.W.Frag) : List V → Hp → VK → Prop := fun xs H Q => ∃ (y : V) (d : PyData), xs = [y] ∧ Dp K H y d ∧ d.showable = true ∧ d.hasDict = false ∧ d.depth ≤ 60 ∧ d.shown.length ≤ sizeLine ∧ Q (.str d.shown) H
theorem call_reprD (hgd : X.A.guards = some []) (hu : X.A.units + 64 < cLine) : CallR X (.builtin "repr") (rRepr X.K) := by
  intro pins s σ H xs us Q I r h
  obtain ⟨y, d, rfl, hd, hs, hn, hdp, hsz, q⟩ := h
  obtain ⟨u, rfl, ru⟩ := r.one
  obtain ⟨as, rd⟩ := Dp.reads I d y u hd ru
  have fin : ∀ h' tk t, (∀ b o, s.heap.get? b = some o → h'.get? b = some o) → EP X pins σ Q (.str d.shown t) { s with heap := h', toks := tk } := fun h' tk t hk => ⟨.str d.shown, H, I.kept hk, ⟨t, rfl⟩, q⟩
  cases hd with
  | non => cases ru; exact PySem.P.repr_of_none (fin s.heap _ _ fun _ _ e => e)
  | bl b => cases ru; exact PySem.P.repr_of_bool (fin s.heap _ _ fun _ _ e => e)
  | int i =>
    obtain ⟨t, rfl⟩ := ru
    exact PySem.P.repr_of_int (of_decide_eq_true hs) (fin s.heap _ _ fun _ _ e => e)
  | str z =>
    obtain ⟨t, rfl⟩ := ru
    exact PySem.P.repr_of_str (fin s.heap _ _ fun _ _ e => e) hsz
  | lst _ _ =>
    cases ru
    exact repr_of_reads' rd hs (fun z => absurd z (by rw [hn]; decide)) hgd (by omega) (fun _ _ e => e) (fun h' u tk hk => fin h' tk u hk) hsz
  | tup _ _ =>
    cases ru
    exact repr_of_reads' rd hs (fun z => absurd z (by rw [hn]; decide)) hgd (by omega) (fun _ _ e => e) (fun h' u tk hk => fin h' tk u hk) hsz
end
end GL
set_option Elab.async false
set_option linter.all false
set_option maxRecDepth 100000
set_option maxHeartbeats 4000000
/-! RPO: repr of lists, tuples and dicts that hold own instances, of any depth. -/
namespace RPO
open PySem PySem.Spec PyProof.Rows L2
open Builtin Builtin.List
/-- the guards stand on these alone -/
def Gd (g : List Code) (outs : List Addr) : Prop := ∀ id v rest kw, Code.builtin id ⟨v :: rest, kw⟩ ∈ g → ∃ a ∈ outs, v = .ref a
theorem Gd.nil : Gd [] [] := fun _ _ _ _ h => nomatch h
theorem Gd.cons {g : List Code} {outs : List Addr} {id : String} {a : Addr} {rest : List Value} {kw : List (Str × Value)} (h : Gd g outs) : Gd (.builtin id ⟨.ref a :: rest, kw⟩ :: g) (a :: outs) := by
  intro id' v rest' kw' hm
  rcases List.mem_cons.mp hm with e | hm
  · cases e
    exact ⟨a, List.mem_cons_self, rfl⟩
  · obtain ⟨b, hb, e⟩ := h _ _ _ _ hm
    exact ⟨b, List.mem_cons_of_mem _ hb, e⟩
theorem Gd.clear {g : List Code} {outs : List Addr} {a : Addr} (h : Gd g outs) (n : a ∉ outs) : Clear g a := fun id v rest kw hm e => by
  obtain ⟨b, hb, e2⟩ := h id v rest kw hm
  rw [e] at e2
  cases e2
  exact n hb
/-- all but these are as they were -/
def Ex (outs : List Addr) (H H' : Hp) : Prop := ∀ a o, H a = some o → a ∉ outs → H' a = some o
theorem Ex.refl (outs : List Addr) (H : Hp) : Ex outs H H := fun _ _ h _ => h
theorem Ex.ext {outs : List Addr} {H H1 H2 : Hp} (x : Ex outs H H1) (e : Ext H1 H2) : Ex outs H H2 := fun a o h n => e a o (x a o h n)
theorem Ex.more {outs : List Addr} {H H1 : Hp} {a : Addr} (x : Ex outs H H1) : Ex (a :: outs) H H1 := fun b o h n => x b o h fun z => n (List.mem_cons_of_mem _ z)
section
variable {X : Cx}
/-- what a thing shows as, within containers at outs -/
def RpU (X : Cx) (n : Nat) (outs : List Addr) (H0 : Hp) (v : V) (t : Str) : Prop := ∀ (A : Around) (g : List Code) (pins : List (Addr × Obj)) (s : Shared) (σ : L2.St) (H : Hp) (u : Value) (bs : Nat),
  Ex outs H0 H → Sub X n A → A.guards = some g → Gd g outs → Inv X pins σ H s → RelV v u → bs + t.length ≤ sizeLine →
  wpAny (model X.prog X.w) A (pyReprUnder bs u) (fun r s' => r = t ∧ ∃ H', Inv X pins σ H' s' ∧ Ext H H') X.xe s
theorem RpU.mono {n m : Nat} {outs : List Addr} {H0 : Hp} {v : V} {t : Str} (h : RpU X n outs H0 v t) (nm : n ≤ m) : RpU X m outs H0 v t := fun A g pins s σ H u bs x sb => h A g pins s σ H u bs x (sb.mono nm)
theorem RpU.non {n : Nat} {outs : List Addr} {H0 : Hp} : RpU X n outs H0 .non "None" := fun A g pins s σ H u bs x sb hg gd I r hb => by
  cases r
  exact ReprIs.none bs hb _ _ _ _ fun tk => ⟨rfl, H, I.tok tk, Ext.rfl'⟩
theorem RpU.bl {n : Nat} {outs : List Addr} {H0 : Hp} {b : Bool} : RpU X n outs H0 (.bl b) (if b then "True" else "False") := fun A g pins s σ H u bs x sb hg gd I r hb => by
  cases r
  exact ReprIs.bool b bs hb _ _ _ _ fun tk => ⟨rfl, H, I.tok tk, Ext.rfl'⟩
theorem RpU.int {n : Nat} {outs : List Addr} {H0 : Hp} {i : Int} (h : i.natAbs.log2 < 1920) : RpU X n outs H0 (.int i) (toString i) := fun A g pins s σ H u bs x sb hg gd I r hb => by
  obtain ⟨t, rfl⟩ := r
  exact ReprIs.int t h bs hb _ _ _ _ fun tk => ⟨rfl, H, I.tok tk, Ext.rfl'⟩
theorem RpU.str {n : Nat} {outs : List Addr} {H0 : Hp} {z : Str} : RpU X n outs H0 (.str z) (reprText z) := fun A g pins s σ H u bs x sb hg gd I r hb => by
  obtain ⟨t, rfl⟩ := r
  exact ReprIs.str z t (by omega) bs hb _ _ _ _ fun tk => ⟨rfl, H, I.tok tk, Ext.rfl'⟩
/-- an own instance, by its own __repr__ -/
theorem RpU.own {k n : Nat} {outs : List Addr} {H0 : Hp} {a C dx : Addr} {fs : List (Str × V)} {sp : Sp} {t : Str} (S : OW.Spc X.prog X.w X.K X.mg X.base k C "__repr__" sp) (ha : H0 a = some (.ins C dx fs)) (na : a ∉ outs)
    (hsp : ∀ H, H a = some (.ins C dx fs) → sp [.ref a] H (fun v H' => v = .str t ∧ Ext H H') E0) (kn : k ≤ n) : RpU X n outs H0 (.ref a) t := fun A g pins s σ H u bs x sb hg gd I r hb => by
  obtain ⟨f, fd, ps, h1, h2, F, hbi⟩ := S.ex
  cases (show u = Value.ref a from r)
  have ea := x a _ ha na
  obtain ⟨mA, O, _⟩ := ins_get I.hok ea
  obtain ⟨od, J, _⟩ := O.look
  have KI := I.kIn
  have e0 : Env0 X.prog X.w X.K X.mg X.base A X.stack s H := by
    have z := I.env0
    exact ⟨sb.fr.trans z.frames, z.mod, z.bs, z.bsz, z.funs, z.frf, z.hok, z.bare⟩
  refine wpAny_pyReprUnder_ref (by omega) ?_
  unfold pyReprObjUnder pyReprObjBy
  refine wpAny_bind (wpAny_cRoomFor sb.room.units0 ?_)
  refine wpAny_bind (wpAny_bind (J.type.here ((PySem.W.looks_findIn KI h1).here ?_)))
  show wpAny _ _ (if (some (Value.ref f)).isNone = true then _ else _) _ _ _
  rw [if_neg (by simp)]
  have called : wpAny (model X.prog X.w) A (call (.ref f) [.ref a]) (fun v s' => ∃ tk, v = .str t tk ∧ ∃ H', Inv X pins σ H' s' ∧ Ext H H') X.xe s := by
    refine wpAny_mono (OW.run_at (E' := X.xe) (vs := [.ref a]) F hbi (sb.room.mono kn) I e0 (.cons rfl .nil) (hsp H ea)) (fun w s' z => ?_) fun _ _ x => x
    obtain ⟨z', H', I', rz, z, e⟩ := z
    rw [z] at rz
    obtain ⟨tk, rfl⟩ := rz
    exact ⟨tk, rfl, H', I', e⟩
  refine wpAny_bind (m := callSpecialIfBoundBy? _ (.ref a) (Str.ofString "__repr__")) ?_
  have fin : wpAny (model X.prog X.w) A (callSpecialIfBoundBy? (fun g first => match reprUnder? g, first with | some twin, [self] => call twin [self, rawInt bs] | _, _ => call g (first ++ [])) (.ref a) (Str.ofString "__repr__"))
      (fun r s' => ∃ tk, r = some (.str t tk) ∧ ∃ H', Inv X pins σ H' s' ∧ Ext H H') X.xe s := by
    simp only [callSpecialIfBoundBy?, bindSpecialIfBound?]
    refine wpAny_holding (wpAny_bind (wpAny_bind (wpAny_bind (J.type.here ((PySem.W.looks_findIn KI h1).here ?_)))))
    refine wpAny_bind (wpAny_askSetting (wpAny_ite ?_))
    have ends : wpAny (model X.prog X.w) A (call (.ref f) ([.ref a] ++ []) >>= fun v => pure (some v)) (fun r s' => ∃ tk, r = some (.str t tk) ∧ ∃ H', Inv X pins σ H' s' ∧ Ext H H') X.xe s :=
      wpAny_bind (wpAny_mono called (fun v s' h' => wpAny_pure (by obtain ⟨tk, rfl, h⟩ := h'; exact ⟨tk, rfl, h⟩)) fun _ _ h' => h')
    split
    · exact wpAny_bind ((PySem.W.bind_fn KI _ (beq_iff_eq.mp h2)).here (wpAny_pure (by exact ends)))
    · exact wpAny_tryCatch (wpAny_bind ((PySem.W.bind_fn KI _ (beq_iff_eq.mp h2)).here (wpAny_pure (by exact ends))))
  refine wpAny_mono fin (fun r s' h' => ?_) fun _ _ x => x
  obtain ⟨tk, rfl, h⟩ := h'
  exact wpAny_bind (wpAny_isInstance (T := "str") (b := true) rfl isSubtype_str_str (wpAny_pure ⟨_, _, rfl, rfl, h⟩))
end
end RPO
set_option Elab.async false
set_option linter.all false
set_option maxRecDepth 100000
set_option maxHeartbeats 4000000
/-! RPL: the containers of RPO: lists, tuples, dicts. -/
namespace RPO
open PySem PySem.Spec PyProof.Rows L2
open Builtin Builtin.List
theorem strs_of : ∀ {ts : List Str} {us : List Value}, Vals (ts.map V.str) us → ∃ done : List (Str × Tok), us = strValues done ∧ done.map (·.1) = ts
  | [], _, .nil => ⟨[], rfl, rfl⟩
  | t :: ts, _, .cons r h => by
    obtain ⟨tk, rfl⟩ := r
    obtain ⟨done, rfl, e⟩ := strs_of h
    exact ⟨(t, tk) :: done, rfl, by simp [e]⟩
theorem sub_loop {X : Cx} {n : Nat} {A : Around} {args : Args} (h : Sub X (n + 1) A) : Sub X n (A.under (.builtin "list.__repr__.loop" args)) := by
  have hd : (A.under (.builtin "list.__repr__.loop" args)).depth ≤ A.depth + 1 := by
    first | exact Nat.le_refl _ | simp [Around.under, Code.weight, Code.isCreation, Code.isGuard, Code.isCaller, Code.frames, Code.isFrame, guardIds]
  have hu := units_under_list_loop A args
  have hf : (A.under (.builtin "list.__repr__.loop" args)).frames = A.frames := by
    have e : (Code.builtin "list.__repr__.loop" args).envs = [] := by first | rfl | simp [Code.envs, Code.isFrame]
    have e2 : (A.under (.builtin "list.__repr__.loop" args)).frames = pushEnvs (Code.envs (.builtin "list.__repr__.loop" args)) A.frames := by first | rfl | simp [Around.under]
    rw [e2, e]
    cases A.frames <;> first | rfl | simp [pushEnvs]
  obtain ⟨⟨h1, h2, h3⟩, h4⟩ := h
  exact ⟨⟨h1, by omega, by rw [hu]; omega⟩, hf.trans h4⟩
section
variable {X : Cx} {n : Nat} {outs : List Addr} {H0 : Hp} {a : Addr} {xs : List V} {ts : List Str}
theorem list_loop {A : Around} {g : List Code} {P : Addr} {bs : Nat} {pins : List (Addr × Obj)} {σ : L2.St} {Hb : Hp} {R : Result → Shared → Prop} (sb : Sub X (n + 1) A) (hg : A.guards = some g) (gd : Gd g outs) (ha : Hb a = some (.lst xs)) (hP : Hb P = none) (xe : Ex outs H0 Hb) (hlen : ts.length = xs.length)
    (hT : ∀ (i : Nat) (x : V), xs[i]? = some x → ∃ t, ts[i]? = some t ∧ RpU X n (a :: outs) H0 x t) (hsz : bs + (listText ts).length ≤ sizeLine)
    (hE : ∀ e s', X.xe e s' → R (.error e) s')
    (fin : ∀ (s' : Shared) (H' : Hp) (u : Tok), Inv X pins σ H' s' → Ext Hb H' → R (.ok (.ret (.str (listText ts) u))) s') :
    ∀ (k i : Nat) (s : Shared) (H : Hp), xs.length - i = k → i ≤ xs.length → Inv X pins σ H s → Ext Hb H → H P = some (.lst ((ts.take i).map V.str)) →
      codeAny (model X.prog X.w) A (.builtin "list.__repr__.loop" ⟨[.ref a, rawInt i, .ref P, rawInt ((bs + piled (ts.take i) : Nat) : Int)], []⟩) R s := by
  have hX : (listText ts).length = (textFrom 0 "[" ts).length + 1 := by
    show (textFrom 0 "[" ts ++ "]").length = _
    rw [strLen_append]; rfl
  have hL := textFrom_len ts 0 "["
  have each : ∀ t ∈ ts, t.length ≤ sizeLine := fun t ht => by
    have := hL.2.1 t ht
    omega
  have many : ts.length ≤ sizeLine := by
    have h1 := hL.1
    rw [if_neg (Nat.lt_irrefl 0)] at h1
    omega
  have hp3 := piled_le_listText ts
  have uu : A.in1.units < cLine := by have := sb.room.un; show A.units + 1 < cLine; omega
  intro k
  induction k with
  | zero =>
    intro i s H hk hi I eb hPi
    have hin : i = ts.length := by omega
    obtain ⟨_, its, m, rv, _, e⟩ := I.lstM (eb _ _ ha)
    obtain ⟨_, ups, c, rp, _, ep⟩ := I.lstM hPi
    have nits : its[i]? = none := by
      have := rv.length
      exact List.getElem?_eq_none (by omega)
    refine codeAny_builtin F.entry_list_repr_loop ?_
    show wpAny _ _ («list.__repr__.loop» ⟨[.ref a, .int i 0, .ref P, .int ((bs + piled (ts.take i) : Nat) : Int) 0], []⟩) _ _ s
    rw [repr_loop_tree]
    refine wpAny_bind (wpAny_listItems e rfl ?_)
    have hnone : its.toArray[((i : Int)).toNat]? = none := by simpa using nits
    simp only [hnone]
    unfold reprEnd
    refine wpAny_bind (wpAny_listItems ep rfl ?_)
    obtain ⟨done, rfl, ed⟩ := strs_of rp
    rw [show (strValues done).toArray.toList = strValues done from by simp, repr_fold]
    refine wpAny_bind (wpAny_pure ?_)
    have hall : done.map (·.1) = ts := by rw [ed, hin, List.take_length]
    rw [hall]
    refine wpAny_bind (wpAny_mkStr (wpAny_pure ?_) (by show (listText ts).length ≤ sizeLine; omega))
    exact fin _ H _ (I.tok _) eb
  | succ k ih =>
    intro i s H hk hi I eb hPi
    have hlt : i < xs.length := by omega
    obtain ⟨t, ht, hrep⟩ := hT i xs[i] (List.getElem?_eq_getElem hlt)
    obtain ⟨_, its, m, rv, lv, e⟩ := I.lstM (eb _ _ ha)
    have hlt2 : i < its.length := by omega
    have rvi : RelV xs[i] its[i] := by
      obtain ⟨u, e1, e2⟩ := rv.get (List.getElem?_eq_getElem hlt)
      rw [List.getElem?_eq_getElem hlt2] at e1
      cases e1
      exact e2
    have hp1 := piled_take_succ ht
    have hp2 := piled_take_le ts (i + 1)
    refine codeAny_builtin F.entry_list_repr_loop ?_
    show wpAny _ _ («list.__repr__.loop» ⟨[.ref a, .int i 0, .ref P, .int ((bs + piled (ts.take i) : Nat) : Int) 0], []⟩) _ _ s
    rw [repr_loop_tree]
    refine wpAny_bind (wpAny_listItems e rfl ?_)
    have hsome : its.toArray[((i : Int)).toNat]? = some its[i] := by simp [hlt2]
    simp only [hsome]
    rw [Int.toNat_natCast]
    refine wpAny_bind (wpAny_holding (wpAny_mono (hrep _ _ pins s σ H its[i] (bs + piled (ts.take i) + 1) ((xe.ext eb).more) (sub_loop sb) (guards_under_guard (isGuard_list_loop _) hg) gd.cons I rvi (by omega)) (fun r s2 h2 => ?_) fun e' s' h' => hE e' s' h'))
    obtain ⟨rfl, H2, I2, e2⟩ := h2
    refine wpAny_bind (wpAny_mkStr ?_ (each r (List.mem_of_getElem? ht)))
    have hP2 := e2 _ _ hPi
    obtain ⟨_, ups, c, rp, _, ep⟩ := I2.lstM hP2
    refine wpAny_bind ?_
    show wpAny _ _ (updateSeq P _) _ _ _
    have lp := rp.length
    rw [List.length_map, List.length_take] at lp
    refine wpAny_updateSeq ep rfl (wpAny_pure ⟨F.quiet_list_repr_loop _, ?_⟩) (by rw [List.size_toArray]; omega) (by rw [Array.size_push, List.size_toArray]; omega)
    have e1' : ((i : Int) + 1) = ((i + 1 : Nat) : Int) := by omega
    have e2' : bs + piled (ts.take i) + (r.length + 2) = bs + piled (ts.take (i + 1)) := by omega
    rw [e1', e2']
    have I3 := I2.lset (its' := ups ++ [.str r s2.toks]) (f := fun x => x.push (.str r s2.toks)) (t' := s2.toks + 1) hP2 ep (by simp) (ys := (ts.take (i + 1)).map V.str) (by
      rw [List.take_add_one, ht, List.map_append]
      exact rp.append (.cons ⟨_, rfl⟩ .nil)) (by rw [List.length_map, List.length_take]; omega)
    exact ih (i + 1) _ _ (by omega) hlt I3 (fun b o hb => by
      rw [upd_ne (fun z => by rw [z, hP] at hb; cases hb)]
      exact e2 _ _ (eb _ _ hb)) upd_same
end
end RPO
set_option Elab.async false
set_option linter.all false
set_option maxRecDepth 100000
set_option maxHeartbeats 4000000
namespace RPO
open PySem PySem.Spec PyProof.Rows L2
open Builtin Builtin.List
/-- things one by one -/
inductive RpAll (X : Cx) (n : Nat) (outs : List Addr) (H0 : Hp) : List V → List Str → Prop
  | nil : RpAll X n outs H0 [] []
  | cons {v : V} {t : Str} {vs : List V} {ts : List Str} : RpU X n outs H0 v t → RpAll X n outs H0 vs ts → RpAll X n outs H0 (v :: vs) (t :: ts)
theorem RpAll.len {X : Cx} {n : Nat} {outs : List Addr} {H0 : Hp} : ∀ {vs : List V} {ts : List Str}, RpAll X n outs H0 vs ts → ts.length = vs.length
  | _, _, .nil => rfl
  | _, _, .cons _ h => by rw [List.length_cons, List.length_cons, h.len]
theorem RpAll.get {X : Cx} {n : Nat} {outs : List Addr} {H0 : Hp} : ∀ {vs : List V} {ts : List Str}, RpAll X n outs H0 vs ts → ∀ (i : Nat) (x : V), vs[i]? = some x → ∃ t, ts[i]? = some t ∧ RpU X n outs H0 x t
  | _, _, .nil, _, _, h => by simp at h
  | _, _, .cons r h, 0, _, e => by
    simp at e
    subst e
    exact ⟨_, rfl, r⟩
  | _, _, .cons r h, i + 1, x, e => by
    obtain ⟨t, e1, e2⟩ := h.get i x (by simpa using e)
    exact ⟨t, by simpa using e1, e2⟩
section
variable {X : Cx} {n : Nat} {outs : List Addr} {H0 : Hp} {a : Addr} {xs : List V} {ts : List Str}
/-- what is asked of the end of a text -/
def Told (X : Cx) (pins : List (Addr × Obj)) (σ : L2.St) (H : Hp) (t : Str) (v : Value) (s' : Shared) : Prop := ∃ tk, v = .str t tk ∧ ∃ H', Inv X pins σ H' s' ∧ Ext H H'
theorem list_at {A : Around} {g : List Code} {bs : Nat} {pins : List (Addr × Obj)} {σ : L2.St} {s : Shared} {H : Hp} {Q : Value → Shared → Prop} (sb : Sub X (n + 1) A) (hg : A.guards = some g) (gd : Gd g outs) (I : Inv X pins σ H s) (ha : H a = some (.lst xs)) (na : a ∉ outs) (xe : Ex outs H0 H) (hx : xs ≠ [])
    (hT : RpAll X n (a :: outs) H0 xs ts) (hsz : bs + (listText ts).length ≤ sizeLine) (fin : ∀ v s', Told X pins σ H (listText ts) v s' → Q v s') :
    wpAny (model X.prog X.w) A.in1 (Builtin.listReprAt bs ⟨[.ref a], []⟩) (fun fin s' => match fin with | .done f => callEnd Q X.xe (.ok f) s' | .again c' => c'.quiet = true ∧ codeAny (model X.prog X.w) A c' (callEnd Q X.xe) s') (fun e s' => callEnd Q X.xe (.error e) s') s := by
  obtain ⟨_, its, m, rv, lv, e⟩ := I.lstM ha
  obtain ⟨y, l, rfl⟩ : ∃ y l, its = y :: l := by
    cases its with
    | nil =>
      have : xs.length = 0 := lv
      exact absurd (List.length_eq_zero_iff.mp this) hx
    | cons y l => exact ⟨y, l, rfl⟩
  refine wpAny_list_repr_head (A := A.in1) hg (fun v rest kw hm => listSameRef_of_ne ((gd.clear na) _ _ _ _ hm)) e rfl ?_
  refine wpAny_bind (m := newList []) (wpAny_newObj_type ?_)
  refine wpAny_pure ⟨F.quiet_list_repr_loop _, ?_⟩
  have I1 := I.lnew (its := []) (ys := []) (t' := s.toks) .nil (Nat.zero_le _)
  have hn := I.fresh
  exact list_loop (n := n) (Hb := H) (R := callEnd Q X.xe) sb hg gd ha hn xe hT.len hT.get hsz (fun _ _ h => h) (fun s' H' u I' e' => fin _ _ ⟨u, rfl, H', I', e'⟩) _ 0 _ _ rfl (Nat.zero_le _) I1 (Ext.upd hn) upd_same
theorem RpU.list (ha : H0 a = some (.lst xs)) (na : a ∉ outs) (hx : xs ≠ []) (hT : RpAll X n (a :: outs) H0 xs ts) : RpU X (n + 1) outs H0 (.ref a) (listText ts) := fun A g pins s σ H u bs x sb hg gd I r hb => by
  cases (show u = Value.ref a from r)
  have ea := x a _ ha na
  obtain ⟨_, its, m, rv, lv, e⟩ := I.lstM ea
  refine wpAny_pyReprUnder_ref (by omega) (wpAny_pyReprObjUnder_twin (twin := "list.__repr__.under") ⟨_, e, rfl⟩ F.slot_list_repr.toG rfl sb.room.units0
    (call_twin_plain F.plain_list_repr_under F.entry_list_repr_under F.check_list_repr_under ⟨_, e, rfl⟩ F.slot_list_repr.toG (F.args_list_repr_1 _) (list_at sb hg gd I ea na x hx hT hb fun v s' h => ?_)))
  obtain ⟨tk, rfl, h⟩ := h
  exact ⟨⟨_, _, rfl⟩, _, _, rfl, rfl, h⟩
theorem RpU.list0 (ha : H0 a = some (.lst [])) (na : a ∉ outs) : RpU X n outs H0 (.ref a) "[]" := fun A g pins s σ H u bs x sb hg gd I r hb => by
  cases (show u = Value.ref a from r)
  have ea := x a _ ha na
  obtain ⟨_, its, m, rv, lv, e⟩ := I.lstM ea
  obtain rfl : its = [] := List.length_eq_zero_iff.mp lv.symm
  exact wpAny_pyReprUnder_ref (by omega) (wpAny_pyReprObjUnder_list_empty ⟨_, e, rfl⟩ sb.room.units0 e rfl ⟨_, _, rfl, rfl, H, I.tok _, Ext.rfl'⟩)
theorem tup_fold {A : Around} {g : List Code} {pins : List (Addr × Obj)} {σ : L2.St} {Hb : Hp} {Q : (Array Str × Nat) → Shared → Prop} (sb : Sub X n A) (hg : A.guards = some g) (gd : Gd g (a :: outs)) (xe : Ex outs H0 Hb) :
    ∀ {vs : List V} {ts : List Str}, RpAll X n (a :: outs) H0 vs ts → ∀ (us : List Value) (acc : Array Str) (m : Nat) (s : Shared) (H : Hp), Vals vs us → m + piled ts ≤ sizeLine → Inv X pins σ H s → Ext Hb H →
      (∀ s' H', Inv X pins σ H' s' → Ext Hb H' → Q ⟨acc ++ ts.toArray, m + piled ts⟩ s') → wpAny (model X.prog X.w) A (forIn us (⟨acc, m⟩ : (Array Str × Nat)) tupBody) Q X.xe s := by
  intro vs ts h
  induction h with
  | nil =>
    intro us acc m s H rv hm I eb fin
    cases rv
    have h0 := fin s H I eb
    simp only [List.forIn_nil]
    exact wpAny_pure (by simpa [piled] using h0)
  | @cons v t vs ts hr hl ih =>
    intro us acc m s H rv hm I eb fin
    cases rv with
    | @cons _ u _ us r rv =>
      rw [piled_cons] at hm
      rw [List.forIn_cons]
      refine wpAny_bind (wpAny_bind (wpAny_mono (hr A g pins s σ H u (m + 1) (xe.ext eb).more sb hg gd I r (by omega)) (fun r' s2 h2 => ?_) fun _ _ x => x))
      obtain ⟨rfl, H2, I2, e2⟩ := h2
      refine wpAny_pure ?_
      refine ih us (acc.push r') (m + (r'.length + 2)) s2 H2 rv (by omega) I2 (eb.trans e2) fun s' H' I' e' => ?_
      have h1 := fin s' H' I' e'
      have e : m + piled (r' :: ts) = m + (r'.length + 2) + piled ts := by rw [piled_cons]; omega
      rw [e] at h1
      simpa using h1
theorem tup_at {A : Around} {g : List Code} {bs : Nat} {pins : List (Addr × Obj)} {σ : L2.St} {s : Shared} {H : Hp} {Q : Value → Shared → Prop} {id : String} {rest : List Value} (hcg : (Code.builtin id ⟨.ref a :: rest, []⟩).isGuard = true) (sb : Sub X n (A.under (.builtin id ⟨.ref a :: rest, []⟩)))
    (hg : A.guards = some g) (gd : Gd g outs) (I : Inv X pins σ H s) (ha : H a = some (.tup xs)) (na : a ∉ outs) (xe : Ex outs H0 H) (hT : RpAll X n (a :: outs) H0 xs ts) (hsz : bs + (tupleText ts).length ≤ sizeLine) (fin : ∀ v s', Told X pins σ H (tupleText ts) v s' → Q v s') :
    wpOwn (model X.prog X.w) A (.builtin id ⟨.ref a :: rest, []⟩) (Builtin.tupleReprAt bs ⟨[.ref a], []⟩) (fun fin s' => match fin with | .done f => callEnd Q X.xe (.ok f) s' | .again c' => c'.quiet = true ∧ codeAny (model X.prog X.w) A c' (callEnd Q X.xe) s') (fun e s' => callEnd Q X.xe (.error e) s') s := by
  obtain ⟨its, rv, ⟨o, ho, hc, m, hd⟩, hz⟩ := I.tuple (SqT.of (K := X.K) ha)
  have hca : Clear g a := gd.clear na
  have hlen : ts.length = its.length := hT.len.trans rv.length
  have hp := piled_le_tupleText ts
  have hsz0 : (tupleText ts).length ≤ sizeLine := by omega
  rw [tuple_repr_tree, tupleReprUnderWay_eq]
  refine wpOwn_bind (wpOwn_stackTailAny hg (tupGuardF_off _) (tupGuardF_pos _) ?_)
  have hn : (g.any fun c => tupGuardF (.ref a) (c, default)) = false := by
    rw [List.any_eq_false]
    intro c hcm
    rw [tupGuardF_of_clear hca c hcm]
    exact Bool.false_ne_true
  rw [hn]
  refine wpOwn_of_wpAny ?_
  show wpAny _ _ (tupleReprRest bs (.ref a)) _ _ s
  unfold tupleReprRest Builtin.Tuple.tupleItemsOf
  refine wpAny_bind (wpAny_bind (wpAny_seqItems ho hd (wpAny_pure ?_)))
  rw [← Array.forIn_toList]
  refine wpAny_bind (tup_fold (Hb := H) sb (guards_under_guard hcg hg) gd.cons xe hT _ _ _ s H (by simpa using rv) (by omega) I Ext.rfl' fun s' H' I' e' => ?_)
  refine wpAny_bind (wpAny_mkStr (wpAny_pure ?_) (by simpa [tupleText, hlen] using hsz0))
  have h1 := fin (.str (tupleText ts) s'.toks) { s' with toks := s'.toks + 1 } ⟨_, rfl, H', I'.tok _, e'⟩
  simpa [tupleText, hlen] using h1
theorem sub_code {A : Around} {id : String} {args : Args} (h : Sub X (n + 1) A) (hw : (Code.builtin id args).weight ≤ 1) (he : (Code.builtin id args).envs = []) (hu : (A.under (.builtin id args)).units = A.units + 1) : Sub X n (A.under (.builtin id args)) := by
  have e2 : (A.under (.builtin id args)).frames = pushEnvs (Code.envs (.builtin id args)) A.frames := by first | rfl | simp [Around.under]
  have hf : (A.under (.builtin id args)).frames = A.frames := by
    rw [e2, he]
    cases A.frames <;> first | rfl | simp [pushEnvs]
  have hd : (A.under (.builtin id args)).depth = A.depth + (Code.builtin id args).weight := by first | rfl | simp [Around.under]
  obtain ⟨⟨h1, h2, h3⟩, h4⟩ := h
  exact ⟨⟨h1, by omega, by rw [hu]; omega⟩, hf.trans h4⟩
theorem w_tup {args : Args} : (Code.builtin "tuple.__repr__" args).weight ≤ 1 := by
  first | exact Nat.le_refl _ | simp [Code.weight, Code.isCreation, Code.isGuard, Code.isCaller, Code.frames, Code.isFrame, guardIds]
theorem w_tupU {args : Args} : (Code.builtin "tuple.__repr__.under" args).weight ≤ 1 := by
  first | exact Nat.le_refl _ | simp [Code.weight, Code.isCreation, Code.isGuard, Code.isCaller, Code.frames, Code.isFrame, guardIds]
theorem e_b {id : String} {args : Args} (h : (Code.builtin id args).isFrame = false := by rfl) : (Code.builtin id args).envs = [] := by simp [Code.envs, h]
theorem RpU.tup (ha : H0 a = some (.tup xs)) (na : a ∉ outs) (hT : RpAll X n (a :: outs) H0 xs ts) : RpU X (n + 1) outs H0 (.ref a) (tupleText ts) := fun A g pins s σ H u bs x sb hg gd I r hb => by
  cases (show u = Value.ref a from r)
  have ea := x a _ ha na
  obtain ⟨its, rv, ⟨o, ho, hc, m, hd⟩, hz⟩ := I.tuple (SqT.of (K := X.K) ea)
  refine wpAny_pyReprUnder_ref (by omega) (wpAny_pyReprObjUnder_twin (twin := "tuple.__repr__.under") ⟨o, ho, hc⟩ F.slot_tuple_repr rfl sb.room.units0
    (call_twin_own (F.quiet_tuple_repr_under _) F.entry_tuple_repr_under F.check_tuple_repr_under ⟨o, ho, hc⟩ F.slot_tuple_repr (F.args_tuple_repr_1 _)
      (tup_at (isGuard_tuple_repr_under _) (sub_code sb w_tupU e_b (units_under_tuple_repr_under _ _)) hg gd I ea na x hT hb fun v s' h => ?_)))
  obtain ⟨tk, rfl, h⟩ := h
  exact ⟨⟨_, _, rfl⟩, _, _, rfl, rfl, h⟩
/-- repr of a tuple, where no repr is under way -/
def rReprT (X : Cx) (n : Nat) : List V → Hp → VK → Prop := fun ys H Q => ∃ (a : Addr) (xs : List V) (ts : List Str), ys = [.ref a] ∧ H a = some (.tup xs) ∧ RpAll X n [a] H xs ts ∧ (tupleText ts).length ≤ sizeLine ∧ ∀ H', Ext H H' → Q (.str (tupleText ts)) H'
theorem call_reprT (hgd : X.A.guards = some []) (hr : Room (n + 2) X.A) : CallR X (.builtin "repr") (rReprT X n) := by
  intro pins s σ H ys us Q I r h
  obtain ⟨a, xs, ts, rfl, ea, hT, hb, q⟩ := h
  obtain ⟨u, rfl, ru⟩ := r.one
  cases (show u = Value.ref a from ru)
  obtain ⟨its, rv, ⟨o, ho, hc, m, hd⟩, hz⟩ := I.tuple (SqT.of (K := X.K) ea)
  have sb : Sub X (n + 1) X.A.in1 := ⟨hr.in1, rfl⟩
  refine call_repr_slot (by have := hr.un; omega) ⟨o, ho, hc⟩ F.slot_tuple_repr ?_
  refine wpAny_call (codeAny_call_builtin_own (Code.quiet_builtin _ (by decide +kernel)) F.entry_tuple_repr (F.slot_tuple_repr.check _ _ _ _ _ _ _ _ ⟨o, ho, hc⟩ (F.args_tuple_repr_1 _)
    (tup_at (outs := []) (H0 := H) (bs := 0) (isGuard_tuple_repr _) (sub_code sb w_tup e_b (units_under_tuple_repr _ _)) hgd Gd.nil I ea (by simp) (Ex.refl _ _) hT (by omega) fun v s' h => ?_)))
  obtain ⟨tk, rfl, H', I', e⟩ := h
  exact ⟨_, _, rfl, .str _, H', I', ⟨_, rfl⟩, q H' e⟩
end
end RPO
set_option Elab.async false
set_option linter.all false
set_option maxRecDepth 100000
set_option maxHeartbeats 4000000
namespace RPO
open PySem PySem.Spec PyProof.Rows L2
open Builtin Builtin.List
/-- what the entries of a dict show as -/
inductive RpEnt (X : Cx) (n : Nat) (outs : List Addr) (H0 : Hp) : List (Key × V) → List Str → Prop
  | nil : RpEnt X n outs H0 [] []
  | cons {k : Key} {v : V} {tk tv : Str} {kvs : List (Key × V)} {ps : List Str} : RpU X n outs H0 (kV k) tk → RpU X n outs H0 v tv → RpEnt X n outs H0 kvs ps → RpEnt X n outs H0 ((k, v) :: kvs) ((tk ++ ": " ++ tv) :: ps)
section
variable {X : Cx} {n : Nat} {outs : List Addr} {H0 : Hp} {a : Addr} {kvs : List (Key × V)} {ps : List Str}
theorem RpEnt.len : ∀ {kvs : List (Key × V)} {ps : List Str}, RpEnt X n outs H0 kvs ps → ps.length = kvs.length
  | _, _, .nil => rfl
  | _, _, .cons _ _ h => by rw [List.length_cons, List.length_cons, h.len]
theorem RpEnt.get : ∀ {kvs : List (Key × V)} {ps : List Str}, RpEnt X n outs H0 kvs ps → ∀ (i : Nat) (e : Key × V), kvs[i]? = some e → ∃ tk tv : Str, ps[i]? = some (tk ++ ": " ++ tv) ∧ RpU X n outs H0 (kV e.1) tk ∧ RpU X n outs H0 e.2 tv
  | _, _, .nil, _, _, h => by simp at h
  | _, _, .cons r1 r2 h, 0, _, e => by
    simp at e
    subst e
    exact ⟨_, _, rfl, r1, r2⟩
  | _, _, .cons _ _ h, i + 1, x, e => by
    obtain ⟨t1, t2, e1, e2⟩ := h.get i x (by simpa using e)
    exact ⟨t1, t2, by simpa using e1, e2⟩
theorem pairs_at {P : Program} {w : World} : ∀ {es : List DictEntry} {vs : List (Key × Value)}, Pairs (mixKind P w) es vs → ∀ (i : Nat) (kv : Key × Value), vs[i]? = some kv → ∃ e, es[i]? = some e ∧ (mixKind P w).is kv.1 e.key = true ∧ e.val = kv.2
  | _, _, .nil, _, _, h => by simp at h
  | _, _, .cons h1 h2 h, 0, _, e => by
    simp at e
    subst e
    exact ⟨_, rfl, h1, h2⟩
  | _, _, .cons _ _ h, i + 1, kv, e => by
    obtain ⟨en, e1, e2⟩ := pairs_at h i kv (by simpa using e)
    exact ⟨en, by simpa using e1, e2⟩
theorem key_rel {k : Key} {v : Value} (h : keyIs k v = true) : RelV (kV k) v := by
  rcases keyIs_shape h with ⟨i, t, rfl, rfl⟩ | ⟨x, t, rfl, rfl⟩
  · exact ⟨_, rfl⟩
  · exact ⟨_, rfl⟩
theorem kv_at : ∀ {ks : List (Key × V)} {va : List (Key × Value)}, KV ks va → ∀ (i : Nat) (e : Key × V), ks[i]? = some e → ∃ u : Key × Value, va[i]? = some u ∧ e.1 = u.1 ∧ RelV e.2 u.2
  | _, _, .nil, _, _, h => by simp at h
  | _, _, .cons r h, 0, _, e => by
    simp at e
    subst e
    exact ⟨_, rfl, r.1, r.2⟩
  | _, _, .cons _ h, i + 1, x, e => by
    obtain ⟨u, e1, e2⟩ := kv_at h i x (by simpa using e)
    exact ⟨u, by simpa using e1, e2⟩
/-- the entries of a locked dict -/
theorem entry_of {pins : List (Addr × Obj)} {σ : L2.St} {s : Shared} {H : Hp} {o : Obj} (I : Inv X pins σ H s) (h : H a = some (.frz o (.dK kvs))) {es : Array DictEntry} {ep : Nat} (hd : o.data = .dict es ep) (i : Nat) (hi : i < kvs.length) :
    ∃ e, es[i]? = some e ∧ RelV (kV kvs[i].1) e.key ∧ RelV kvs[i].2 e.val := by
  obtain ⟨_, hg, _, es', ep', vs, hd', hs, kv, o2, es2, g2, x2, d2, k2, p2, _⟩ := I.frzK h
  rw [hg] at g2
  cases g2
  rw [hd] at d2
  cases d2
  obtain ⟨u, e1, e2, e3⟩ := kv_at kv i kvs[i] (List.getElem?_eq_getElem hi)
  obtain ⟨e, f1, f2, f3⟩ := pairs_at p2 i u e1
  refine ⟨e, by simpa using f1, ?_, by rw [f3]; exact e3⟩
  rw [e2]
  exact key_rel f2
theorem dct_at {A : Around} {g : List Code} {bs : Nat} {pins : List (Addr × Obj)} {σ : L2.St} {s : Shared} {H : Hp} {Q : Value → Shared → Prop} {id : String} {rest : List Value} (hcg : (Code.builtin id ⟨.ref a :: rest, []⟩).isGuard = true) (sb : Sub X n (A.under (.builtin id ⟨.ref a :: rest, []⟩)))
    (hg : A.guards = some g) (gd : Gd g outs) (I : Inv X pins σ H s) (ha : H a = some (.dK kvs)) (na : a ∉ outs) (xe : Ex outs H0 H) (hT : RpEnt X n (a :: outs) H0 kvs ps) (hsz : bs + (dictText ps).length ≤ sizeLine) (fin : ∀ v s', Told X pins σ H (dictText ps) v s' → Q v s') :
    wpOwn (model X.prog X.w) A (.builtin id ⟨.ref a :: rest, []⟩) (Builtin.dictReprAt bs ⟨[.ref a], []⟩) (fun fin s' => match fin with | .done f => callEnd Q X.xe (.ok f) s' | .again c' => c'.quiet = true ∧ codeAny (model X.prog X.w) A c' (callEnd Q X.xe) s') (fun e s' => callEnd Q X.xe (.error e) s') s := by
  have mu : Mut (some (HO.dK kvs)) := trivial
  have nf := I.nofrz ha mu
  obtain ⟨o, I1⟩ := I.lock ha mu
  have e1 : (upd H a (.frz o (.dK kvs))) a = some (.frz o (.dK kvs)) := upd_same
  have x1 : Ex (a :: outs) H0 (upd H a (.frz o (.dK kvs))) := fun b u e nb => by
    rw [upd_ne fun z => nb (by rw [z]; exact List.mem_cons_self)]
    exact xe b u e fun z => nb (List.mem_cons_of_mem _ z)
  have back : ∀ {H' : Hp} {s' : Shared}, Inv X pins σ H' s' → Ext (upd H a (.frz o (.dK kvs))) H' → ∃ H2, Inv X pins σ H2 s' ∧ Ext H H2 := fun {H' s'} I' e' => by
    refine ⟨_, I'.unlock (e' _ _ e1) nf, fun b u e => ?_⟩
    by_cases hb : b = a
    · subst hb
      rw [upd_same, ← e, ha]
    · rw [upd_ne hb]
      refine e' _ _ ?_
      rw [upd_ne hb]
      exact e
  generalize upd H a (.frz o (.dK kvs)) = H1 at I1 e1 x1 back
  obtain ⟨hsys, hget, hex, es, ep, vs, hd, hsize, _, _⟩ := I1.frzK e1
  have got : ∀ {H' : Hp} {s' : Shared}, Inv X pins σ H' s' → Ext H1 H' → s'.heap.get? a = some o := fun I' e' => (I'.frzK (e' _ _ e1)).2.1
  have hTy : s.TypeIs (.ref a) "dict" := ⟨o, hget, hex.1⟩
  have hca : Clear g a := gd.clear na
  have hlen : ps.length = es.size := hT.len.trans hsize.symm
  have hp3 := piled_le_dictText ps
  have hsz0 : (dictText ps).length ≤ sizeLine := by omega
  unfold Builtin.dictReprAt
  refine wpOwn_bind (wpOwn_of_wpAny ?_)
  unfold Builtin.Dict.dictSlotNone
  refine wpAny_bind (wpAny_notOrdered_dict hTy ?_)
  show wpAny _ _ (pure (Value.ref a)) _ _ s
  refine wpAny_pure ?_
  rw [dictReprRunning_eq]
  refine wpOwn_bind (wpOwn_stackTailAny hg (dictGuardF_off _) (dictGuardF_pos _) ?_)
  have hn : (g.any fun c => dictGuardF (.ref a) (c, default)) = false := by
    rw [List.any_eq_false]
    intro c hcm
    rw [dictGuardF_of_clear hca c hcm]
    exact Bool.false_ne_true
  rw [hn]
  refine wpOwn_of_wpAny ?_
  have hg' := guards_under_guard hcg hg
  show wpAny _ _ (Builtin.Dict.addrOf (.ref a) >>= _) _ _ s
  refine wpAny_bind (wpAny_pure ?_)
  show wpAny _ _ (Builtin.Dict.showsAll a >>= _) _ _ s
  unfold Builtin.Dict.showsAll
  rw [if_neg (by rw [hsys]; exact Bool.false_ne_true)]
  refine wpAny_bind (wpAny_pure ?_)
  refine wpAny_bind (wpAny_dictEpoch hget hd ?_)
  refine wpAny_bind (wpAny_dictEntries hget hd ?_)
  refine wpAny_bind ?_
  rw [Std.Legacy.Range.forIn_eq_forIn_range']
  simp only [Std.Legacy.Range.size, Nat.sub_zero, Nat.add_sub_cancel, Nat.div_one]
  refine wpAny_forIn_list _
    (fun rest' r s' => ∃ i H', rest' = List.range' i (es.size - i) ∧ i ≤ es.size ∧ r = (⟨(ps.take i).toArray, bs + piled (ps.take i)⟩ : (Array Str × Nat)) ∧ Inv X pins σ H' s' ∧ Ext H1 H')
    _ ?_ ?_ _ _ ⟨0, H1, by simp, Nat.zero_le _, by simp [piled], I1, Ext.rfl'⟩
  · rintro x rest' _ s' ⟨i, H', hr, hi, rfl, I', e'⟩
    have hlt : i < es.size := by
      rcases Nat.lt_or_ge i es.size with h | h
      · exact h
      · rw [Nat.sub_eq_zero_of_le h] at hr; simp at hr
    obtain ⟨rfl, hrest⟩ : x = i ∧ rest' = List.range' (i + 1) (es.size - (i + 1)) := by
      have e : es.size - i = (es.size - (i + 1)) + 1 := by omega
      rw [e, List.range'_succ] at hr
      injection hr with h1 h2
      exact ⟨h1, h2⟩
    have hx2 : x < kvs.length := by omega
    obtain ⟨tk, tv, hp, rk, rv⟩ := hT.get x kvs[x] (List.getElem?_eq_getElem hx2)
    obtain ⟨en, f1, f2, f3⟩ := entry_of I' (e' _ _ e1) hd x hx2
    have hpl : (tk ++ ": " ++ tv).length = tk.length + 2 + tv.length := by
      rw [strLen_append, strLen_append]; rfl
    have hp1 := piled_take_succ hp
    have hp2 := piled_take_le ps (x + 1)
    rw [hpl] at hp1
    refine wpAny_bind (wpAny_dictEntries (got I' e') hd ?_)
    rw [f1]
    refine wpAny_bind (wpAny_holding (wpAny_bind (wpAny_mono (rk _ _ pins s' σ H' en.key (bs + piled (ps.take x) + 1) (x1.ext e') sb hg' gd.cons I' f2 (by omega)) (fun r2 s2 h2 => ?_) fun _ _ z => z)))
    obtain ⟨rfl, H2, I2, e2⟩ := h2
    refine wpAny_bind (wpAny_mono (rv _ _ pins s2 σ H2 en.val (bs + piled (ps.take x) + (r2.length + 3)) (x1.ext (e'.trans e2)) sb hg' gd.cons I2 f3 (by omega)) (fun r3 s3 h3 => ?_) fun _ _ z => z)
    obtain ⟨rfl, H3, I3, e3⟩ := h3
    have e13 := (e'.trans e2).trans e3
    refine wpAny_pure ?_
    refine wpAny_bind (wpAny_dictEpoch (got I3 e13) hd ?_)
    rw [if_neg (by simp)]
    have g1 : (ps.take x).toArray.push (r2 ++ ": " ++ r3) = (ps.take (x + 1)).toArray := by
      rw [List.take_add_one, hp]
      simp
    have g2 : bs + piled (ps.take x) + (r2.length + r3.length + 4) = bs + piled (ps.take (x + 1)) := by omega
    refine wpAny_pure ⟨x + 1, H3, hrest, hlt, ?_, I3, e13⟩
    rw [g1, g2]
  · rintro _ s' ⟨i, H', hr, hi, rfl, I', e'⟩
    have hin : i = es.size := by
      rcases Nat.lt_or_ge i es.size with h | h
      · have e : es.size - i = (es.size - (i + 1)) + 1 := by omega
        rw [e, List.range'_succ] at hr; exact nomatch hr
      · exact Nat.le_antisymm hi h
    rw [hin, ← hlen, List.take_length]
    refine wpAny_bind (wpAny_mkStr (wpAny_pure ?_) (by simpa [dictText] using hsz0))
    have h1 := fin (.str (dictText ps) s'.toks) { s' with toks := s'.toks + 1 } ⟨_, rfl, back (I'.tok _) e'⟩
    simpa [dictText] using h1
theorem w_dct {args : Args} : (Code.builtin "dict.__repr__" args).weight ≤ 1 := by
  first | exact Nat.le_refl _ | simp [Code.weight, Code.isCreation, Code.isGuard, Code.isCaller, Code.frames, Code.isFrame, guardIds]
theorem w_dctU {args : Args} : (Code.builtin "dict.__repr__.under" args).weight ≤ 1 := by
  first | exact Nat.le_refl _ | simp [Code.weight, Code.isCreation, Code.isGuard, Code.isCaller, Code.frames, Code.isFrame, guardIds]
theorem RpU.dct (ha : H0 a = some (.dK kvs)) (na : a ∉ outs) (hT : RpEnt X n (a :: outs) H0 kvs ps) : RpU X (n + 1) outs H0 (.ref a) (dictText ps) := fun A g pins s σ H u bs x sb hg gd I r hb => by
  cases (show u = Value.ref a from r)
  have ea := x a _ ha na
  have mu : Mut (some (HO.dK kvs)) := trivial
  obtain ⟨o, I1⟩ := I.lock ea mu
  obtain ⟨_, hget, hex, _⟩ := I1.frzK (upd_same : (upd H a (.frz o (.dK kvs))) a = _)
  refine wpAny_pyReprUnder_ref (by omega) (wpAny_pyReprObjUnder_twin (twin := "dict.__repr__.under") ⟨o, hget, hex.1⟩ F.slot_dict_repr rfl sb.room.units0
    (call_twin_own (F.quiet_dict_repr_under _) F.entry_dict_repr_under F.check_dict_repr_under ⟨o, hget, hex.1⟩ F.slot_dict_repr (F.args_dict_repr_1 _)
      (dct_at (isGuard_dict_repr_under _) (sub_code sb w_dctU e_b (units_under_dict_repr_under _ _)) hg gd I ea na x hT hb fun v s' h => ?_)))
  obtain ⟨tk, rfl, h⟩ := h
  exact ⟨⟨_, _, rfl⟩, _, _, rfl, rfl, h⟩
/-- repr of a list, of a dict, where no repr is under way -/
def rReprL (X : Cx) (n : Nat) : List V → Hp → VK → Prop := fun ys H Q => ∃ (a : Addr) (xs : List V) (ts : List Str), ys = [.ref a] ∧ H a = some (.lst xs) ∧ xs ≠ [] ∧ RpAll X n [a] H xs ts ∧ (listText ts).length ≤ sizeLine ∧ ∀ H', Ext H H' → Q (.str (listText ts)) H'
theorem call_reprL (hgd : X.A.guards = some []) (hr : Room (n + 2) X.A) : CallR X (.builtin "repr") (rReprL X n) := by
  intro pins s σ H ys us Q I r h
  obtain ⟨a, xs, ts, rfl, ea, hx, hT, hb, q⟩ := h
  obtain ⟨u, rfl, ru⟩ := r.one
  cases (show u = Value.ref a from ru)
  obtain ⟨_, its, m, rv, lv, e⟩ := I.lstM ea
  have sb : Sub X (n + 1) X.A.in1 := ⟨hr.in1, rfl⟩
  refine call_repr_slot (by have := hr.un; omega) ⟨_, e, rfl⟩ F.slot_list_repr.toG ?_
  refine wpAny_call (codeAny_call_builtin F.slot_list_repr.plain F.entry_list_repr (F.slot_list_repr.check _ _ _ _ _ _ _ _ ⟨_, e, rfl⟩ (F.args_list_repr_1 _)
    (list_at (outs := []) (H0 := H) (bs := 0) sb hgd Gd.nil I ea (by simp) (Ex.refl _ _) hx hT (by omega) fun v s' h => ?_)))
  obtain ⟨tk, rfl, H', I', e⟩ := h
  exact ⟨_, _, rfl, .str _, H', I', ⟨_, rfl⟩, q H' e⟩
def rReprDc (X : Cx) (n : Nat) : List V → Hp → VK → Prop := fun ys H Q => ∃ (a : Addr) (kvs : List (Key × V)) (ps : List Str), ys = [.ref a] ∧ H a = some (.dK kvs) ∧ RpEnt X n [a] H kvs ps ∧ (dictText ps).length ≤ sizeLine ∧ ∀ H', Ext H H' → Q (.str (dictText ps)) H'
theorem call_reprDc (hgd : X.A.guards = some []) (hr : Room (n + 2) X.A) : CallR X (.builtin "repr") (rReprDc X n) := by
  intro pins s σ H ys us Q I r h
  obtain ⟨a, kvs, ps, rfl, ea, hT, hb, q⟩ := h
  obtain ⟨u, rfl, ru⟩ := r.one
  cases (show u = Value.ref a from ru)
  have mu : Mut (some (HO.dK kvs)) := trivial
  obtain ⟨o, I1⟩ := I.lock ea mu
  obtain ⟨_, hget, hex, _⟩ := I1.frzK (upd_same : (upd H a (.frz o (.dK kvs))) a = _)
  have sb : Sub X (n + 1) X.A.in1 := ⟨hr.in1, rfl⟩
  refine call_repr_slot (by have := hr.un; omega) ⟨o, hget, hex.1⟩ F.slot_dict_repr ?_
  refine wpAny_call (codeAny_call_builtin_own (Code.quiet_builtin _ (by decide +kernel)) F.entry_dict_repr (F.slot_dict_repr.check _ _ _ _ _ _ _ _ ⟨o, hget, hex.1⟩ (F.args_dict_repr_1 _)
    (dct_at (outs := []) (H0 := H) (bs := 0) (isGuard_dict_repr _) (sub_code sb w_dct e_b (units_under_dict_repr _ _)) hgd Gd.nil I ea (by simp) (Ex.refl _ _) hT (by omega) fun v s' h => ?_)))
  obtain ⟨tk, rfl, H', I', e⟩ := h
  exact ⟨_, _, rfl, .str _, H', I', ⟨_, rfl⟩, q H' e⟩
end
end RPO
set_option Elab.async false
set_option linter.all false
set_option maxRecDepth 100000
set_option maxHeartbeats 4000000
/-! SRI: sorted(d.items()), d a dict of whole numbers by texts. -/
namespace SRI
open PySem PySem.Spec PyProof.Rows L2
open L2.DX (itemsO)
/-- the view of a plain dict's items -/
def rItemsK : V → List V → Hp → VK → Prop := fun x xs H Q => ∃ (a : Addr) (kvs : List (Key × V)), x = .ref a ∧ xs = [] ∧ H a = some (.dK kvs) ∧ ∀ p, H p = none → Q (.ref p) (upd H p (itemsO p a))
theorem mt_itemsK {X : Cx} : MtR X "dict.items" rItemsK := by
  intro pins s σ H x xs v us Q I rx rxs hh
  obtain ⟨a, kvs, rfl, rfl, ha, q⟩ := hh
  cases rx
  cases rxs
  obtain ⟨hlen, hsys, vs, rel, dof⟩ := dk_of I.hok ha
  obtain ⟨ep, ob, es, ho, ex, hdat, _⟩ := dof.dictAt
  refine DT.callItems (es := es) (ep := ep) hsys ⟨ob, ho, ex, hdat⟩ ?_
  have fr : H s.heap.objs.size = none := I.hok.fresh (Nat.le_refl _)
  exact ⟨.ref s.heap.objs.size, upd H s.heap.objs.size (itemsO s.heap.objs.size a), I.laid (t' := s.toks) (fun b u e => Heap.get?_push_of_some _ e) (Nat.le_refl _) (DX.itemsO_ok (Heap.get?_push_size _ rfl)), rfl, q _ fr⟩
/-- a pair as data -/
def enP (g : Str → Int) (x : Str) : PyData := .tuple [.str x, .int (g x)]
/-- the names, sorted by the pairs -/
def srtI (L : List Str) (g : Str → Int) : List Str := L.mergeSort (PySem.W.dataLe false (enP g))
theorem srtI_perm (L : List Str) (g : Str → Int) : (srtI L g).Perm L := List.mergeSort_perm _ _
def rSortItK : List V → Hp → VK → Prop := fun vs H Q => ∃ (p a : Addr) (L : List Str) (g : Str → Int), vs = [.ref p] ∧ H p = some (itemsO p a) ∧ H a = some (.dK (L.map fun x => ((Sum.inr x : Key), V.int (g x)))) ∧
  ∀ (H' : Hp) (l : Addr) (ts : List Addr), (∀ b o, H b = some o → H' b = some o) → H l = none → H' l = some (.lst (ts.map V.ref)) → Paired (fun (t : Addr) (x : Str) => H t = none ∧ H' t = some (.tup [.str x, .int (g x)])) ts (srtI L g) → Q (.ref l) H'
theorem each_of {α β : Type} {R : α → β → Prop} : ∀ {as : List α} {bs : List β}, as.length = bs.length → (∀ (j : Nat) (x : α) (y : β), as[j]? = some x → bs[j]? = some y → R x y) → PySem.W.EachIs R as bs
  | [], [], _, _ => .nil
  | [], _ :: _, h, _ => nomatch h
  | _ :: _, [], h, _ => nomatch h
  | x :: as, y :: bs, h, f => .cons (f 0 x y rfl rfl) (each_of (Nat.succ.inj h) fun j a b e1 e2 => f (j + 1) a b (by simpa using e1) (by simpa using e2))
theorem each_map_eq {β γ : Type} {f : β → γ} : ∀ {us : List γ} {bs : List β}, PySem.W.EachIs (fun v b => v = f b) us bs → us = bs.map f
  | _, _, .nil => rfl
  | _, _, .cons e h => by rw [e, each_map_eq h]; rfl
theorem paired_of {α β : Type} {F : α → β → Prop} : ∀ (zs : List (α × β)), (∀ z ∈ zs, F z.1 z.2) → Paired F (zs.map (·.1)) (zs.map (·.2))
  | [], _ => .nil
  | z :: zs, h => .cons (h z List.mem_cons_self) (paired_of zs fun y hy => h y (List.mem_cons_of_mem _ hy))
theorem vrefs {α : Type} (f : α → Addr) : ∀ zs : List α, Vals (zs.map fun z => V.ref (f z)) (zs.map fun z => Value.ref (f z))
  | [] => .nil
  | _ :: zs => .cons rfl (vrefs f zs)
theorem cr_sortedItK {X : Cx} (hc : X.calm = true) (hu : X.A.units + 64 < cLine) : CallR X (.builtin "sorted") rSortItK := by
  intro pins s σ H xs us Q I r hh
  obtain ⟨p, a, L, g, rfl, hp, ha, q⟩ := hh
  obtain rfl := Vals.ref1 r
  have view := (show ObjOk X.prog X.w H s.heap p (itemsO p a) from I.hok p _ hp).1
  obtain ⟨hz, hsys, vs, rel, dof⟩ := dk_of I.hok ha
  obtain ⟨ep, ob, es, ho, ex, hdat, hko, hpr, hnd⟩ := dof.dictAt
  rw [List.length_map] at hz
  have l1 : L.length = vs.length := by rw [← List.length_map (f := fun x => ((Sum.inr x : Key), V.int (g x))) (as := L)]; exact Paired.length rel
  have l2 : es.size = vs.length := by rw [← Array.length_toList]; exact hpr.length
  refine DT.sortedI (es := es) (ep := ep) (I.ok.hd hc) view ⟨ob, ho, ex, hdat⟩ (by omega) fun h' tk as hk hlt hl hG => ?_
  have la : as.length = L.length := by omega
  have nd : as.Nodup := List.Pairwise.imp (fun {a b} (h : a < b) => Nat.ne_of_lt h) hG.rise
  -- what was made
  have pr : ∀ (j : Nat) (b : Addr) (x : Str), as[j]? = some b → L[j]? = some x → ∃ t1 t2, h'.get? b = some { cls := .type "tuple", data := .seq #[Value.str x t1, Value.int (g x) t2] } := by
    intro j b x hj hx
    obtain ⟨en, he, hg⟩ := hG.pairs j b hj
    obtain ⟨u, e1, e2, e3⟩ := RPO.kv_at rel j _ (by rw [List.getElem?_map, hx]; rfl)
    obtain ⟨en', f1, f2, f3⟩ := RPO.pairs_at hpr j u e1
    rw [← Array.getElem?_toList, f1] at he
    cases he
    have rk := RPO.key_rel f2
    rw [← e2] at rk
    obtain ⟨t1, ek⟩ := rk
    obtain ⟨t2, ev⟩ := e3
    refine ⟨t1, t2, ?_⟩
    rw [hg, ek, f3, ev]
  have hob : (h'.push (seqObj "list" (as.map Value.ref).toArray 0)).get? h'.objs.size = some (seqObj "list" (as.map Value.ref).toArray 0) := Heap.get?_push_size _ rfl
  have ne0 : ∀ b o, h'.get? b = some o → b ≠ h'.objs.size := fun b o e => Nat.ne_of_lt (Heap.lt_size e)
  have kb : ∀ b o, h'.get? b = some o → (h'.push (seqObj "list" (as.map Value.ref).toArray 0)).get? b = some o := fun b o e => Heap.get?_push_of_some _ e
  show wpAny _ _ _ _ _ { s with heap := h'.push (seqObj "list" (as.map Value.ref).toArray 0), toks := tk }
  generalize h'.push (seqObj "list" (as.map Value.ref).toArray 0) = h2 at hob kb ⊢
  have ix : ∀ z ∈ as.zip L, ∃ j : Nat, as[j]? = some z.1 ∧ L[j]? = some z.2 := fun z hz => by
    obtain ⟨j, hj⟩ := List.mem_iff_getElem?.mp hz
    exact ⟨j, List.getElem?_zip_eq_some.mp hj⟩
  have depth : ∀ x : Str, (enP g x).depth = 1 := fun x => by simp [enP, PyData.depth, PyData.depthAll]
  refine PySem.W.list_sort_data (s := { s with heap := h2, toks := tk }) (R := fun v (b : Addr × Str) => v = Value.ref b.1) (enc := fun b : Addr × Str => enP g b.2) (bs := as.zip L) (vs := as.map Value.ref) (n := 0) hob ?_ ?_ ?_ ?_ ?_ ?_ fun out lo eo => ?_
  · refine each_of (by simp [la]) fun j v b e1 e2 => ?_
    obtain ⟨f1, _⟩ := List.getElem?_zip_eq_some.mp e2
    rw [List.getElem?_map, f1] at e1
    exact (Option.some.inj e1).symm
  · refine each_of (by simp [la]) fun j v b e1 e2 => ?_
    obtain ⟨f1, f2⟩ := List.getElem?_zip_eq_some.mp e2
    rw [List.getElem?_map, f1] at e1
    cases (Option.some.inj e1).symm
    obtain ⟨t1, t2, e⟩ := pr j b.1 b.2 f1 f2
    exact ⟨[], .tuple (kb _ _ e) rfl rfl (.cons (.str _ _) (.cons (.int _ _) .nil)), by simp⟩
  · refine PySem.W.AllAlike.of fun b b' => ?_
    simp [enP, PySem.W.alike, PySem.W.alikeAll]
  · exact PySem.W.Sortable.tuples fun b => ⟨_, _, rfl⟩
  · rw [List.length_zip]
    omega
  · intro b _
    show X.A.units + 1 + 1 + (enP g b.2).depth < cLine
    rw [depth]
    omega
  -- behind the sort
  have e1 := each_map_eq eo
  have hzs : ((as.zip L).mergeSort (PySem.W.dataLe false fun b : Addr × Str => enP g b.2)).map (·.2) = srtI L g := by
    have m := List.map_mergeSort (r := PySem.W.dataLe false fun b : Addr × Str => enP g b.2) (s := PySem.W.dataLe false (enP g)) (f := fun z : Addr × Str => z.2) (l := as.zip L) (fun a _ b _ => rfl)
    rw [List.map_snd_zip (by omega)] at m
    exact m
  have pz : ((as.zip L).mergeSort (PySem.W.dataLe false fun b : Addr × Str => enP g b.2)).Perm (as.zip L) := List.mergeSort_perm _ _
  generalize (as.zip L).mergeSort (PySem.W.dataLe false fun b : Addr × Str => enP g b.2) = zs at e1 hzs pz
  have kF : ∀ b o, b ≠ h'.objs.size → h2.get? b = some o → (sortedHeap h2 h'.objs.size (as.map Value.ref) out.toArray).get? b = some o := fun b o hb e => (PyProof.Rows.sortedHeap_old hb (Heap.lt_size e)).trans e
  have kS : ∀ b o, s.heap.get? b = some o → (sortedHeap h2 h'.objs.size (as.map Value.ref) out.toArray).get? b = some o := fun b o e => kF b o (ne0 _ _ (hk b o e)) (kb _ _ (hk b o e))
  obtain ⟨eF, heF⟩ := PyProof.Rows.sortedHeap_at (vs := as.map Value.ref) (out := out.toArray) hob
  have I1 : Inv X pins σ H { s with heap := sortedHeap h2 h'.objs.size (as.map Value.ref) out.toArray, toks := tk } := I.kept (t' := tk) kS
  have n0 : H h'.objs.size = none := I.hok.fresh (Nat.le_of_lt hlt)
  have lz : (zs.map fun z => V.ref z.1).length ≤ sizeLine := by
    have := pz.length_eq
    rw [List.length_zip] at this
    rw [List.length_map]
    omega
  have rv : Vals (zs.map fun z => V.ref z.1) out := by
    rw [e1]
    exact vrefs (·.1) zs
  have I2 : Inv X pins σ (upd H h'.objs.size (.lst (zs.map fun z => V.ref z.1))) { s with heap := sortedHeap h2 h'.objs.size (as.map Value.ref) out.toArray, toks := tk } :=
    I1.take (h' := sortedHeap h2 h'.objs.size (as.map Value.ref) out.toArray) (t' := tk) (fun b ob _ e => e) (I.fpOk (Nat.le_of_lt hlt) n0) ⟨lz, out, eF, rv, heF⟩
  obtain ⟨H2, I3, gr, qt⟩ := DX.takeT (P := fun b ws => ∃ (j : Nat) (x : Str), as[j]? = some b ∧ L[j]? = some x ∧ ws = [.str x, .int (g x)]) I as _ I2 nd fun b hb => by
    obtain ⟨j, hj⟩ := List.mem_iff_getElem?.mp hb
    obtain ⟨x, hx⟩ : ∃ x, L[j]? = some x := ⟨_, List.getElem?_eq_getElem (by rw [← la]; exact (List.getElem?_eq_some_iff.mp hj).1)⟩
    obtain ⟨t1, t2, hg⟩ := pr j b x hj hx
    have hbl : s.heap.objs.size ≤ b := Nat.le_of_lt (hG.above b hb)
    refine ⟨hbl, ?_, [.str x, .int (g x)], ⟨j, x, hj, hx, rfl⟩, fun H3 => ⟨(by rw [sizeLine_eq]; show 2 ≤ 16777216; omega), [Value.str x t1, Value.int (g x) t2], .cons ⟨_, rfl⟩ (.cons ⟨_, rfl⟩ .nil), ⟨_, kF _ _ (ne0 _ _ hg) (kb _ _ hg), rfl, 0, rfl⟩⟩⟩
    rw [upd_ne (ne0 _ _ hg)]
    exact I.hok.fresh hbl
  have grH : ∀ b o, H b = some o → H2 b = some o := fun b o e => gr b o (by rw [upd_ne (ne_of_none e n0)]; exact e)
  refine ⟨.ref h'.objs.size, H2, I3, rfl, q H2 h'.objs.size (zs.map (·.1)) grH n0 (by rw [List.map_map]; exact gr _ _ upd_same) ?_⟩
  rw [← hzs]
  refine paired_of zs fun z hz => ?_
  obtain ⟨i, i1, i2⟩ := ix z (pz.mem_iff.mp hz)
  obtain ⟨ws, ⟨j, x, j1, j2, ev⟩, hH⟩ := qt z.1 (List.mem_of_getElem? i1)
  have eij : i = j := (List.getElem?_inj (List.getElem?_eq_some_iff.mp i1).1 nd).mp (i1.trans j1.symm)
  subst eij
  have ee : x = z.2 := Option.some.inj (j2.symm.trans i2)
  rw [ev, ee] at hH
  exact ⟨I.hok.fresh (Nat.le_of_lt (hG.above z.1 (List.mem_of_getElem? i1))), hH⟩
end SRI
set_option Elab.async false
set_option linter.all false
set_option maxRecDepth 100000
set_option maxHeartbeats 4000000
/-! data: texts, pairs -/
namespace DQ
open PySem PySem.Spec PyProof.Rows L2
def pD (q : Int × Int) : PyData := .tuple [.int q.1, .int q.2]
theorem all_strs : ∀ xs : List Str, (∀ x ∈ xs, PyData.strOk x = true) → PyData.canLayAll0 (xs.map PyData.str) = true ∧ PyData.depthAll (xs.map PyData.str) = 0
  | [], _ => ⟨rfl, rfl⟩
  | x :: r, h => by
    obtain ⟨h1, h2⟩ := all_strs r fun y hy => h y (List.mem_cons_of_mem _ hy)
    have h3 := h x List.mem_cons_self
    exact ⟨by simp [PyData.canLayAll0, PyData.canLay0, h1, h3], by simp [PyData.depthAll, PyData.depth, h2]⟩
theorem sh_strs {xs : List Str} (h : ∀ x ∈ xs, PyData.strOk x = true) : SeqAt.shaped (.list (xs.map PyData.str)) = true := by
  obtain ⟨h1, h2⟩ := all_strs xs h
  simp [SeqAt.shaped, PyData.canLay0, PyData.depth, h1, h2]
theorem all_pairs : ∀ qs : List (Int × Int), PyData.canLayAll0 (qs.map pD) = true ∧ PyData.depthAll (qs.map pD) ≤ 2
  | [] => ⟨rfl, by decide⟩
  | _ :: r => by
    obtain ⟨h1, h2⟩ := all_pairs r
    refine ⟨by simp [PyData.canLayAll0, PyData.canLay0, pD, h1], ?_⟩
    show max (PyData.depth (pD _)) (PyData.depthAll (r.map pD)) ≤ 2
    have h3 : ∀ q, PyData.depth (pD q) ≤ 2 := fun q => by show 1 ≤ 2; decide
    exact Nat.max_le.mpr ⟨h3 _, h2⟩
theorem sh_pair (q : Int × Int) : SeqAt.shaped (pD q) = true := rfl
theorem sh_pairs (qs : List (Int × Int)) : SeqAt.shaped (.list (qs.map pD)) = true := by
  obtain ⟨h1, h2⟩ := all_pairs qs
  have h3 : PyData.depthAll (qs.map pD) + 1 ≤ 64 := by omega
  simp [SeqAt.shaped, PyData.canLay0, PyData.depth, h1]
  omega
theorem eq_strs (xs : List Str) : PyData.eqv (.list (xs.map PyData.str)) (.list (xs.map PyData.str)) = true := by
  refine PySem.W.eqv_refl_alike _ ?_
  induction xs with
  | nil => rfl
  | cons x xs ih => simpa [PySem.W.alike, PySem.W.alikeAll] using ih
theorem eq_pair (q : Int × Int) : PyData.eqv (pD q) (pD q) = true := PySem.W.eqv_refl_alike _ rfl
theorem eq_pairs (qs : List (Int × Int)) : PyData.eqv (.list (qs.map pD)) (.list (qs.map pD)) = true := by
  refine PySem.W.eqv_refl_alike _ ?_
  induction qs with
  | nil => rfl
  | cons x xs ih => simpa [PySem.W.alike, PySem.W.alikeAll, pD] using ih
theorem dp_strs {K : PySem.W.Frag} {H : Hp} : ∀ xs : List Str, DpAll K H (xs.map V.str) (xs.map PyData.str)
  | [] => .nil
  | x :: xs => .cons (.str x) (dp_strs xs)
theorem dp_pair {K : PySem.W.Frag} {H : Hp} {t : Addr} {q : Int × Int} (h : H t = some (.tup [.int q.1, .int q.2])) : Dp K H (.ref t) (pD q) := .tup (SqT.of h) (.cons (.int _) (.cons (.int _) .nil))
theorem dp_pairs {K : PySem.W.Frag} {H : Hp} : ∀ L : List (Addr × (Int × Int)), (∀ p ∈ L, H p.1 = some (.tup [.int p.2.1, .int p.2.2])) → DpAll K H (L.map fun p => V.ref p.1) ((L.map (·.2)).map pD)
  | [], _ => .nil
  | p :: L, h => .cons (dp_pair (h p List.mem_cons_self)) (dp_pairs L fun q hq => h q (List.mem_cons_of_mem _ hq))
/-- a dict by names -/
theorem val_map (f : Str → V) {y : Str} : ∀ {l : List Str}, y ∈ l → valV (l.map fun x => ((Sum.inr x : Key), f x)) (Sum.inr y) = some (f y)
  | x :: l, h => by
    rw [List.map_cons]
    by_cases e : x = y
    · rw [valV_pos (by rw [e])]
      rw [e]
    · rw [valV_neg (fun z => e (Sum.inr.inj z))]
      exact val_map f ((List.mem_cons.mp h).resolve_left fun z => e z.symm)
theorem val_none (f : Str → V) {y : Str} : ∀ {l : List Str}, y ∉ l → valV (l.map fun x => ((Sum.inr x : Key), f x)) (Sum.inr y) = none
  | [], _ => rfl
  | x :: l, h => by
    rw [List.map_cons, valV_neg (fun z => h (by rw [Sum.inr.inj z]; exact List.mem_cons_self))]
    exact val_none f fun z => h (List.mem_cons_of_mem _ z)
theorem put_new (f : Str → V) {y : Str} {l : List Str} (h : y ∉ l) : putK (l.map fun x => ((Sum.inr x : Key), f x)) (Sum.inr y) (f y) = (l ++ [y]).map fun x => ((Sum.inr x : Key), f x) := by
  rw [putK_new _ (val_none f h), List.map_append]
  rfl
theorem put_old (f : Str → V) {y : Str} {v : V} {l : List Str} (h : y ∈ l) : putK (l.map fun x => ((Sum.inr x : Key), f x)) (Sum.inr y) v = l.map fun x => ((Sum.inr x : Key), if x = y then v else f x) := by
  have a : ((l.map fun x => ((Sum.inr x : Key), f x)).any fun kv => decide (kv.1 = Sum.inr y)) = true := by
    rw [List.any_eq_true]
    exact ⟨(Sum.inr y, f y), List.mem_map.mpr ⟨y, h, rfl⟩, by simp⟩
  unfold putK
  rw [if_pos a, List.map_map]
  refine List.map_congr_left fun x _ => ?_
  show (if (Sum.inr x : Key) = Sum.inr y then ((Sum.inr x : Key), v) else (Sum.inr x, f x)) = _
  by_cases e : x = y
  · rw [if_pos (by rw [e]), if_pos e]
  · rw [if_neg (fun z => e (Sum.inr.inj z)), if_neg e]
theorem merge_map (f : Str → V) : ∀ {l m : List Str}, (m ++ l).Nodup → mergeK (m.map fun x => ((Sum.inr x : Key), f x)) (l.map fun x => ((Sum.inr x : Key), f x)) = (m ++ l).map fun x => ((Sum.inr x : Key), f x)
  | [], m, _ => by rw [List.append_nil]; rfl
  | y :: l, m, h => by
    have h' : (m ++ [y] ++ l).Nodup := by rw [List.append_assoc]; exact h
    have ny : y ∉ m := fun z => by
      have := (List.nodup_append.mp h).2.2 y z y List.mem_cons_self
      exact this rfl
    show mergeK (putK _ (Sum.inr y) (f y)) (l.map fun x => ((Sum.inr x : Key), f x)) = _
    rw [put_new f ny, merge_map f h', List.append_assoc]
    rfl
end DQ
set_option Elab.async false
set_option linter.all false
set_option maxRecDepth 100000
set_option maxHeartbeats 4000000
namespace K20
open PySem PySem.Spec PyProof.Rows L2
open C8 (Cal Mak Met pe_c pe_mk pe_mt pe_mt0)
open SX (S)
/-- what more of the module's names are -/
structure B2 (mg : Str → Option Value) : Prop where
  sum : mg "sum" = none
  srt : mg "sorted" = none
  tup : mg "tuple" = none
  rep : mg "repr" = none
/-- a name -/
def Nm (x : Str) : Prop := ∃ z : List Nat, NM.ok z ∧ x = S z
/-- a dict of whole numbers by texts -/
abbrev idK (L : List Str) (g : Str → Int) : List (Key × V) := L.map fun x => ((Sum.inr x : Key), V.int (g x))
/-- how many seats -/
def rm (L : List Str) (g : Str → Int) (x : Str) : Int := if x ∈ L then g x else 0
theorem id_get {H : Hp} {d : Addr} {L : List Str} {g : Str → Int} (e : H d = some (.dK (idK L g))) {x : Str} (h : x ∈ L) : DGet H d (.str x) (some (.int (g x))) :=
  (DQ.val_map (fun y => V.int (g y)) h) ▸ DGet.k (k := Sum.inr x) e
theorem id_rm {H : Hp} {d : Addr} {L : List Str} {g : Str → Int} (e : H d = some (.dK (idK L g))) (x : Str) : ∃ o, DGet H d (.str x) o ∧ o.getD (.int 0) = .int (rm L g x) := by
  unfold rm
  by_cases h : x ∈ L
  · exact ⟨_, id_get e h, by rw [if_pos h]; rfl⟩
  · refine ⟨none, (DQ.val_none (fun y => V.int (g y)) h) ▸ DGet.k (k := Sum.inr x) e, ?_⟩
    rw [if_neg h]
    rfl
def addI (L : List Str) (x : Str) : List Str := if x ∈ L then L else L ++ [x]
def setI (g : Str → Int) (x : Str) (v : Int) : Str → Int := fun y => if y = x then v else g y
theorem id_put {L : List Str} {g : Str → Int} {x : Str} {v : Int} : putK (idK L g) (Sum.inr x) (.int v) = idK (addI L x) (setI g x v) := by
  unfold addI setI idK
  split
  · rename_i h
    rw [DQ.put_old (fun y => V.int (g y)) h]
    exact List.map_congr_left fun y _ => by by_cases e : y = x <;> simp [e]
  · rename_i h
    have e1 : (L.map fun y => ((Sum.inr y : Key), V.int (g y))) = L.map fun y => ((Sum.inr y : Key), V.int (if y = x then v else g y)) := List.map_congr_left fun y hy => by rw [if_neg (show ¬ y = x from fun e => h (e ▸ hy))]
    rw [e1]
    have e2 := DQ.put_new (fun y => V.int (if y = x then v else g y)) h
    rw [if_pos rfl] at e2
    exact e2
theorem addI_sub {L : List Str} {x y : Str} (h : y ∈ addI L x) : y ∈ L ∨ y = x := by
  unfold addI at h
  split at h
  · exact .inl h
  · rcases List.mem_append.mp h with z | z
    · exact .inl z
    · exact .inr (List.mem_singleton.mp z)
theorem addI_len (L : List Str) (x : Str) : (addI L x).length ≤ L.length + 1 := by
  unfold addI
  split
  · omega
  · rw [List.length_append]
    exact Nat.le_refl _
/-- riders F, the dict's names L, their seats g -/
structure Fk (F L : List Str) (g : Str → Int) : Prop where
  fl : F.length ≤ 12
  nd : F.Nodup
  fn : ∀ x ∈ F, Nm x
  ll : L.length ≤ 40
  ln : ∀ x ∈ L, Nm x
  gv : ∀ x ∈ L, 0 ≤ g x ∧ g x ≤ 9
theorem Fk.rm0 {F L : List Str} {g : Str → Int} (k : Fk F L g) (x : Str) : 0 ≤ rm L g x ∧ rm L g x ≤ 9 := by
  unfold rm
  split
  · rename_i h
    exact k.gv x h
  · omega
theorem in_strs (x : Str) : ∀ R : List Str, inV (.str x) (R.map V.str) = decide (x ∈ R)
  | [] => by simp [inV]
  | y :: R => by
    have ih := in_strs x R
    unfold inV at ih ⊢
    rw [List.map_cons, List.any_cons, ih]
    by_cases e : x = y
    · subst e
      simp [eqV]
    · have e2 : ¬ y = x := fun z => e z.symm
      simp [eqV, e, e2]
theorem flat_strs (R : List Str) : (R.map V.str).all flatV = true := by
  rw [List.all_eq_true]
  intro v hv
  obtain ⟨x, _, rfl⟩ := List.mem_map.mp hv
  rfl
/-! ### sorted texts -/
/-- sorted -/
noncomputable def sortS (xs : List Str) : List Str := Classical.choose (SRT.srtS xs)
theorem sortS_at (xs : List Str) : SRT.srt (xs.map V.str) (xs.map PyData.str) = (sortS xs).map V.str ∧ (sortS xs).Perm xs ∧ (sortS xs).Pairwise SRT.leS := Classical.choose_spec (SRT.srtS xs)
def rSortS (K : PySem.W.Frag) : List V → Hp → VK → Prop := fun vs H Q => ∃ (a : Addr) (xs : List Str), vs = [V.ref a] ∧ (SqL K H a (xs.map V.str) ∨ SqT K H a (xs.map V.str)) ∧ ∀ p : Addr, H p = none → Q (.ref p) (upd H p (.lst ((sortS xs).map V.str)))
theorem cr_sortS {X : Cx} (hu : X.A.units + 64 < cLine) : CallR X (.builtin "sorted") (rSortS X.K) := by
  intro pins s σ H vs us Q I r hh
  obtain ⟨a, xs, rfl, hs, q⟩ := hh
  refine SRT.cr_sortedD hu pins s σ H _ us Q I r ⟨a, _, xs.map PyData.str, rfl, hs, SRT.dpS xs, fun d h1 d' h2 => ?_, .inr fun d h1 => ?_, fun d h1 => ?_, fun p fp => ?_⟩
  · obtain ⟨x, _, rfl⟩ := List.mem_map.mp h1
    obtain ⟨y, _, rfl⟩ := List.mem_map.mp h2
    rfl
  · obtain ⟨x, _, rfl⟩ := List.mem_map.mp h1
    exact ⟨(nomatch ·), fun l => (nomatch ·)⟩
  · obtain ⟨x, _, rfl⟩ := List.mem_map.mp h1
    exact Nat.zero_le _
  · rw [(sortS_at xs).1]
    exact q p fp
/-! ### cuts -/
theorem cut_take {α : Type} (h : α → V) {F : List α} {i : Int} (i0 : 0 ≤ i) : cutV (F.map h) none (some i) = (F.take i.toNat).map h := by
  obtain ⟨n, rfl⟩ := Int.eq_ofNat_of_zero_le i0
  unfold cutV
  rw [HT.sIx_none, HT.sIx_nat, List.drop_zero, Nat.sub_zero, List.length_map, Int.toNat_natCast]
  rcases Nat.le_total n F.length with q | q
  · rw [Nat.min_eq_left q, List.map_take]
  · rw [Nat.min_eq_right q, List.take_of_length_le (by simp), List.take_of_length_le q]
theorem cut_drop {α : Type} (h : α → V) {F : List α} {i : Int} (i0 : 0 ≤ i) : cutV (F.map h) (some i) none = (F.drop i.toNat).map h := by
  obtain ⟨n, rfl⟩ := Int.eq_ofNat_of_zero_le i0
  unfold cutV
  rw [HT.sIx_nat, HT.sIx_none, List.length_map, Int.toNat_natCast, List.take_of_length_le (by simp)]
  rcases Nat.le_total n F.length with q | q
  · rw [Nat.min_eq_left q, List.map_drop]
  · rw [Nat.min_eq_right q, List.drop_of_length_le (by simp), List.drop_of_length_le q]
    rfl
end K20
set_option Elab.async false
set_option linter.all false
set_option maxRecDepth 100000
set_option maxHeartbeats 4000000
namespace K20
open PySem PySem.Spec PyProof.Rows L2
open C8 (Cal Mak Met pe_c pe_mk pe_mt pe_mt0)
abbrev ieT : List Value := [.type "IndexError", .type "LookupError", .type "Exception", .type "BaseException", .type "object"]
/-- what is known of NoSeats -/
structure KnS (K : PySem.W.Frag) (mg : Str → Option Value) (N fN : Addr) : Prop where
  gx : GX.Gx K N ieT "IndexError.__new__"
  iC : PySem.W.findIn K (.ref N) "__init__" = some (some (.ref fN))
  tI : PySem.W.typeIn K (.ref fN) = some (.type "function")
  vV : PySem.W.findCls K (.type "IndexError") (.type "type") "__init__" = some (.val (.builtin "IndexError.__init__"))
  no : PySem.W.findIn K (.ref N) "lack" = some none
  g : mg "NoSeats" = some (.ref N)
  zb : mg "IndexError" = none
theorem typIe : typeOf (.type "IndexError") = pure (.type "type") := by kernel_rfl
section
variable {P : Program} {w : World} {K : PySem.W.Frag} {mg : Str → Option Value} {base : Heap} {f N fN : Addr} {fd fdN : FuncData}
def spNs (N : Addr) : Sp := fun vs H Q _ => ∃ (a : Addr) (v : V), vs = [.ref a, v] ∧ H a = some (exo a N none) ∧ ∀ dx, H dx = none → dx ≠ a → Q .non (upd (upd H dx (exd dx [("lack", v)])) a (exo a N (some dx)))
theorem ok_Ns (F : Dn K d_NoSeats_init f fd) (T : KnS K mg N fN) : FnOk P w K mg base CX0 1 f fd ["self", "lack"] (spNs N) := by
  refine F.ok sc_NoSeats_init (fun vs H Q E h => ?_) (fun cdv A outer s H vs Q E hr h => ?_)
  · obtain ⟨a, v, rfl, _⟩ := h
    rfl
  · obtain ⟨a, v, rfl, ha, hQ⟩ := h
    refine ⟨_, PSs.nox (pss_cons (ps_expr (GX.pe_bi PySem.F.excBase_IndexError rfl T.zb PyProof.Rows.Boot.«IndexError» typIe T.vV (by decide +kernel) (by decide +kernel) (pa_cons (pv 0) (pa_cons pe_str pa_nil))))
      (pss_one (GX.ps_pf PySem.F.store_IndexError (nid := "IndexError.__new__") (pv 0) (pv 1)))), ?_⟩
    refine ⟨_, rfl, a, N, _, rfl, by show 1 ≤ 1000; decide, T.gx, ha, ?_⟩
    exact ⟨_, rfl, _, rfl, a, N, rfl, T.gx, T.no, ha, hQ⟩
theorem raiseS {H : Hp} {E : XK} {v : V} (hE : ∀ d H', Same H H' → H d = none → H' d = some (.xd [("lack", v)]) → E (.ref N) (some d) H') {H1 : Hp} (s1 : Same H H1) {a d : Addr} (ha : H1 a = none) (hd : (upd H1 a (exo a N none)) d = none) (ne : d ≠ a) :
    E (.ref N) (some d) (upd (del (upd (upd (upd H1 a (exo a N none)) d (exd d [("lack", v)])) a (exo a N (some d))) a) d (.xd [("lack", v)])) := by
  rw [upd_ne ne] at hd
  refine hE d _ (fun b o e => ?_) (s1.free hd) upd_same
  have e1 := s1 b o e
  have b1 : b ≠ d := ne_of_none e1 hd
  have b2 : b ≠ a := ne_of_none e1 ha
  rw [upd_ne b1, del_ne b2, upd_ne b2, upd_ne b1, upd_ne b2]
  exact e1
/-- seats_of -/
def spSo : Sp := fun vs H Q _ => ∃ (a d : Addr) (D L : List Str) (g : Str → Int), vs = [.ref a, .ref d] ∧ H a = some (.lst (D.map V.str)) ∧ H d = some (.dK (idK L g)) ∧ D.length ≤ 60 ∧
  ∀ (o : Addr) (H' : Hp), Same H H' → H o = none → H' o = some (.lst ((D.map fun x => rm L g x).map V.int)) → Q (.ref o) H'
theorem ok_so (F : Dn K d_seats_of f fd) : FnOk P w K mg base CX0 1 f fd ["names", "seats"] spSo := by
  refine F.ok sc_seats_of (fun vs H Q E h => ?_) (fun cdv A outer s H vs Q E hr h => ?_)
  · obtain ⟨a, d, D, L, g, rfl, _⟩ := h
    rfl
  · obtain ⟨a, d, D, L, g, rfl, ha, hd, ld, hQ⟩ := h
    have hu := hu_of hr
    refine ⟨_, PSs.nox (pss_one (ps_ret (pe_lc (own := [("name", 2)]) (g := gName 2) (tt := tYes) rfl sc_seats_of.nd (pi_list (pv 0)) (blkOk_by (N := N_seats_of) (sc := defScope s_seats_of) (by decide +kernel))
      (fun _ _ _ _ _ => pg_name (i := 2) sc_seats_of.nd rfl (Or.inl rfl)) (fun _ _ _ _ _ => pts_nil) (fun _ _ _ _ _ => pe_dget2 hu (pv 1) (pv 2) pe_int ⟨rfl, rfl, rfl, rfl⟩)))), ?_⟩
    refine ⟨_, rfl, a, rfl, ⟨_, SqL.of ha⟩, fun o fo => lc_list (K := K) (xs := D.map V.str) (fun i H' => Same H H' ∧ H' o = some (.lst (((D.take i).map fun x => rm L g x).map V.int))) ⟨same_new fo, upd_same⟩ (fun i H' _ q => SqL.of (q.1 _ _ ha)) ?_ ?_⟩
    · rintro i v H' hv ⟨s1, ho⟩
      obtain ⟨x, hx, rfl⟩ : ∃ x, D[i]? = some x ∧ v = .str x := by
        rw [List.getElem?_map] at hv
        obtain ⟨x, hx, e⟩ := Option.map_eq_some_iff.mp hv
        exact ⟨x, hx, e.symm⟩
      have il : i < D.length := (List.getElem?_eq_some_iff.mp hx).1
      obtain ⟨ov, h1, h2⟩ := id_rm (s1 _ _ hd) x
      refine ⟨rfl, ?_⟩
      refine ⟨_, rfl, d, rfl, .inl ⟨_, .inl (s1 _ _ hd)⟩, _, rfl, ov, h1, ?_⟩
      rw [h2]
      refine ⟨_, ho, ?_, fun b u e => ?_, ?_⟩
      · rw [List.length_map, List.length_map, List.length_take]
        exact Nat.lt_of_lt_of_le (by omega : min i D.length < 64) (by decide)
      · rw [upd_ne (ne_of_none e fo)]
        exact s1 _ _ e
      · rw [upd_same, List.take_succ, hx]
        simp
    · rintro H' ⟨s1, ho⟩
      rw [List.length_map, List.take_of_length_le (Nat.le_refl _)] at ho
      exact hQ o H' s1 fo ho
end
end K20
set_option Elab.async false
set_option linter.all false
set_option maxRecDepth 100000
set_option maxHeartbeats 4000000
namespace K20
open PySem PySem.Spec PyProof.Rows L2
open C8 (Cal Mak Met pe_c pe_mk pe_mt pe_mt0)
open SX (S)
theorem pen_some {p : Addr} {H : Hp} {c : Nat} (pen : Pen H p c) : H p ≠ none := by
  obtain ⟨l, ns, n, m, h1, _⟩ := pen
  intro z
  rw [z] at h1
  cases h1
theorem pick4 {H : Hp} {a b c d : Int} {n : Nat} (hn : n < 4) : ([V.int a, V.int b, V.int c, V.int d] : List V)[n]? = some (V.int ([a, b, c, d].getD n 0)) := by
  match n, hn with
  | 0, _ => rfl
  | 1, _ => rfl
  | 2, _ => rfl
  | 3, _ => rfl
section
variable {P : Program} {w : World} {K : PySem.W.Frag} {mg : Str → Option Value} {base : Heap} {f : Addr} {fd : FuncData}
/-- riders and their seats, told -/
def spDr : Sp := fun vs H Q _ => ∃ (p : Addr) (c : Nat), vs = [.ref p] ∧ Pen H p (c + 110) ∧ ∀ (t a d : Addr) (F L : List Str) (g : Str → Int) (H' : Hp), Fk F L g → L.length ≤ 12 → Pen H' p c → Kp p H H' →
  H' t = some (.tup [.ref a, .ref d]) → H' a = some (.lst (F.map V.str)) → H' d = some (.dK (idK L g)) → Off p a H' → Off p d H' → Q (.ref t) H'
theorem ok_dr (F : Dn K d_l_drawn f fd) (b : Bl mg) (cD : CalD P w K mg base) (cN : Cal P w K mg base 2 "_law_names" spNames []) : FnOk P w K mg base CX0 3 f fd ["_law_pen_here"] spDr := by
  refine F.ok sc_l_drawn (fun vs H Q E h => ?_) (fun cdv A outer s H vs Q E hr h => ?_)
  · obtain ⟨p, c, rfl, _⟩ := h
    rfl
  · obtain ⟨p, c, rfl, pen, hQ⟩ := h
    have hu := hu_of hr
    have dr : ∀ {X : Cx}, True := fun {X} => trivial
    refine ⟨_, PSs.nox (pss_cons (ps_set (i := 1) sc_l_drawn.nd rfl (.inl rfl) (pe_c cN hr (by decide) rfl (pa_cons (pv 0) (pa_cons pe_int pa_nil))))
      (pss_cons (ps_set (i := 2) sc_l_drawn.nd rfl (.inl rfl) (pe_ix ix_list (pe_lst (pa_cons (pe_c cD hr (by decide) rfl (pa_cons (pv 0) (pa_cons pe_int pa_nil))) (pa_cons (pe_c cD hr (by decide) rfl (pa_cons (pv 0) (pa_cons pe_int pa_nil))) (pa_cons pe_int pa_nil)))) (pe_c cD hr (by decide) rfl (pa_cons (pv 0) (pa_cons pe_int pa_nil))) (fun _ _ => rfl)))
      (pss_cons (ps_par3 (i := 3) (j := 4) (l := 5) rfl sc_l_drawn.nd rfl rfl rfl (by decide) (by decide) (by decide) rfl rfl rfl (pa_cons (pe_slice sl_list (pv 1) po_none (po_some (pv 2))) (pa_cons pe_dnewK
          (pa_cons (pe_ix ix_list (pe_lst (pa_cons pe_int (pa_cons pe_int (pa_cons pe_int (pa_cons pe_int pa_nil))))) (pe_c cD hr (by decide) rfl (pa_cons (pv 0) (pa_cons pe_int pa_nil))) (fun _ _ => rfl)) pa_nil))) rfl)
      (pss_cons (ps_for PassesOwn.never rfl (pi_list (pv 1)) (pg_name (i := 6) sc_l_drawn.nd rfl (.inl rfl))
        (pss_cons (ps_set (i := 7) sc_l_drawn.nd rfl (.inl rfl) (pe_c cD hr (by decide) rfl (pa_cons (pv 0) (pa_cons pe_int pa_nil))))
        (pss_one (ps_if (pt_cmpR op_gt (pv 7) pe_int (nomark _))
          (pss_one (ps_dput hu (pv 4) (pv 6) (pe_ix ix_list (pe_lst (pa_cons pe_int (pa_cons (pe_op op_add pe_int (pe_c cD hr (by decide) rfl (pa_cons (pv 0) (pa_cons (pv 5) pa_nil)))) (pa_cons (pe_c cD hr (by decide) rfl (pa_cons (pv 0) (pa_cons (pe_op op_add (pv 5) pe_int) pa_nil)))
              (pa_cons (pe_op op_add pe_int (pe_c cD hr (by decide) rfl (pa_cons (pv 0) (pa_cons pe_int pa_nil)))) pa_nil))))) (pe_op op_sub (pv 7) pe_int) (fun _ _ => rfl)) rfl)) pss_nil))))
      (pss_one (ps_ret (pe_tup (pa_cons (pv 3) (pa_cons (pv 4) pa_nil))))))))), ?_⟩
    refine ⟨_, rfl, p, c + 70, 12, rfl, pen, by decide, fun o zs H1 pen1 k1 fo off1 ho lz okz ndz => ?_⟩
    -- how many
    refine ⟨_, rfl, p, c + 69, _, rfl, pen1, by decide, by decide, fun r1 H2 a1 b1 pen2 k2 => ?_⟩
    refine ⟨_, rfl, p, c + 68, _, rfl, pen2, by decide, by decide, fun r2 H3 a2 b2 pen3 k3 => ?_⟩
    have off3 := (off1.kp k2).kp k3
    have ho3 := k3.1 _ _ (k2.1 _ _ ho off1.ne) (off1.kp k2).ne
    refine ⟨by show 3 ≤ sizeLine; decide, fun m1 fm1 => ?_⟩
    have s4 := same_new (o := .lst [V.int r1, V.int r2, V.int 12]) fm1
    have hm4 : (upd H3 m1 (.lst [V.int r1, V.int r2, V.int 12])) m1 = some (.lst [V.int r1, V.int r2, V.int 12]) := upd_same
    have offm : Off p m1 (upd H3 m1 (.lst [V.int r1, V.int r2, V.int 12])) := (Off.of pen3 fm1).kp (Kp.same s4)
    generalize upd H3 m1 (.lst [V.int r1, V.int r2, V.int 12]) = H4 at s4 hm4 offm ⊢
    refine ⟨_, rfl, p, c + 67, _, rfl, pen3.same s4, by decide, by decide, fun r3 H5 a3 b3 pen5 k5 => ?_⟩
    obtain ⟨n3, rfl⟩ := Int.eq_ofNat_of_zero_le a3
    obtain ⟨n1, rfl⟩ := Int.eq_ofNat_of_zero_le a1
    obtain ⟨n2, rfl⟩ := Int.eq_ofNat_of_zero_le a2
    obtain ⟨m, m12, em⟩ : ∃ m : Nat, m ≤ 12 ∧ ([V.int (n1 : Int), V.int (n2 : Int), V.int 12] : List V)[n3]? = some (V.int (m : Int)) := by
      match n3, b3 with
      | 0, _ => exact ⟨n1, by omega, rfl⟩
      | 1, _ => exact ⟨n2, by omega, rfl⟩
      | 2, _ => exact ⟨12, by omega, rfl⟩
      | k + 3, hk => exact absurd hk (by omega)
    refine ⟨m1, _, _, _, rfl, rfl, SqL.of (k5.1 _ _ hm4 offm.ne), atI_nat em, ?_⟩
    have off5 := (off3.kp (Kp.same s4)).kp k5
    have ho5 := k5.1 _ _ (s4 _ _ ho3) (off3.kp (Kp.same s4)).ne
    have k15 : Kp p H1 H5 := ((k2.trans k3).trans (Kp.same s4)).trans k5
    -- the riders, the dict
    have ezs : (zs.map fun l => V.str (S l)) = (zs.map S).map V.str := by rw [List.map_map]; rfl
    rw [ezs] at ho5
    have hFk : ∀ x ∈ zs.map S, Nm x := fun x hx => by
      obtain ⟨z, hz, rfl⟩ := List.mem_map.mp hx
      exact ⟨z, okz z hz, rfl⟩
    have hFn : (zs.map S).Nodup := List.pairwise_map.mpr (ndz.imp fun {a b} n e => n (SX.S_inj e))
    have hFl : (zs.map S).length = 12 := by rw [List.length_map, lz]
    generalize zs.map S = Z at ho5 hFk hFn hFl
    refine ⟨_, rfl, _, rfl, _, rfl, o, _, rfl, SqL.of ho5, fun fa ffa => ?_⟩
    rw [cut_take V.str (Int.natCast_nonneg m), Int.toNat_natCast]
    have s6 := same_new (o := .lst ((Z.take m).map V.str)) ffa
    have hfa : (upd H5 fa (.lst ((Z.take m).map V.str))) fa = some (.lst ((Z.take m).map V.str)) := upd_same
    have offa : Off p fa (upd H5 fa (.lst ((Z.take m).map V.str))) := (Off.of pen5 ffa).kp (Kp.same s6)
    generalize upd H5 fa (.lst ((Z.take m).map V.str)) = H6 at s6 hfa offa ⊢
    refine fun d fd => ?_
    have s7 := same_new (o := .dK []) fd
    have hd7 : (upd H6 d (.dK [])) d = some (.dK []) := upd_same
    have offd : Off p d (upd H6 d (.dK [])) := (Off.of (pen5.same s6) fd).kp (Kp.same s7)
    have nda : fa ≠ d := ne_of_none hfa fd
    have pen7 := (pen5.same s6).same s7
    generalize upd H6 d (.dK []) = H7 at s7 hd7 offd pen7 ⊢
    refine ⟨by show 4 ≤ sizeLine; decide, fun m2 fm2 => ?_⟩
    have s8 := same_new (o := .lst [V.int 2, V.int 4, V.int 9, V.int 9]) fm2
    have hm8 : (upd H7 m2 (.lst [V.int 2, V.int 4, V.int 9, V.int 9])) m2 = some (.lst [V.int 2, V.int 4, V.int 9, V.int 9]) := upd_same
    have offm2 : Off p m2 (upd H7 m2 (.lst [V.int 2, V.int 4, V.int 9, V.int 9])) := (Off.of pen7 fm2).kp (Kp.same s8)
    generalize upd H7 m2 (.lst [V.int 2, V.int 4, V.int 9, V.int 9]) = H8 at s8 hm8 offm2 ⊢
    refine ⟨_, rfl, p, c + 66, _, rfl, pen7.same s8, by decide, by decide, fun r4 H9 a4 b4 pen9 k9 => ?_⟩
    obtain ⟨n4, rfl⟩ := Int.eq_ofNat_of_zero_le a4
    obtain ⟨ms, ms1, ms9, ems⟩ : ∃ ms : Int, 2 ≤ ms ∧ ms ≤ 9 ∧ ([V.int 2, V.int 4, V.int 9, V.int 9] : List V)[n4]? = some (V.int ms) := by
      match n4, b4 with
      | 0, _ => exact ⟨2, by omega, by omega, rfl⟩
      | 1, _ => exact ⟨4, by omega, by omega, rfl⟩
      | 2, _ => exact ⟨9, by omega, by omega, rfl⟩
      | 3, _ => exact ⟨9, by omega, by omega, rfl⟩
      | k + 4, hk => exact absurd hk (by omega)
    refine ⟨m2, _, _, _, rfl, rfl, SqL.of (k9.1 _ _ hm8 offm2.ne), atI_nat ems, ?_⟩
    have offd9 := (offd.kp (Kp.same s8)).kp k9
    have offa9 := ((offa.kp (Kp.same s7)).kp (Kp.same s8)).kp k9
    have hd9 := k9.1 _ _ (s8 _ _ hd7) (offd.kp (Kp.same s8)).ne
    have hfa9 := k9.1 _ _ (s8 _ _ (s7 _ _ hfa)) ((offa.kp (Kp.same s7)).kp (Kp.same s8)).ne
    have off9 := (((off5.kp (Kp.same s6)).kp (Kp.same s7)).kp (Kp.same s8)).kp k9
    have ho9 := k9.1 _ _ (s8 _ _ (s7 _ _ (s6 _ _ ho5))) ((((off5.kp (Kp.same s6)).kp (Kp.same s7)).kp (Kp.same s8))).ne
    have k19 : Kp p H1 H9 := (((k15.trans (Kp.same s6)).trans (Kp.same s7)).trans (Kp.same s8)).trans k9
    have nod : o ≠ d := ne_of_none (s6 _ _ ho5) fd
    have fd0 : H1 d = none := by
      cases q : H1 d with
      | none => rfl
      | some u =>
        have z := ((k15.trans (Kp.same s6)).1 _ _ q (fun z => (pen_some (pen5.same s6)) (z ▸ fd)))
        rw [fd] at z
        cases z
    refine ⟨_, _, _, rfl, ?_⟩
    have hms9 : ms < 1073741824 := by omega
    refine ⟨_, rfl, o, rfl, ⟨_, SqL.of ho9⟩, for_list (K := K) (xs := Z.map V.str) (fun i σ H' => ∃ (v6 v7 : Option V) (L : List Str) (g : Str → Int), σ = [some (.ref p), some (.ref o), some (.int (m : Int)), some (.ref fa), some (.ref d), some (.int ms), v6, v7] ∧ H' d = some (.dK (idK L g)) ∧ L.length ≤ i ∧ (∀ x ∈ L, x ∈ Z) ∧ (∀ x ∈ L, 0 ≤ g x ∧ g x ≤ 9) ∧
      Pen H' p (c + 65 - 4 * i) ∧ Kp p H1 H' ∧ Off p d H' ∧ Off p o H' ∧ H' o = some (.lst (Z.map V.str)) ∧ Off p fa H' ∧ H' fa = some (.lst ((Z.take m).map V.str))) ?_ ?_ ?_ ?_⟩
    · exact ⟨_, _, [], fun _ => 0, rfl, hd9, Nat.le_refl _, by simp, by simp, pen9.weak (by omega), k19, offd9, off9, ho9, offa9, hfa9⟩
    · rintro i σ H' _ ⟨_, _, _, _, _, _, _, _, _, _, _, _, _, q, _⟩
      exact SqL.of q
    · rintro i v σ H' hv ⟨v6, v7, L, g, rfl, hd, ll, lz', gv, pen', k', od, oo, ho', oa, ha'⟩
      obtain ⟨x, hx, rfl⟩ : ∃ x, Z[i]? = some x ∧ v = .str x := by
        rw [List.getElem?_map] at hv
        obtain ⟨x, hx, e⟩ := Option.map_eq_some_iff.mp hv
        exact ⟨x, hx, e.symm⟩
      have i12 : i < 12 := by rw [← hFl]; exact (List.getElem?_eq_some_iff.mp hx).1
      refine ⟨_, rfl, p, c + 65 - 4 * i - 1, _, rfl, pen'.weak (by omega), by decide, by decide, fun q1 G1 u1 w1 pn1 kk1 => ?_⟩
      obtain ⟨lot, rfl⟩ := Int.eq_ofNat_of_zero_le u1
      have hd1 := kk1.1 _ _ hd od.ne
      have od1 := od.kp kk1
      have ho1 := kk1.1 _ _ ho' oo.ne
      have oo1 := oo.kp kk1
      have ha1 := kk1.1 _ _ ha' oa.ne
      have oa1 := oa.kp kk1
      have kt1 := k'.trans kk1
      refine ⟨_, rfl, _, _, rfl, rfl, _, rfl, ?_⟩
      refine ite2 (fun c1 => ?_) (fun c1 => ?_)
      · have l0 : 0 < lot := by
          have := of_decide_eq_true c1
          omega
        refine ⟨_, rfl, _, rfl, p, c + 65 - 4 * i - 2, _, rfl, pn1.weak (by omega), by omega, hms9, fun q2 G2 u2 w2 pn2 kk2 => ?_⟩
        refine ⟨_, _, rfl, rfl, ?_⟩
        refine ⟨_, rfl, _, rfl, _, _, rfl, rfl, p, c + 65 - 4 * i - 3, _, rfl, pn2.weak (by omega), by omega, by omega, fun q3 G3 u3 w3 pn3 kk3 => ?_⟩
        refine ⟨_, rfl, p, c + 65 - 4 * i - 4, _, rfl, pn3.weak (by omega), by decide, by decide, fun q4 G4 u4 w4 pn4 kk4 => ?_⟩
        refine ⟨_, _, rfl, rfl, ?_⟩
        refine ⟨by show 4 ≤ sizeLine; decide, fun e fe => ?_⟩
        have se := same_new (o := .lst [V.int 0, V.int (1 + q2), V.int q3, V.int (1 + q4)]) fe
        have he : (upd G4 e (.lst [V.int 0, V.int (1 + q2), V.int q3, V.int (1 + q4)])) e = some (.lst [V.int 0, V.int (1 + q2), V.int q3, V.int (1 + q4)]) := upd_same
        have pn5 := pn4.same se
        have kk5 := ((kk2.trans kk3).trans kk4).trans (Kp.same se)
        generalize upd G4 e (.lst [V.int 0, V.int (1 + q2), V.int q3, V.int (1 + q4)]) = G5 at se he pn5 kk5 ⊢
        obtain ⟨y, y0, y9, ey⟩ : ∃ y : Int, 0 ≤ y ∧ y ≤ 9 ∧ ([V.int 0, V.int (1 + q2), V.int q3, V.int (1 + q4)] : List V)[lot - 1]? = some (V.int y) := by
          match lot, l0, w1 with
          | 1, _, _ => exact ⟨0, by omega, by omega, rfl⟩
          | 2, _, _ => exact ⟨1 + q2, by omega, by omega, rfl⟩
          | 3, _, _ => exact ⟨q3, by omega, by omega, rfl⟩
          | 4, _, _ => exact ⟨1 + q4, by omega, by omega, rfl⟩
          | k + 5, _, hk => exact absurd hk (by omega)
        have hd5 := kk5.1 _ _ hd1 od1.ne
        have od5 := od1.kp kk5
        have el : (lot : Int) - 1 = ((lot - 1 : Nat) : Int) := by omega
        have ea : atI ([V.int 0, V.int (1 + q2), V.int q3, V.int (1 + q4)] : List V) ((lot : Int) - 1) = some (V.int y) := by rw [el]; exact atI_nat ey
        refine ⟨_, rfl, _, _, rfl, rfl, e, _, _, _, rfl, rfl, SqL.of he, ea, ?_⟩
        refine ⟨_, rfl, _, rfl, d, _, rfl, DPut.k (k := Sum.inr x) hd5 ?_, ?_⟩
        · rw [List.length_map]
          exact Nat.lt_of_lt_of_le (by omega : L.length < 64) (by decide)
        rw [id_put]
        have nod : o ≠ d := fun z => by rw [z, hd] at ho'; cases ho'
        have nad : fa ≠ d := fun z => by rw [z, hd] at ha'; cases ha'
        have opd : p ≠ d := fun z => od.ne z.symm
        refine ⟨_, _, addI L x, setI g x y, rfl, upd_same, ?_, ?_, ?_, (pn5.put od5).weak (by omega), (kt1.trans kk5).new fd0, od5.put opd, ?_, ?_, ?_, ?_⟩
        · have := addI_len L x
          omega
        · intro z hz
          rcases addI_sub hz with h | rfl
          · exact lz' z h
          · exact List.mem_of_getElem? hx
        · intro z hz
          unfold setI
          by_cases ez : z = x
          · rw [if_pos ez]
            exact ⟨y0, y9⟩
          · rw [if_neg ez]
            exact gv z ((addI_sub hz).elim id fun h => absurd h ez)
        · exact (oo1.kp kk5).put opd
        · rw [upd_ne nod]
          exact kk5.1 _ _ ho1 oo1.ne
        · exact (oa1.kp kk5).put opd
        · rw [upd_ne nad]
          exact kk5.1 _ _ ha1 oa1.ne
      · exact ⟨_, _, L, g, rfl, hd1, by omega, lz', gv, pn1.weak (by omega), kt1, od1, oo1, ho1, oa1, ha1⟩
    · rintro σ H' ⟨v6, v7, L, g, rfl, hd, ll, lz', gv, pen', k', od, oo, ho', oa, ha'⟩
      rw [List.length_map, hFl] at ll pen'
      refine ⟨_, rfl, _, rfl, by show 2 ≤ sizeLine; decide, fun t ft => ?_⟩
      have st := same_new (o := .tup [.ref fa, .ref d]) ft
      refine hQ t fa d (Z.take m) L g _ ⟨?_, ?_, ?_, by omega, fun x hx => hFk x (lz' x hx), gv⟩ (by omega) ((pen'.same st).weak (by omega)) ((k1.trans k').trans (Kp.same st)) upd_same (st _ _ ha') (st _ _ hd) (oa.kp (Kp.same st)) (od.kp (Kp.same st))
      · rw [List.length_take]
        omega
      · exact hFn.sublist (List.take_sublist _ _)
      · exact fun x hx => hFk x (List.mem_of_mem_take hx)
end
end K20
set_option linter.all false
set_option Elab.async false
/-! IO: names put in order by worths, one behind another. -/
namespace IO
open PySem
/-- x is ahead of y, as texts -/
def slt (x y : Str) : Prop := x.cps.toList < y.cps.toList
instance (x y : Str) : Decidable (slt x y) := inferInstanceAs (Decidable (x.cps.toList < y.cps.toList))
theorem slt_trans_not {x y z : Str} (h1 : ¬ slt y x) (h2 : ¬ slt z y) : ¬ slt z x := by
  have a : x.cps.toList ≤ y.cps.toList := h1
  have b : y.cps.toList ≤ z.cps.toList := h2
  exact List.le_trans a b
theorem slt_antisymm {x y : Str} (h1 : ¬ slt y x) (h2 : ¬ slt x y) : x = y := by
  have a : x.cps.toList ≤ y.cps.toList := h1
  have b : y.cps.toList ≤ x.cps.toList := h2
  exact TL.ext_tl (List.le_antisymm a b)
theorem rising : ∀ (l : List Str) (p : Str), PyProof.Rows.risingS p l = true → (p :: l).Pairwise fun a b => ¬ slt b a
  | [], p, _ => List.pairwise_singleton ..
  | x :: r, p, h => by
    have h' : (!PySem.Spec.ltCps x.cps.toList p.cps.toList && PyProof.Rows.risingS x r) = true := h
    rw [Bool.and_eq_true, PyProof.Rows.ltCps_eq] at h'
    have h1 : ¬ slt x p := by
      have := h'.1
      simpa [slt] using this
    have ih := rising r x h'.2
    refine List.pairwise_cons.mpr ⟨fun y hy => ?_, ih⟩
    rcases List.mem_cons.mp hy with e | hy
    · rw [e]; exact h1
    · exact slt_trans_not h1 ((List.pairwise_cons.mp ih).1 y hy)
theorem sorted_pw {l : List Str} (h : PyProof.Rows.sortedS l = true) : l.Pairwise fun a b => ¬ slt b a := by
  cases l with
  | nil => exact List.Pairwise.nil
  | cons x r => exact rising r x h
/-- two lists in order, of the same texts, are one -/
theorem sorted_same {l m : List Str} (h1 : l.Pairwise fun a b => ¬ slt b a) (h2 : m.Pairwise fun a b => ¬ slt b a) (p : l.Perm m) : l = m :=
  List.Perm.eq_of_pairwise (le := fun a b => ¬ slt b a) (fun a b _ _ x y => slt_antisymm x y) h1 h2 p
/-- by worths, alike ones by names -/
def le (ρ : Str → Rat) (x y : Str) : Prop := ρ x < ρ y ∨ (ρ x = ρ y ∧ ¬ slt y x)
theorem le_rat {ρ : Str → Rat} {x y : Str} (h : le ρ x y) : ρ x ≤ ρ y := by
  rcases h with h | h
  · exact Rat.le_of_lt h
  · rw [h.1]; exact Rat.le_refl
theorem put_in {ρ : Str → Rat} {zs : List Str} {x : Str} {j : Nat} (hz : zs.Pairwise (le ρ)) (hx : ∀ z ∈ zs, ¬ slt x z) (hj : j ≤ zs.length) (hi : ∀ z ∈ zs.drop j, ρ x < ρ z) (lo : ∀ z ∈ zs.take j, ρ z ≤ ρ x) :
    (zs.take j ++ [x] ++ zs.drop j).Pairwise (le ρ) := by
  have h0 := hz
  rw [← List.take_append_drop j zs] at h0
  obtain ⟨h1, h2, h3⟩ := List.pairwise_append.mp h0
  rw [List.append_assoc]
  refine List.pairwise_append.mpr ⟨h1, ?_, fun a ha b hb => ?_⟩
  · exact List.pairwise_cons.mpr ⟨fun b hb => .inl (hi b hb), h2⟩
  · rcases List.mem_cons.mp hb with e | hb
    · subst e
      rcases Rat.le_iff_lt_or_eq.mp (lo a ha) with h | h
      · exact .inl h
      · exact .inr ⟨h, hx a (List.mem_of_mem_take ha)⟩
    · exact h3 a ha b hb
theorem put_perm {zs : List Str} {x : Str} (j : Nat) : (zs.take j ++ [x] ++ zs.drop j).Perm (x :: zs) := by
  rw [List.append_assoc]
  have h : (zs.take j ++ ([x] ++ zs.drop j)).Perm (x :: (zs.take j ++ zs.drop j)) := List.perm_middle
  rw [List.take_append_drop] at h
  exact h
end IO
set_option Elab.async false
set_option linter.all false
set_option maxRecDepth 100000
set_option maxHeartbeats 4000000
namespace K20
open PySem PySem.Spec PyProof.Rows L2
open C8 (Cal Mak Met pe_c pe_mk pe_mt pe_mt0)
section
variable {P : Program} {w : World} {K : PySem.W.Frag} {mg : Str → Option Value} {base : Heap} {f : Addr} {fd : FuncData}
/-- who can drive -/
def Able (F L : List Str) (g : Str → Int) (D : List Str) : Prop := D.Nodup ∧ ∀ x ∈ D, x ∈ F ∧ x ∈ L ∧ 1 ≤ g x
theorem rm_able {L : List Str} {g : Str → Int} {x : Str} (h : 0 < rm L g x) : x ∈ L ∧ 1 ≤ g x := by
  unfold rm at h
  split at h
  · rename_i hx
    exact ⟨hx, h⟩
  · omega
end
end K20
set_option Elab.async false
set_option linter.all false
set_option maxRecDepth 100000
set_option maxHeartbeats 4000000
namespace K20
open PySem PySem.Spec PyProof.Rows L2
open C8 (Cal Mak Met pe_c pe_mk pe_mt pe_mt0)
/-! ### cars as data -/
abbrev Cr := Str × List Str
def fil1 (g : Str → Int) (u : List Cr × List Str) (x : Str) : List Cr × List Str := (u.1 ++ [(x, u.2.take (g x - 1).toNat)], u.2.drop (g x - 1).toNat)
def fil (g : Str → Int) (W ds : List Str) : List Cr × List Str := ds.foldl (fil1 g) ([], W)
theorem fil_snoc (g : Str → Int) (W ds : List Str) (x : Str) : fil g W (ds ++ [x]) = fil1 g (fil g W ds) x := by
  unfold fil
  rw [List.foldl_append]
  rfl
/-- who waits -/
noncomputable def wt (F D : List Str) : List Str := sortS (F.filter fun x => !decide (x ∈ D))
/-- how all sit -/
noncomputable def crD (F D : List Str) (g : Str → Int) : List Cr := (fil g (wt F D) (sortS D)).1
theorem fil_go (g : Str → Int) (W E : List Str) : ∀ (ds : List Str) (u : List Cr × List Str), (∀ c ∈ u.1, c.1 ∈ E ∧ c.2.length ≤ W.length ∧ ∀ y ∈ c.2, y ∈ W) → u.2.length ≤ W.length → (∀ y ∈ u.2, y ∈ W) → (∀ x ∈ ds, x ∈ E) →
    (ds.foldl (fil1 g) u).1.length = u.1.length + ds.length ∧ ∀ c ∈ (ds.foldl (fil1 g) u).1, c.1 ∈ E ∧ c.2.length ≤ W.length ∧ ∀ y ∈ c.2, y ∈ W
  | [], u, h1, _, _, _ => ⟨rfl, h1⟩
  | x :: ds, u, h1, h2, h3, h4 => by
    have ih := fil_go g W E ds (fil1 g u x) (fun c hc => ?_) ?_ (fun y hy => h3 y (List.mem_of_mem_drop hy)) fun y hy => h4 y (List.mem_cons_of_mem _ hy)
    · refine ⟨?_, ih.2⟩
      rw [List.foldl_cons, ih.1]
      show (u.1 ++ [_]).length + _ = _
      rw [List.length_append, List.length_cons, List.length_cons, List.length_nil]
      omega
    · rcases List.mem_append.mp hc with h | h
      · exact h1 c h
      · rw [List.mem_singleton.mp h]
        refine ⟨h4 x List.mem_cons_self, ?_, fun y hy => h3 y (List.mem_of_mem_take hy)⟩
        show (List.take _ _).length ≤ _
        rw [List.length_take]
        omega
    · show (List.drop _ _).length ≤ _
      rw [List.length_drop]
      omega
theorem fil_ok (g : Str → Int) (W ds : List Str) : (fil g W ds).1.length = ds.length ∧ ∀ c ∈ (fil g W ds).1, c.1 ∈ ds ∧ c.2.length ≤ W.length ∧ ∀ y ∈ c.2, y ∈ W := by
  have h := fil_go g W ds ds ([], W) (by simp) (Nat.le_refl _) (fun y hy => hy) fun x hx => hx
  exact ⟨by rw [show fil g W ds = ds.foldl (fil1 g) ([], W) from rfl, h.1]; simp, h.2⟩
/-- how many seats are too few -/
def lk (F D L : List Str) (g : Str → Int) : Int := (F.length : Int) - (D.map fun x => rm L g x).sum
/-! ### cars in the heap -/
def Car (H : Hp) (t : Addr × Addr) (c : Cr) : Prop := H t.1 = some (.tup [.str c.1, .ref t.2]) ∧ H t.2 = some (.tup (c.2.map V.str))
def Cars (H : Hp) (l : Addr) (cs : List Cr) : Prop := ∃ ts : List (Addr × Addr), H l = some (.lst (ts.map fun t => V.ref t.1)) ∧ Paired (Car H) ts cs
theorem pd_mono {α β : Type} {F G : α → β → Prop} : ∀ {as : List α} {bs : List β}, Paired F as bs → (∀ x y, F x y → G x y) → Paired G as bs
  | _, _, .nil, _ => .nil
  | _, _, .cons h t, f => .cons (f _ _ h) (pd_mono t f)
theorem pd_snoc {α β : Type} {F : α → β → Prop} {x : α} {y : β} : ∀ {as : List α} {bs : List β}, Paired F as bs → F x y → Paired F (as ++ [x]) (bs ++ [y])
  | _, _, .nil, h => .cons h .nil
  | _, _, .cons h t, f => .cons h (pd_snoc t f)
theorem pd_len {α β : Type} {F : α → β → Prop} : ∀ {as : List α} {bs : List β}, Paired F as bs → as.length = bs.length
  | _, _, .nil => rfl
  | _, _, .cons _ t => congrArg (· + 1) (pd_len t)
theorem strs_at {F : List Str} {i : Nat} {v : V} (hv : (F.map V.str)[i]? = some v) : ∃ x, F[i]? = some x ∧ v = .str x := by
  rw [List.getElem?_map] at hv
  obtain ⟨x, hx, e⟩ := Option.map_eq_some_iff.mp hv
  exact ⟨x, hx, e.symm⟩
/-- the heap but for one cell -/
def But (c : Addr) (H H' : Hp) : Prop := ∀ b o, H b = some o → b ≠ c → H' b = some o
section
variable {P : Program} {w : World} {K : PySem.W.Frag} {mg : Str → Option Value} {base : Heap} {f N fN : Addr} {fd fdN : FuncData}
def spCw (N : Addr) : Sp := fun vs H Q E => ∃ (a b d : Addr) (F D L : List Str) (g : Str → Int), vs = [.ref a, .ref b, .ref d] ∧ Fk F L g ∧ Able F L g D ∧ D.length ≤ 12 ∧ H a = some (.lst (F.map V.str)) ∧ H b = some (.lst (D.map V.str)) ∧ H d = some (.dK (idK L g)) ∧
  (lk F D L g ≤ 0 → ∀ (l : Addr) (H' : Hp), Same H H' → H l = none → Cars H' l (crD F D g) → Q (.ref l) H') ∧
  (0 < lk F D L g → ∀ dx H', Same H H' → H dx = none → H' dx = some (.xd [("lack", .int (lk F D L g))]) → E (.ref N) (some dx) H')
theorem ok_cw (Fd : Dn K d_crews f fd) (b : Bl mg) (b2 : B2 mg) (T : KnS K mg N fN) (cS : Cal P w K mg base 1 "seats_of" spSo []) (FN : FnOk P w K mg base CX0 1 fN fdN ["self", "lack"] (spNs N)) (bN : Binds K fdN ["self", "lack"] []) :
    FnOk P w K mg base (L2.CX P w) 4 f fd ["riders", "drivers", "seats"] (spCw N) := by
  refine Fd.ok sc_crews (fun vs H Q E h => ?_) (fun cdv A outer s H vs Q E hr h => ?_)
  · obtain ⟨_, _, _, _, _, _, _, rfl, _⟩ := h
    rfl
  · obtain ⟨a, bb, d, F, D, L, g, rfl, fk, ab, l12, ha, hb, hd, hQ, hE⟩ := h
    have hu := hu_of hr
    have hu64 : (A.deeper (envOfC d_crews.qual d_crews.scope s.heap.objs.size f cdv)).units + 64 < cLine := by have := hr.un; omega
    refine ⟨_, pss_cons (ps_for (passes_of rfl) rfl (pi_list (pv 1)) (pg_name (i := 3) sc_crews.nd rfl (.inl rfl))
        (pss_one (ps_if (PW.pt (pw_or (pt_cmpR op_notIn_seq (pv 3) (pv 0) (by rfl)) (pw_or1 (pt_cmpR op_lt (pe_dget2 hu (pv 2) (pv 3) pe_int ⟨rfl, rfl, rfl, rfl⟩) pe_int (nomark _))))) pss_never pss_nil)))
      (pss_cons (ps_set (i := 4) sc_crews.nd rfl (.inl rfl) (pe_op op_sub (pe_callB call_len_seq rfl b.len boot_len (pa_cons (pv 0) pa_nil)) (pe_callB (cr_sum rfl) rfl b2.sum boot_sum (pa_cons (pe_c cS hr (by decide) rfl (pa_cons (pv 1) (pa_cons (pv 2) pa_nil))) pa_nil))))
      (pss_cons (ps_if (pt_cmpR op_gt (pv 4) pe_int (nomark _)) (pss_one (ps_raise rfl (takes_of rfl rfl rfl rfl) (GX.pmk_gx PySem.F.excBase_IndexError T.gx T.iC T.tI FN (hr.mono (by decide)) bN .nil pass0 rfl T.g (pa_cons (pv 4) pa_nil)))) pss_nil)
      (pss_cons (ps_set (i := 5) sc_crews.nd rfl (.inl rfl) (pe_callB (cr_sortS hu64) rfl b2.srt boot_sorted (pa_cons (pe_lc (own := [("name", 8)]) (g := gName 8) rfl sc_crews.nd (pi_list (pv 0)) (blkOk_by (N := N_crews) (sc := defScope s_crews) (by decide +kernel))
          (fun _ _ _ _ _ => pg_name (i := 8) sc_crews.nd rfl (Or.inl rfl)) (fun _ _ _ _ _ => pts_one (pt_cmpR (r := rIn K true) op_notIn_seq (pv 8) (pv 1) (by rfl))) (fun _ _ _ _ _ => pv 8)) pa_nil)))
      (pss_cons (ps_set (i := 6) sc_crews.nd rfl (.inl rfl) (pe_lst pa_nil))
      (pss_cons (ps_for (passes_of rfl) rfl (pi_list (pe_callB (cr_sortS hu64) rfl b2.srt boot_sorted (pa_cons (pv 1) pa_nil))) (pg_name (i := 3) sc_crews.nd rfl (.inl rfl))
        (pss_cons (ps_set (i := 7) sc_crews.nd rfl (.inl rfl) (pe_op op_sub (pe_dget hu (pv 2) (pv 3) (fun _ _ => rfl)) pe_int))
        (pss_cons (ps_expr (pe_bm PySem.F.plainAttrs_list PySem.F.slot_list_append PySem.F.type_list_append mt_append (pv 6) (pa_cons (pe_tup (pa_cons (pv 3) (pa_cons (pe_callTy call_tuple_of rfl b2.tup boot_tuple (pa_cons (pe_slice sl_list (pv 5) po_none (po_some (pv 7))) pa_nil)) pa_nil))) pa_nil)))
        (pss_one (ps_set (i := 5) sc_crews.nd rfl (.inl rfl) (pe_slice sl_list (pv 5) (po_some (pv 7)) po_none))))))
      (pss_one (ps_ret (pv 6)))))))), ?_⟩
    have abr : ∀ x ∈ D, rm L g x = g x := fun x hx => if_pos (ab.2 x hx).2.1
    refine ⟨_, rfl, bb, rfl, ⟨_, SqL.of hb⟩, for_list (K := K) (xs := D.map V.str) (fun i σ H' => H' = H ∧ ∃ v3, σ = [some (.ref a), some (.ref bb), some (.ref d), v3, none, none, none, none, none]) ⟨rfl, _, rfl⟩ (fun i σ H' _ q => SqL.of (q.1 ▸ hb)) ?_ ?_⟩
    · rintro i v σ H' hv ⟨rfl, v3, rfl⟩
      obtain ⟨x, hx, rfl⟩ := strs_at hv
      have hxD := List.mem_of_getElem? hx
      obtain ⟨h1, h2, h3⟩ := ab.2 x hxD
      obtain ⟨ov, o1, o2⟩ := id_rm hd x
      refine ⟨_, rfl, _, rfl, a, _, rfl, .inl (SqL.of ha), rfl, flat_strs F, _, rfl, ?_⟩
      rw [in_strs, decide_eq_true h1]
      refine iteF ?_
      refine ⟨_, rfl, d, rfl, .inl ⟨_, .inl hd⟩, _, rfl, ov, o1, _, _, o2, rfl, _, rfl, ?_⟩
      rw [abr x hxD, decide_eq_false (show ¬ g x < 1 by omega)]
      exact iteF ⟨rfl, _, rfl⟩
    · rintro σ H' ⟨eH, v3, rfl⟩
      have eH := eH.symm
      subst eH
      refine ⟨_, rfl, a, _, rfl, .inl (SqL.of ha), _, rfl, _, rfl, bb, d, D, L, g, rfl, hb, hd, by omega, fun o H1 s1 fo ho => ?_⟩
      refine ⟨o, _, rfl, SqL.of ho, _, _, rfl, rfl, ?_⟩
      have ek : (((F.map V.str).length : Nat) : Int) - (D.map fun x => rm L g x).sum = lk F D L g := by rw [List.length_map]; rfl
      refine ⟨_, rfl, _, _, rfl, rfl, _, rfl, ?_⟩
      refine ite2 (fun c1 => ?_) (fun c1 => ?_)
      · have k0 : 0 < lk F D L g := by rw [← ek]; exact of_decide_eq_true c1
        have hE := hE k0
        rw [← ek] at hE
        exact ⟨_, rfl, by show 1 ≤ 1000; decide, fun x hx => ⟨x, _, rfl, upd_same, fun q hq ne => ⟨rfl, q, _, upd_same, (by rw [upd_ne ne]; exact upd_same), (by rw [upd_ne ne] at hq; exact hq), raiseS hE s1 hx hq ne⟩⟩⟩
      have k0 : lk F D L g ≤ 0 := by
        have : ¬ 0 < lk F D L g := fun z => c1 (decide_eq_true (by rw [← ek] at z; exact z))
        omega
      -- who waits
      have ha1 := s1 _ _ ha
      have hb1 := s1 _ _ hb
      refine ⟨_, rfl, a, rfl, ⟨_, SqL.of ha1⟩, fun w0 fw0 => lc_list (K := K) (xs := F.map V.str) (fun i H' => Same H1 H' ∧ H' w0 = some (.lst (((F.take i).filter fun x => !decide (x ∈ D)).map V.str))) ⟨same_new fw0, upd_same⟩ (fun i H' _ q => SqL.of (q.1 _ _ ha1)) ?_ ?_⟩
      · rintro i v H' hv ⟨s2, hw⟩
        obtain ⟨x, hx, rfl⟩ := strs_at hv
        have et : F.take (i + 1) = F.take i ++ [x] := by rw [List.take_succ, hx]; rfl
        refine ⟨rfl, ?_⟩
        refine ⟨_, rfl, _, rfl, bb, _, rfl, .inl (SqL.of (s2 _ _ hb1)), rfl, flat_strs D, _, rfl, ?_⟩
        rw [in_strs]
        by_cases hD : x ∈ D
        · rw [decide_eq_true hD]
          refine iteF ⟨s2, ?_⟩
          rw [et, List.filter_append]
          simpa [hD] using hw
        · rw [decide_eq_false hD]
          refine iteT ?_
          have := fk.fl
          refine ⟨_, rfl, _, hw, ?_, fun b u e => ?_, ?_⟩
          · rw [List.length_map]
            have h1 := List.length_filter_le (fun x => !decide (x ∈ D)) (F.take i)
            rw [List.length_take] at h1
            exact Nat.lt_of_lt_of_le (by omega : _ < 64) (by decide)
          · rw [upd_ne (ne_of_none e fw0)]
            exact s2 _ _ e
          · rw [upd_same, et, List.filter_append]
            simp [hD]
      rintro H2 ⟨s2, hw⟩
      rw [List.length_map, List.take_of_length_le (Nat.le_refl _)] at hw
      refine ⟨w0, _, rfl, .inl (SqL.of hw), fun wa fwa => ?_⟩
      have s3 := same_new (o := .lst ((sortS (F.filter fun x => !decide (x ∈ D))).map V.str)) fwa
      have hwa : (upd H2 wa (.lst ((sortS (F.filter fun x => !decide (x ∈ D))).map V.str))) wa = some (.lst ((wt F D).map V.str)) := upd_same
      generalize upd H2 wa (.lst ((sortS (F.filter fun x => !decide (x ∈ D))).map V.str)) = H3 at s3 hwa ⊢
      have hb3 := s3 _ _ (s2 _ _ hb1)
      -- the cars
      refine ⟨Nat.zero_le _, fun ca fca => ?_⟩
      have s4 := same_new (o := .lst []) fca
      have hca : (upd H3 ca (.lst [])) ca = some (.lst []) := upd_same
      have nwc : wa ≠ ca := ne_of_none hwa fca
      have hwa4 := s4 _ _ hwa
      have s04 : Same H (upd H3 ca (.lst [])) := ((s1.trans s2).trans s3).trans s4
      have fc0 : H ca = none := ((s1.trans s2).trans s3).free fca
      have hb4 := s4 _ _ hb3
      generalize upd H3 ca (.lst []) = H4 at s4 hca hwa4 s04 hb4 ⊢
      refine ⟨_, rfl, bb, _, rfl, .inl (SqL.of hb4), fun sd fsd => ?_⟩
      have s5 := same_new (o := .lst ((sortS D).map V.str)) fsd
      have hsd : (upd H4 sd (.lst ((sortS D).map V.str))) sd = some (.lst ((sortS D).map V.str)) := upd_same
      have hca5 := s5 _ _ hca
      have nsc : sd ≠ ca := fun z => by rw [z, hca] at fsd; cases fsd
      have hwa5 := s5 _ _ hwa4
      have s05 := s04.trans s5
      generalize upd H4 sd (.lst ((sortS D).map V.str)) = H5 at s5 hsd hca5 hwa5 s05 ⊢
      have psD := (sortS_at D).2.1
      have psl : (sortS D).length ≤ 12 := by rw [psD.length_eq]; exact l12
      refine ⟨sd, rfl, ⟨_, SqL.of hsd⟩, for_list (K := K) (xs := (sortS D).map V.str) (fun i σ H' => ∃ (v3 v7 v8 : Option V) (wx : Addr) (ts : List (Addr × Addr)), σ = [some (.ref a), some (.ref bb), some (.ref d), v3, some (.int ((((F.map V.str).length : Nat) : Int) - (D.map fun x => rm L g x).sum)), some (.ref wx), some (.ref ca), v7, v8] ∧
        Same H H' ∧ H' sd = some (.lst ((sortS D).map V.str)) ∧ H' ca = some (.lst (ts.map fun t => V.ref t.1)) ∧ Paired (Car H') ts (fil g (wt F D) ((sortS D).take i)).1 ∧ H' wx = some (.lst ((fil g (wt F D) ((sortS D).take i)).2.map V.str)) ∧ wx ≠ ca ∧ sd ≠ ca) ?_ ?_ ?_ ?_⟩
      · exact ⟨_, _, _, wa, [], rfl, s05, hsd, hca5, .nil, hwa5, nwc, nsc⟩
      · rintro i σ H' _ ⟨_, _, _, _, _, _, _, q, _⟩
        exact SqL.of q
      · rintro i v σ H' hv ⟨v3, v7, v8, wx, ts, rfl, s6, hsd', hc, pd, hwx, nxc, nsc⟩
        obtain ⟨x, hx, rfl⟩ := strs_at hv
        have hxD : x ∈ D := psD.subset (List.mem_of_getElem? hx)
        have i12 : i < 12 := Nat.lt_of_lt_of_le (List.getElem?_eq_some_iff.mp hx).1 psl
        obtain ⟨h1, h2, h3⟩ := ab.2 x hxD
        have et : (sortS D).take (i + 1) = (sortS D).take i ++ [x] := by rw [List.take_succ, hx]; rfl
        have lts : ts.length ≤ 12 := by
          rw [pd_len pd, (fil_ok g (wt F D) ((sortS D).take i)).1, List.length_take]
          omega
        rw [et, fil_snoc]
        generalize fil g (wt F D) ((sortS D).take i) = u at pd hwx ⊢
        refine ⟨_, rfl, _, rfl, d, _, rfl, id_get (s6 _ _ hd) h2, _, _, rfl, rfl, ?_⟩
        have g0 : 0 ≤ g x - 1 := by omega
        refine ⟨_, rfl, .inl ⟨rfl, _, SqL.of hc⟩, _, rfl, _, rfl, _, rfl, _, rfl, wx, _, rfl, SqL.of hwx, fun y1 fy1 => ?_⟩
        rw [cut_take V.str g0]
        have sy := same_new (o := .lst ((u.2.take (g x - 1).toNat).map V.str)) fy1
        have hy1 : (upd H' y1 (.lst ((u.2.take (g x - 1).toNat).map V.str))) y1 = some (.lst ((u.2.take (g x - 1).toNat).map V.str)) := upd_same
        generalize upd H' y1 (.lst ((u.2.take (g x - 1).toNat).map V.str)) = G1 at sy hy1 ⊢
        refine ⟨y1, _, rfl, .inl ⟨SqL.of hy1, fun y2 fy2 => ?_⟩⟩
        have sz := same_new (o := .tup ((u.2.take (g x - 1).toNat).map V.str)) fy2
        have hy2 : (upd G1 y2 (.tup ((u.2.take (g x - 1).toNat).map V.str))) y2 = some (.tup ((u.2.take (g x - 1).toNat).map V.str)) := upd_same
        generalize upd G1 y2 (.tup ((u.2.take (g x - 1).toNat).map V.str)) = G2 at sz hy2 ⊢
        refine ⟨by show 2 ≤ sizeLine; decide, fun t ft => ?_⟩
        have st := same_new (o := .tup [.str x, .ref y2]) ft
        have ht : (upd G2 t (.tup [.str x, .ref y2])) t = some (.tup [.str x, .ref y2]) := upd_same
        have hy3 := st _ _ hy2
        have sG : Same H' (upd G2 t (.tup [.str x, .ref y2])) := (sy.trans sz).trans st
        generalize upd G2 t (.tup [.str x, .ref y2]) = G3 at st ht hy3 sG ⊢
        have hc3 := sG _ _ hc
        refine ⟨ca, _, _, rfl, rfl, hc3, ?_, ?_⟩
        · rw [List.length_map]
          exact Nat.lt_of_lt_of_le (by omega : ts.length < 64) (by decide)
        -- what is left waiting
        have off : ∀ b o, G3 b = some o → b ≠ ca → (upd G3 ca (.lst ((ts.map fun t => V.ref t.1) ++ [.ref t]))) b = some o := fun b o e n => by rw [upd_ne n]; exact e
        have hcc : (upd G3 ca (.lst ((ts.map fun t => V.ref t.1) ++ [.ref t]))) ca = some (.lst ((ts ++ [(t, y2)]).map fun t => V.ref t.1)) := by rw [upd_same]; simp
        generalize upd G3 ca (.lst ((ts.map fun t => V.ref t.1) ++ [.ref t])) = G4 at off hcc ⊢
        have tup_ne : ∀ {b xs}, G3 b = some (.tup xs) → b ≠ ca := fun {b xs} e z => by rw [z, hc3] at e; cases e
        have hwx4 := off _ _ (sG _ _ hwx) nxc
        refine ⟨_, rfl, _, rfl, _, rfl, wx, _, rfl, SqL.of hwx4, fun y4 fy4 => ?_⟩
        rw [cut_drop V.str g0]
        have s8 := same_new (o := .lst ((u.2.drop (g x - 1).toNat).map V.str)) fy4
        refine ⟨_, _, _, y4, ts ++ [(t, y2)], rfl, fun b o e => ?_, s8 _ _ (off _ _ (sG _ _ hsd') nsc), s8 _ _ hcc, pd_snoc (pd_mono pd fun p c hp => ⟨s8 _ _ (off _ _ (sG _ _ hp.1) (tup_ne (sG _ _ hp.1))), s8 _ _ (off _ _ (sG _ _ hp.2) (tup_ne (sG _ _ hp.2)))⟩) ⟨s8 _ _ (off _ _ ht (tup_ne ht)), s8 _ _ (off _ _ hy3 (tup_ne hy3))⟩, upd_same, ?_⟩
        · exact s8 _ _ (off _ _ (sG _ _ (s6 _ _ e)) (ne_of_none e fc0))
        · exact ⟨fun z => (by rw [z, hcc] at fy4; cases fy4), nsc⟩
      · rintro σ H' ⟨v3, v7, v8, wx, ts, rfl, s6, hsd', hc, pd, hwx, nxc, nsc⟩
        rw [List.length_map, List.take_of_length_le (Nat.le_refl _)] at pd
        exact ⟨_, rfl, hQ k0 ca H' s6 fc0 ⟨ts, hc, pd⟩⟩
end
end K20
set_option Elab.async false
set_option linter.all false
set_option maxRecDepth 100000
set_option maxHeartbeats 4000000
/-! KW1: f(x, k=y) of Python's own functions: sorted(xs, reverse=True) and min(xs, default=d) of whole numbers; max of a list of pairs. -/
namespace KW1
open PySem PySem.Spec PyProof.Rows L2
section
variable {X : Cx}
/-- a call by one place and one name -/
def CallK (X : Cx) (id : String) (k : Str) (r : V → V → Hp → VK → Prop) : Prop := ∀ (pins : List (Addr × Obj)) (s : Shared) (σ : L2.St) (H : Hp) (a y : V) (u v : Value) (Q : VK), Inv X pins σ H s → RelV a u → RelV y v → r a y H Q →
  wpAny (model X.prog X.w) X.A (call (.builtin id) [u] [(k, v)]) (EP X pins σ Q) X.xe s
def tK1 (ta : TA) (tv : TE) (r : V → V → Hp → VK → Prop) : TE := fun σ H Q => ta σ H fun vs H1 => ∃ a, vs = [a] ∧ tv σ H1 fun y H2 => r a y H2 Q
theorem pe_kw1 {id : String} {x k : Str} {r : V → V → Hp → VK → Prop} {e ev : Expr} {ta : TA} {tv : TE} {p kpos pos : Pos} (hc : CallK X id k r) (hg : Gl X x) (hm : X.mg x = none) (hv : bootBuiltins x = some (.builtin id)) (ha : PA X [e] ta) (hw : PE X ev tv)
    (he : backTo pos (starEach [e] X.env) = (false, eval e X.env) :: backTo pos (starEach [] X.env) := by rfl) (hpl : (backTo pos (starEach [e] X.env)).any (·.1) = false := by rfl) (hn : x ≠ "__name__" := by decide) (hd : (x == ("__debug__" : Str)) = false := by decide) :
    PE X (.Call (.Name x p) [e] [⟨some k, ev, kpos⟩] pos) (tK1 ta tv r) := by
  refine ⟨fun pins s σ H Q I h => ?_⟩
  refine wpAny_Call_Name_kw (ld_blt I hg hm hv ?_ hn hd)
  refine PyProof.Rows.callWith_kw (thn (ha.run pos pins s σ H (fun vs H1 => ∃ a, vs = [a] ∧ tv σ H1 fun y H2 => r a y H2 Q) I h) fun us s1 ⟨vs, H1, I1, r1, q1⟩ => ?_) he hpl
  obtain ⟨a, rfl, q1⟩ := q1
  obtain ⟨u, rfl, ru⟩ := vals1 r1
  show wpAny _ _ (evalAll ((do let v ← eval ev X.env; standAt pos; pure v) :: [])) _ _ s1
  refine wpAny_evalAll_cons (wpAny_bind (thn (hw.run pins s1 σ H1 _ I1 q1) fun v s2 ⟨y, H2, I2, r2, q2⟩ => ?_))
  refine wpAny_bind (wpAny_standAt (wpAny_pure (wpAny_evalAll_nil ?_)))
  exact hc pins s2 σ H2 a y u v Q I2 ru r2 q2
/-! ### sorted(xs, reverse=True), whole numbers -/
def dscI (ns : List Int) : List Int := ns.mergeSort fun a b => decide (b ≤ a)
def rSortRev (K : PySem.W.Frag) : V → V → Hp → VK → Prop := fun a y H Q => ∃ (l : Addr) (ns : List Int), a = .ref l ∧ y = .bl true ∧ SqL K H l (ns.map V.int) ∧ ∀ p, H p = none → Q (.ref p) (upd H p (.lst ((dscI ns).map V.int)))
theorem each_ints : ∀ {ns : List Int} {us : List Value}, Vals (ns.map V.int) us → PySem.W.EachIs (fun v (n : Int) => RelV (.int n) v) us ns
  | [], _, r => by
    cases r
    exact .nil
  | n :: ns, _, r => by
    cases r with
    | cons r1 r2 => exact .cons r1 (each_ints r2)
theorem ints_each : ∀ {us : List Value} {ns : List Int}, PySem.W.EachIs (fun v (n : Int) => RelV (.int n) v) us ns → Vals (ns.map V.int) us
  | _, _, .nil => .nil
  | _, _, .cons r h => .cons r (ints_each h)
theorem ck_sortRev (hu : X.A.units + 64 < cLine) : CallK X "sorted" "reverse" (rSortRev X.K) := by
  intro pins s σ H a y u v Q I ra ry hh
  obtain ⟨l, ns, rfl, rfl, hs, q⟩ := hh
  cases ra
  cases ry
  obtain ⟨its, rv, hl, hz⟩ := I.list hs
  rw [List.length_map] at hz
  refine PySem.W.sorted_rev_data (R := fun v (n : Int) => RelV (.int n) v) (enc := fun n : Int => PyData.int n) (bs := ns) (vs := its) hl.isList (each_ints rv) ((each_ints rv).mono fun v n r => by obtain ⟨t, rfl⟩ := r; exact ⟨[], .int _ _⟩)
    (PySem.W.AllAlike.of fun _ _ => rfl) (PySem.W.Sortable.others fun _ => ⟨(nomatch ·), fun _ => (nomatch ·)⟩) hz (fun n _ => ?_) fun out lo eo => ?_
  · show X.A.units + 2 + 0 < cLine
    omega
  have eD : PySem.W.dataLe true (fun n : Int => PyData.int n) = fun a b : Int => decide (b ≤ a) := by
    rw [PySem.W.dataGe_int]
  rw [eD] at eo
  have vo := ints_each eo
  obtain ⟨ep, he'⟩ := PyProof.Rows.sortedAll_at s.heap its out.toArray
  have hlen : ((dscI ns).map V.int).length ≤ sizeLine := by
    rw [List.length_map]
    unfold dscI
    rw [(List.mergeSort_perm _ _).length_eq]
    exact hz
  exact ⟨.ref _, upd H (s.heap.objs.size + 1) (.lst ((dscI ns).map V.int)), I.laid (t' := s.toks) (fun _ _ => PyProof.Rows.sortedAll_old) (Nat.le_succ _) ⟨hlen, out, ep, vo, he'⟩, rfl, q _ (I.hok.fresh (Nat.le_succ _))⟩
/-! ### min(xs, default=d) -/
theorem reads_ints {h : Heap} : ∀ {ns : List Int} {us : List Value}, Vals (ns.map V.int) us → ReadsAll h us (ns.map PyData.int) []
  | [], _, r => by
    cases r
    exact .nil
  | n :: ns, _, r => by
    cases r with
    | cons r1 r2 =>
      obtain ⟨t, rfl⟩ := r1
      exact .cons (as := []) (.int _ _) (reads_ints r2)
theorem alike_all (ns : List Int) : PySem.W.AlikeAll (ns.map PyData.int) := ⟨fun x hx y hy => by
    obtain ⟨_, _, rfl⟩ := List.mem_map.mp hx
    obtain ⟨_, _, rfl⟩ := List.mem_map.mp hy
    rfl, fun x hx => by
    obtain ⟨_, _, rfl⟩ := List.mem_map.mp hx
    exact (nomatch ·)⟩
theorem depth0 : ∀ ns : List Int, PyData.depthAll (ns.map PyData.int) = 0
  | [] => by simp [PyData.depthAll]
  | n :: ns => by
    rw [List.map_cons, PyData.depthAll, depth0 ns]
    simp [PyData.depth]
def rMinDef (K : PySem.W.Frag) : V → V → Hp → VK → Prop := fun a y H Q => ∃ (l : Addr) (ns : List Int), a = .ref l ∧ SqL K H l (ns.map V.int) ∧ (ns = [] → Q y H) ∧ ∀ n ns', ns = n :: ns' → Q (.int (ns'.foldl min n)) H
theorem ck_minDef (hc : X.calm = true) (hu : X.A.units + 64 < cLine) : CallK X "min" "default" (rMinDef X.K) := by
  intro pins s σ H a y u v Q I ra ry hh
  obtain ⟨l, ns, rfl, hs, q0, q1⟩ := hh
  cases ra
  obtain ⟨its, rv, hl, hz⟩ := I.list hs
  refine PySem.W.min_list_default (I.ok.hd hc) hl.isList (by simpa using reads_ints (h := s.heap) rv) (alike_all ns) (by rw [depth0]; omega) (fun e h' tk hk => ?_) fun y' ys i v' h' tk bs e hi hr hk => ?_
  · have : ns = [] := List.map_eq_nil_iff.mp e
    exact ⟨y, H, I.kept hk, ry, q0 this⟩
  · match ns, e with
    | n :: ns, e =>
      have e' := List.cons.inj e
      rw [← e'.1, ← e'.2, PySem.W.minD_ints] at hr
      cases hr with
      | int i t => exact ⟨.int _, H, I.kept hk, ⟨t, rfl⟩, q1 n ns rfl⟩
end
end KW1
set_option Elab.async false
set_option linter.all false
set_option maxRecDepth 100000
set_option maxHeartbeats 4000000
namespace K20
open KW1 (dscI)
/-! ### the most seats of so many -/
def stp (x : Int) (t : Nat → Int) : Nat → Int
  | 0 => t 0
  | k + 1 => if 0 ≤ t k then max (t (k + 1)) (t k + x) else t (k + 1)
def tb : List Int → Nat → Int
  | [] => fun k => if k = 0 then 0 else -1
  | x :: l => stp x (tb l)
theorem dsc_perm (l : List Int) : (dscI l).Perm l := List.mergeSort_perm _ _
theorem dsc_pw (l : List Int) : (dscI l).Pairwise fun a b => b ≤ a := by
  have h := List.pairwise_mergeSort (le := fun a b : Int => decide (b ≤ a)) (fun a b c h1 h2 => decide_eq_true (by have := of_decide_eq_true h1; have := of_decide_eq_true h2; omega)) (fun a b => by
    by_cases h : b ≤ a
    · simp [h]
    · have : a ≤ b := by omega
      simp [this]) l
  exact h.imp fun {a b} z => of_decide_eq_true z
theorem sum_nn {l : List Int} (h : ∀ x ∈ l, 0 ≤ x) : 0 ≤ l.sum := by
  induction l with
  | nil => exact Int.le_refl _
  | cons x l ih =>
    have := h x List.mem_cons_self
    have := ih fun y hy => h y (List.mem_cons_of_mem _ hy)
    rw [List.sum_cons]
    omega
theorem take_sum {l : List Int} {k : Nat} {x : Int} (h : l[k]? = some x) : (l.take (k + 1)).sum = (l.take k).sum + x := by
  rw [List.take_succ, h, List.sum_append]
  simp
theorem take_app {A C : List Int} (j : Nat) : (A ++ C).take (A.length + j) = A ++ C.take j := by
  rw [List.take_append, List.take_of_length_le (by omega), Nat.add_sub_cancel_left]
theorem tb_eq : ∀ (l S : List Int), S.Perm l → S.Pairwise (fun a b => b ≤ a) → (∀ x ∈ l, 0 ≤ x) → ∀ k, tb l k = if k ≤ l.length then (S.take k).sum else -1
  | [], S, pm, _, _, k => by
    rw [List.Perm.eq_nil pm]
    match k with
    | 0 => rfl
    | k + 1 => rfl
  | x :: l, S, pm, pw, nn, k => by
    have hx : x ∈ S := pm.symm.subset List.mem_cons_self
    obtain ⟨A, B, rfl⟩ := List.append_of_mem hx
    have pm0 : (A ++ B).Perm l := (List.perm_middle.symm.trans pm).cons_inv
    rw [List.pairwise_append, List.pairwise_cons] at pw
    obtain ⟨pA, ⟨xB, pB⟩, pAB⟩ := pw
    have nnl : ∀ y ∈ l, 0 ≤ y := fun y hy => nn y (List.mem_cons_of_mem _ hy)
    have nx := nn x List.mem_cons_self
    have ih := tb_eq l (A ++ B) pm0 (List.pairwise_append.mpr ⟨pA, pB, fun a ha b hb => pAB a ha b (List.mem_cons_of_mem _ hb)⟩) nnl
    have ll : (A ++ B).length = l.length := pm0.length_eq
    rw [List.length_append] at ll
    show stp x (tb l) k = _
    have pos : ∀ j, 0 ≤ ((A ++ B).take j).sum := fun j => sum_nn fun y hy => nnl y (pm0.subset (List.mem_of_mem_take hy))
    match k with
    | 0 =>
      show tb l 0 = _
      rw [ih]
      simp
    | k + 1 =>
      show (if 0 ≤ tb l k then max (tb l (k + 1)) (tb l k + x) else tb l (k + 1)) = _
      rw [ih k, ih (k + 1), List.length_cons]
      by_cases hk : k ≤ l.length
      · rw [if_pos hk, if_pos (pos k), if_pos (by omega : k + 1 ≤ l.length + 1)]
        by_cases ka : k + 1 ≤ A.length
        · -- among the greater ones
          obtain ⟨a, ha⟩ : ∃ a, A[k]? = some a := ⟨_, List.getElem?_eq_getElem ka⟩
          have xa : x ≤ a := pAB a (List.mem_of_getElem? ha) x List.mem_cons_self
          rw [if_pos (by omega)]
          have e1 : (A ++ B).take (k + 1) = A.take (k + 1) := List.take_append_of_le_length ka
          have e2 : (A ++ B).take k = A.take k := List.take_append_of_le_length (by omega)
          have e3 : (A ++ x :: B).take (k + 1) = A.take (k + 1) := List.take_append_of_le_length ka
          rw [e1, e2, e3, take_sum ha]
          exact Int.max_eq_left (by omega)
        · obtain ⟨m, rfl⟩ : ∃ m, k = A.length + m := ⟨k - A.length, by omega⟩
          have e2 : (A ++ B).take (A.length + m) = A ++ B.take m := take_app m
          have e3 : (A ++ x :: B).take (A.length + m + 1) = A ++ x :: B.take m := by
            rw [show A.length + m + 1 = A.length + (m + 1) by omega, take_app]
            rfl
          have e1 : (A ++ B).take (A.length + m + 1) = A ++ B.take (m + 1) := by
            rw [show A.length + m + 1 = A.length + (m + 1) by omega, take_app]
          rw [e1, e2, e3, List.sum_append, List.sum_append, List.sum_append, List.sum_cons]
          by_cases hm : A.length + m + 1 ≤ l.length
          · rw [if_pos hm]
            obtain ⟨b, hb⟩ : ∃ b, B[m]? = some b := ⟨_, List.getElem?_eq_getElem (by omega)⟩
            have bx := xB b (List.mem_of_getElem? hb)
            rw [take_sum hb]
            rw [Int.max_eq_right (by omega)]
            omega
          · rw [if_neg hm]
            have h1 := pos (A.length + m)
            rw [e2, List.sum_append] at h1
            rw [Int.max_eq_right (by omega)]
            omega
      · rw [if_neg hk, if_neg (by omega), if_neg (by omega), if_neg (by omega)]
/-! ### how few -/
def cnt (n : Int) : List Int → Nat
  | [] => 0
  | m :: ms => if n ≤ 0 then 0 else 1 + cnt (n - m) ms
theorem cnt_cons (n m : Int) (ms : List Int) : cnt n (m :: ms) = if n ≤ 0 then 0 else 1 + cnt (n - m) ms := rfl
theorem cnt_lt (S : List Int) : ∀ (n : Int) (j : Nat), j < cnt n S → (S.take j).sum < n := by
  induction S with
  | nil =>
    intro n j h
    exact absurd h (Nat.not_lt_zero _)
  | cons m S ih =>
    intro n j h
    unfold cnt at h
    by_cases n0 : n ≤ 0
    · rw [if_pos n0] at h
      exact absurd h (Nat.not_lt_zero _)
    · rw [if_neg n0] at h
      match j with
      | 0 =>
        show (0 : Int) < n
        omega
      | j + 1 =>
        have := ih (n - m) j (by omega)
        rw [List.take_succ_cons, List.sum_cons]
        omega
theorem cnt_le (S : List Int) : ∀ n : Int, cnt n S ≤ S.length := by
  induction S with
  | nil => intro n; exact Nat.le_refl _
  | cons m S ih =>
    intro n
    unfold cnt
    have := ih (n - m)
    split
    · exact Nat.zero_le _
    · rw [List.length_cons]
      omega
theorem cnt_at (S : List Int) : ∀ n : Int, n ≤ S.sum → n ≤ (S.take (cnt n S)).sum := by
  induction S with
  | nil =>
    intro n h
    exact h
  | cons m S ih =>
    intro n h
    unfold cnt
    by_cases n0 : n ≤ 0
    · rw [if_pos n0]
      exact n0
    · rw [if_neg n0, Nat.add_comm, List.take_succ_cons, List.sum_cons]
      rw [List.sum_cons] at h
      have := ih (n - m) (by omega)
      omega
end K20
set_option Elab.async false
set_option linter.all false
set_option maxRecDepth 100000
set_option maxHeartbeats 4000000
namespace K20
open PySem PySem.Spec PyProof.Rows L2
open C8 (Cal Mak Met pe_c pe_mk pe_mt pe_mt0)
open KW1 (dscI)
/-- all seats -/
def sts (F L : List Str) (g : Str → Int) : List Int := F.map fun x => rm L g x
def lac (F L : List Str) (g : Str → Int) : Int := if ((F.length : Int) - (sts F L g).sum) > 0 then (F.length : Int) - (sts F L g).sum else 0
section
variable {P : Program} {w : World} {K : PySem.W.Frag} {mg : Str → Option Value} {base : Heap} {f N fN : Addr} {fd fdN : FuncData}
def spLa : Sp := fun vs H Q _ => ∃ (a d : Addr) (F L : List Str) (g : Str → Int), vs = [.ref a, .ref d] ∧ H a = some (.lst (F.map V.str)) ∧ H d = some (.dK (idK L g)) ∧ F.length ≤ 60 ∧ ∀ H', Same H H' → Q (.int (lac F L g)) H'
theorem ok_la (Fd : Dn K d_lacking f fd) (b : Bl mg) (b2 : B2 mg) (cS : Cal P w K mg base 1 "seats_of" spSo []) : FnOk P w K mg base CX0 2 f fd ["riders", "seats"] spLa := by
  refine Fd.ok sc_lacking (fun vs H Q E h => ?_) (fun cdv A outer s H vs Q E hr h => ?_)
  · obtain ⟨_, _, _, _, _, rfl, _⟩ := h
    rfl
  · obtain ⟨a, d, F, L, g, rfl, ha, hd, lF, hQ⟩ := h
    refine ⟨_, PSs.nox (pss_one (ps_ret (pe_callB (call_max2 rfl) rfl b.max boot_max (pa_cons pe_int (pa_cons (pe_op op_sub (pe_callB call_len_seq rfl b.len boot_len (pa_cons (pv 0) pa_nil)) (pe_callB (cr_sum rfl) rfl b2.sum boot_sum (pa_cons (pe_c cS hr (by decide) rfl (pa_cons (pv 0) (pa_cons (pv 1) pa_nil))) pa_nil))) pa_nil))))), ?_⟩
    refine ⟨_, rfl, a, _, rfl, .inl (SqL.of ha), _, rfl, _, rfl, a, d, F, L, g, rfl, ha, hd, lF, fun o H1 s1 fo ho => ?_⟩
    refine ⟨o, _, rfl, SqL.of ho, _, _, rfl, rfl, _, _, rfl, ?_⟩
    have e := hQ H1 s1
    unfold lac sts at e
    rw [List.length_map]
    exact e
def spFe (N : Addr) : Sp := fun vs H Q E => ∃ (a d : Addr) (F L : List Str) (g : Str → Int), vs = [.ref a, .ref d] ∧ H a = some (.lst (F.map V.str)) ∧ H d = some (.dK (idK L g)) ∧ F.length ≤ 60 ∧
  (lac F L g ≤ 0 → ∀ H', Same H H' → Q (.int ((cnt (F.length : Int) (dscI (sts F L g)) : Nat) : Int)) H') ∧
  (0 < lac F L g → ∀ dx H', Same H H' → H dx = none → H' dx = some (.xd [("lack", .int (lac F L g))]) → E (.ref N) (some dx) H')
theorem ok_fe (Fd : Dn K d_fewest f fd) (b : Bl mg) (b2 : B2 mg) (T : KnS K mg N fN) (cS : Cal P w K mg base 1 "seats_of" spSo []) (cL : Cal P w K mg base 2 "lacking" spLa []) (FN : FnOk P w K mg base CX0 1 fN fdN ["self", "lack"] (spNs N)) (bN : Binds K fdN ["self", "lack"] []) :
    FnOk P w K mg base (L2.CX P w) 4 f fd ["riders", "seats"] (spFe N) := by
  refine Fd.ok sc_fewest (fun vs H Q E h => ?_) (fun cdv A outer s H vs Q E hr h => ?_)
  · obtain ⟨_, _, _, _, _, rfl, _⟩ := h
    rfl
  · obtain ⟨a, d, F, L, g, rfl, ha, hd, lF, hQ, hE⟩ := h
    have hu64 : (A.deeper (envOfC d_fewest.qual d_fewest.scope s.heap.objs.size f cdv)).units + 64 < cLine := by have := hr.un; omega
    refine ⟨_, pss_cons (ps_set (i := 2) sc_fewest.nd rfl (.inl rfl) (pe_c cL hr (by decide) rfl (pa_cons (pv 0) (pa_cons (pv 1) pa_nil))))
      (pss_cons (ps_if (pt_cmpR op_gt (pv 2) pe_int (nomark _)) (pss_one (ps_raise rfl (takes_of rfl rfl rfl rfl) (GX.pmk_gx PySem.F.excBase_IndexError T.gx T.iC T.tI FN (hr.mono (by decide)) bN .nil pass0 rfl T.g (pa_cons (pv 2) pa_nil)))) pss_nil)
      (pss_cons (ps_set (i := 3) sc_fewest.nd rfl (.inl rfl) pe_int)
      (pss_cons (ps_set (i := 4) sc_fewest.nd rfl (.inl rfl) (pe_callB call_len_seq rfl b.len boot_len (pa_cons (pv 0) pa_nil)))
      (pss_cons (ps_for (passes_of rfl) rfl (pi_list (KW1.pe_kw1 (KW1.ck_sortRev hu64) rfl b2.srt boot_sorted (pa_cons (pe_c cS hr (by decide) rfl (pa_cons (pv 0) (pa_cons (pv 1) pa_nil))) pa_nil) pe_bl)) (pg_name (i := 5) sc_fewest.nd rfl (.inl rfl))
        (pss_cons (ps_if (pt_cmpR op_le (pv 4) pe_int (nomark _)) (pss_one ps_break) pss_nil)
        (pss_cons (ps_aug (i := 3) sc_fewest.nd rfl (.inl rfl) pe_int ip_add)
        (pss_one (ps_aug (i := 4) sc_fewest.nd rfl (.inl rfl) (pv 5) ip_sub)))))
      (pss_one (ps_ret (pv 3))))))), ?_⟩
    refine ⟨_, rfl, _, rfl, a, d, F, L, g, rfl, ha, hd, lF, fun H1 s1 => ?_⟩
    refine ⟨_, rfl, _, _, rfl, rfl, _, rfl, ?_⟩
    refine ite2 (fun c1 => ?_) (fun c1 => ?_)
    · have k0 : 0 < lac F L g := of_decide_eq_true c1
      exact ⟨_, rfl, by show 1 ≤ 1000; decide, fun x hx => ⟨x, _, rfl, upd_same, fun q hq ne => ⟨rfl, q, _, upd_same, (by rw [upd_ne ne]; exact upd_same), (by rw [upd_ne ne] at hq; exact hq), raiseS (hE k0) s1 hx hq ne⟩⟩⟩
    have k0 : lac F L g ≤ 0 := by
      have : ¬ 0 < lac F L g := fun z => c1 (decide_eq_true z)
      omega
    refine ⟨_, rfl, a, _, rfl, .inl (SqL.of (s1 _ _ ha)), ?_⟩
    refine ⟨_, rfl, _, rfl, a, d, F, L, g, rfl, s1 _ _ ha, s1 _ _ hd, lF, fun o H2 s2 fo ho => ?_⟩
    refine ⟨_, rfl, o, _, rfl, rfl, SqL.of ho, fun q fq => ?_⟩
    rw [show (F.map fun x => rm L g x) = sts F L g from rfl]
    have s3 := same_new (o := .lst ((dscI (sts F L g)).map V.int)) fq
    have hq : (upd H2 q (.lst ((dscI (sts F L g)).map V.int))) q = some (.lst ((dscI (sts F L g)).map V.int)) := upd_same
    have hQ := hQ k0 _ ((s1.trans s2).trans s3)
    generalize upd H2 q (.lst ((dscI (sts F L g)).map V.int)) = H3 at s3 hq hQ ⊢
    generalize dscI (sts F L g) = S at hq hQ
    refine ⟨q, rfl, ⟨_, SqL.of hq⟩, for_list (K := K) (xs := S.map V.int) (fun i σ H' => H' = H3 ∧ ∃ v5, σ = [some (.ref a), some (.ref d), some (.int (lac F L g)), some (.int (i : Int)), some (.int ((((F.map V.str).length : Nat) : Int) - (S.take i).sum)), v5] ∧ cnt (F.length : Int) S = i + cnt ((F.length : Int) - (S.take i).sum) (S.drop i)) ?_ ?_ ?_ ?_⟩
    · refine ⟨rfl, none, ?_, ?_⟩
      · simp
        rfl
      · simp
    · rintro i σ H' _ ⟨rfl, _⟩
      exact SqL.of hq
    · rintro i v σ H' hv ⟨rfl, v5, rfl, ec⟩
      rw [List.getElem?_map] at hv
      obtain ⟨m, hm, rfl⟩ := Option.map_eq_some_iff.mp hv
      have il := (List.getElem?_eq_some_iff.mp hm).1
      have ed : S.drop i = m :: S.drop (i + 1) := by
        rw [List.drop_eq_getElem_cons il]
        rw [(List.getElem?_eq_some_iff.mp hm).2]
      have et := take_sum hm
      rw [ed] at ec
      rw [cnt_cons] at ec
      refine ⟨_, rfl, _, _, rfl, rfl, _, rfl, ?_⟩
      refine ite2 (fun c1 => ?_) (fun c1 => ?_)
      · have l0 : (F.length : Int) - (S.take i).sum ≤ 0 := by
          have := of_decide_eq_true c1
          rw [List.length_map] at this
          exact this
        rw [if_pos l0] at ec
        rw [ec] at hQ
        exact ⟨_, rfl, hQ⟩
      · have l0 : ¬ (F.length : Int) - (S.take i).sum ≤ 0 := fun z => c1 (decide_eq_true (by rw [List.length_map]; exact z))
        rw [if_neg l0] at ec
        refine ⟨_, rfl, _, _, rfl, rfl, ?_⟩
        refine ⟨_, rfl, _, rfl, _, _, rfl, rfl, ?_⟩
        refine ⟨rfl, some (.int m), ?_, ?_⟩
        · rw [et, ← Int.sub_sub]
          rfl
        · rw [et, ec, ← Int.sub_sub]
          omega
    · rintro σ H' ⟨rfl, v5, rfl, ec⟩
      rw [List.length_map] at ec ⊢
      rw [List.drop_length] at ec
      have ec : cnt (F.length : Int) S = S.length := ec
      rw [ec] at hQ
      exact ⟨_, rfl, hQ⟩
end
end K20
set_option Elab.async false
set_option linter.all false
set_option maxRecDepth 100000
set_option maxHeartbeats 4000000
namespace K20
open PySem PySem.Spec PyProof.Rows L2
open KW1 (dscI)
/-! ### the best of so many -/
def best (k : Nat) (l : List Int) : Int := ((dscI l).take k).sum
theorem perm_sum {l m : List Int} (h : l.Perm m) : l.sum = m.sum := by
  induction h with
  | nil => rfl
  | cons x _ ih => rw [List.sum_cons, List.sum_cons, ih]
  | swap x y l => simp only [List.sum_cons]; omega
  | trans _ _ h1 h2 => exact h1.trans h2
theorem best_tb {l : List Int} (nn : ∀ x ∈ l, 0 ≤ x) {k : Nat} (h : k ≤ l.length) : tb l k = best k l := by
  rw [tb_eq l (dscI l) (dsc_perm l) (dsc_pw l) nn k, if_pos h]
  rfl
theorem best_all {l : List Int} {k : Nat} (h : l.length ≤ k) : best k l = l.sum := by
  unfold best
  rw [List.take_of_length_le (by rw [(dsc_perm l).length_eq]; exact h), perm_sum (dsc_perm l)]
theorem best_nn {l : List Int} (nn : ∀ x ∈ l, 0 ≤ x) (k : Nat) : 0 ≤ best k l := sum_nn fun x hx => nn x ((dsc_perm l).subset (List.mem_of_mem_take hx))
theorem best_zero (l : List Int) : best 0 l = 0 := rfl
theorem best_nil (k : Nat) : best k [] = 0 := by rw [best_all (Nat.zero_le _)]; rfl
theorem tb_over {l : List Int} (nn : ∀ x ∈ l, 0 ≤ x) {k : Nat} (h : l.length < k) : tb l k = -1 := by
  rw [tb_eq l (dscI l) (dsc_perm l) (dsc_pw l) nn k, if_neg (by omega)]
/-- with one more: with it, or without -/
theorem best_cons {x : Int} {l : List Int} (nx : 0 ≤ x) (nn : ∀ y ∈ l, 0 ≤ y) (k : Nat) : best (k + 1) (x :: l) = if k + 1 ≤ l.length then max (best (k + 1) l) (x + best k l) else x + best k l := by
  have nn' : ∀ y ∈ x :: l, 0 ≤ y := fun y hy => by
    rcases List.mem_cons.mp hy with rfl | hy
    · exact nx
    · exact nn y hy
  by_cases h : k ≤ l.length
  · have e := best_tb nn' (k := k + 1) (by rw [List.length_cons]; omega)
    rw [← e]
    show (if 0 ≤ tb l k then max (tb l (k + 1)) (tb l k + x) else tb l (k + 1)) = _
    rw [best_tb nn h, if_pos (best_nn nn k)]
    by_cases h2 : k + 1 ≤ l.length
    · rw [if_pos h2, best_tb nn h2, Int.add_comm (best k l) x]
    · rw [if_neg h2, tb_over nn (by omega)]
      have := best_nn nn k
      omega
  · rw [if_neg (by omega), best_all (by rw [List.length_cons]; omega), best_all (by omega), List.sum_cons]
theorem best_skip {x : Int} {l : List Int} (nx : 0 ≤ x) (nn : ∀ y ∈ l, 0 ≤ y) (k : Nat) : best k l ≤ best k (x :: l) := by
  match k with
  | 0 => exact Int.le_refl _
  | k + 1 =>
    rw [best_cons nx nn]
    by_cases h : k + 1 ≤ l.length
    · rw [if_pos h]
      omega
    · rw [if_neg h, best_all (l := l) (k := k + 1) (by omega), best_all (l := l) (k := k) (by omega)]
      omega
theorem best_take {x : Int} {l : List Int} (nx : 0 ≤ x) (nn : ∀ y ∈ l, 0 ≤ y) (k : Nat) : x + best k l ≤ best (k + 1) (x :: l) := by
  rw [best_cons nx nn]
  split <;> omega
theorem best_or {x : Int} {l : List Int} (nx : 0 ≤ x) (nn : ∀ y ∈ l, 0 ≤ y) {k : Nat} {v : Int} (h : v ≤ best (k + 1) (x :: l)) (h2 : x + best k l < v) : v ≤ best (k + 1) l := by
  rw [best_cons nx nn] at h
  split at h <;> omega
theorem best_mono {l : List Int} (nn : ∀ y ∈ l, 0 ≤ y) : ∀ {j k : Nat}, j ≤ k → best j l ≤ best k l := by
  intro j k h
  unfold best
  have e : ((dscI l).take k).sum = (((dscI l).take k).take j).sum + (((dscI l).take k).drop j).sum := by rw [← List.sum_append, List.take_append_drop]
  rw [List.take_take, Nat.min_eq_left h] at e
  have := sum_nn (l := ((dscI l).take k).drop j) fun x hx => nn x ((dsc_perm l).subset (List.mem_of_mem_take (List.mem_of_mem_drop hx)))
  omega
theorem dsc_eq {l m : List Int} (h : l.Perm m) : dscI l = dscI m := by
  have pm : (dscI l).Perm (dscI m) := ((dsc_perm l).trans h).trans (dsc_perm m).symm
  exact List.Perm.eq_of_pairwise (le := fun a b : Int => b ≤ a) (fun a b _ _ h1 h2 => Int.le_antisymm h2 h1) (dsc_pw l) (dsc_pw m) pm
theorem best_perm {l m : List Int} (h : l.Perm m) (k : Nat) : best k l = best k m := by
  unfold best
  rw [dsc_eq h]
section
variable {s : Str → Int}
/-- some of a list, not beyond the best -/
theorem sub_best (nn : ∀ x, 0 ≤ s x) {A xs : List Str} (h : A.Sublist xs) : (A.map s).sum ≤ best A.length (xs.map s) := by
  have nl : ∀ (l : List Str), ∀ y ∈ l.map s, 0 ≤ y := fun l y hy => by
    obtain ⟨x, _, rfl⟩ := List.mem_map.mp hy
    exact nn x
  induction h with
  | slnil => exact Int.le_refl _
  | @cons l₁ l₂ a _ ih =>
    rw [List.map_cons]
    exact Int.le_trans ih (best_skip (nn a) (nl l₂) _)
  | @cons_cons l₁ l₂ a _ ih =>
    rw [List.map_cons, List.map_cons, List.sum_cons, List.length_cons]
    have := best_take (nn a) (nl l₂) l₁.length
    omega
/-- who drives, one behind another -/
def gr (s : Str → Int) : List Str → Nat → Int → List Str
  | [], _, _ => []
  | x :: r, m, l => if 0 < m ∧ l ≤ s x + best (m - 1) (r.map s) then x :: gr s r (m - 1) (l - s x) else gr s r m l
theorem gr_cons (x : Str) (r : List Str) (m : Nat) (l : Int) : gr s (x :: r) m l = if 0 < m ∧ l ≤ s x + best (m - 1) (r.map s) then x :: gr s r (m - 1) (l - s x) else gr s r m l := rfl
theorem gr_nil (m : Nat) (l : Int) : gr s [] m l = [] := rfl
theorem gr_sub : ∀ (xs : List Str) (m : Nat) (l : Int), (gr s xs m l).Sublist xs ∧ (gr s xs m l).length ≤ m
  | [], m, l => ⟨List.Sublist.slnil, Nat.zero_le _⟩
  | x :: r, m, l => by
    unfold gr
    split
    · rename_i h
      obtain ⟨h1, h2⟩ := gr_sub r (m - 1) (l - s x)
      exact ⟨h1.cons₂ x, by rw [List.length_cons]; omega⟩
    · obtain ⟨h1, h2⟩ := gr_sub r m l
      exact ⟨h1.cons x, h2⟩
theorem gr_sum (nn : ∀ x, 0 ≤ s x) : ∀ (xs : List Str) (m : Nat) (l : Int), l ≤ best m (xs.map s) → l ≤ ((gr s xs m l).map s).sum
  | [], m, l, h => by
    rw [List.map_nil, best_nil] at h
    exact h
  | x :: r, m, l, h => by
    have nl : ∀ y ∈ r.map s, 0 ≤ y := fun y hy => by
      obtain ⟨z, _, rfl⟩ := List.mem_map.mp hy
      exact nn z
    unfold gr
    split
    · rename_i c
      have ih := gr_sum nn r (m - 1) (l - s x) (by omega)
      rw [List.map_cons, List.sum_cons]
      omega
    · rename_i c
      refine gr_sum nn r m l ?_
      match m with
      | 0 =>
        rw [best_zero] at h ⊢
        exact h
      | m + 1 =>
        rw [List.map_cons] at h
        exact best_or (nn x) nl h (by
          refine Int.lt_of_not_ge fun z => c ⟨Nat.succ_pos _, z⟩)
/-- whoever stands ahead of one who drives, and doesn't, can't do it in that one's place -/
theorem gr_swap (nn : ∀ x, 0 ≤ s x) : ∀ (xs : List Str) (m : Nat) (l : Int) {A B : List Str} {o p : Str}, xs = A ++ o :: B → xs.Nodup → o ∉ gr s xs m l → p ∈ B → p ∈ gr s xs m l → ((gr s xs m l).map s).sum - s p + s o < l
  | [], m, l, A, B, o, p, e, _, _, _, _ => by
    cases A <;> cases e
  | x :: r, m, l, A, B, o, p, e, nd, no, hp, hg => by
    obtain ⟨nx, nr⟩ := List.nodup_cons.mp nd
    cases A with
    | nil =>
      obtain ⟨rfl, rfl⟩ := List.cons.inj e
      have hc : ¬ (0 < m ∧ l ≤ s x + best (m - 1) (r.map s)) := fun c => by
        unfold gr at no
        rw [if_pos c] at no
        exact no List.mem_cons_self
      unfold gr at hg ⊢
      rw [if_neg hc] at hg ⊢
      obtain ⟨h1, h2⟩ := gr_sub (s := s) r m l
      have lp := List.length_pos_of_mem hg
      have h3 : s x + best (m - 1) (r.map s) < l := Int.lt_of_not_ge fun z => hc ⟨by omega, z⟩
      have h4 := sub_best nn (List.Sublist.trans (List.erase_sublist (a := p)) h1)
      have h5 : (((gr s r m l).erase p).map s).sum = ((gr s r m l).map s).sum - s p := by
        have := perm_sum ((List.perm_cons_erase hg).map s)
        rw [List.map_cons, List.sum_cons] at this
        omega
      rw [List.length_erase_of_mem hg] at h4
      have nl : ∀ y ∈ r.map s, 0 ≤ y := fun y hy => by
        obtain ⟨z, _, rfl⟩ := List.mem_map.mp hy
        exact nn z
      have h6 := best_mono nl (j := (gr s r m l).length - 1) (k := m - 1) (by omega)
      omega
    | cons a A =>
      obtain ⟨rfl, e2⟩ := List.cons.inj (show x :: r = a :: (A ++ o :: B) from e)
      have hpr : p ∈ r := by rw [e2]; simp [hp]
      have px : p ≠ x := fun z => nx (z ▸ hpr)
      by_cases c : 0 < m ∧ l ≤ s x + best (m - 1) (r.map s)
      · unfold gr at no hg ⊢
        rw [if_pos c] at no hg ⊢
        have ih := gr_swap nn r (m - 1) (l - s x) e2 nr (fun z => no (List.mem_cons_of_mem _ z)) hp (by
          rcases List.mem_cons.mp hg with z | z
          · exact absurd z px
          · exact z)
        rw [List.map_cons, List.sum_cons]
        omega
      · unfold gr at no hg ⊢
        rw [if_neg c] at no hg ⊢
        exact gr_swap nn r m l e2 nr no hp hg
end
/-! ### who is chosen -/
/-- what is known of those who are chosen, of the row Z -/
structure Chs (s : Str → Int) (Z D : List Str) (n : Int) (c : Nat) : Prop where
  sub : D.Sublist Z
  sum : n ≤ (D.map s).sum
  len : D.length = c
  few : ∀ j, j < c → best j (Z.map s) < n
  swap : ∀ {A B : List Str} {o p : Str}, Z = A ++ o :: B → o ∉ D → p ∈ B → p ∈ D → (D.map s).sum - s p + s o < n
theorem chs_gr {s : Str → Int} (nn : ∀ x, 0 ≤ s x) {Z : List Str} (nd : Z.Nodup) {n : Int} (h : n ≤ (Z.map s).sum) : Chs s Z (gr s Z (cnt n (dscI (Z.map s))) n) n (cnt n (dscI (Z.map s))) := by
  have few : ∀ j, j < cnt n (dscI (Z.map s)) → best j (Z.map s) < n := fun j hj => cnt_lt _ _ _ hj
  have hb : n ≤ best (cnt n (dscI (Z.map s))) (Z.map s) := cnt_at _ _ (by rw [perm_sum (dsc_perm _)]; exact h)
  obtain ⟨h1, h2⟩ := gr_sub (s := s) Z (cnt n (dscI (Z.map s))) n
  have h3 := gr_sum nn Z _ n hb
  refine ⟨h1, h3, ?_, few, fun e no hp hg => gr_swap nn Z _ n e nd no hp hg⟩
  refine Nat.le_antisymm h2 (Nat.le_of_not_lt fun z => ?_)
  have h4 := few _ z
  have h5 := sub_best nn h1
  omega
/-- one less are too few -/
theorem Chs.less {s : Str → Int} (nn : ∀ x, 0 ≤ s x) {Z D : List Str} {n : Int} {c : Nat} (h : Chs s Z D n c) {x : Str} (hx : x ∈ D) : (D.map s).sum - s x < n := by
  have h1 := sub_best nn (List.Sublist.trans (List.erase_sublist (a := x)) h.sub)
  have h2 : ((D.erase x).map s).sum = (D.map s).sum - s x := by
    have := perm_sum ((List.perm_cons_erase hx).map s)
    rw [List.map_cons, List.sum_cons] at this
    omega
  rw [List.length_erase_of_mem hx, h.len] at h1
  have lp := List.length_pos_of_mem hx
  rw [h.len] at lp
  have := h.few (c - 1) (by omega)
  omega
theorem Chs.pos {s : Str → Int} (nn : ∀ x, 0 ≤ s x) {Z D : List Str} {n : Int} {c : Nat} (h : Chs s Z D n c) {x : Str} (hx : x ∈ D) : 1 ≤ s x := by
  have h1 := h.less nn hx
  have h2 := h.sum
  omega
end K20
set_option linter.all false
namespace KM
/-- the signed common part -/
def sg (t b : Int) : Int := if b < 0 then -(Int.gcd t b : Int) else (Int.gcd t b : Int)
/-- a fraction in lowest terms -/
def low (t b : Int) : Int × Int := (t.fdiv (sg t b), b.fdiv (sg t b))
theorem gcd_pos {t b : Int} (h : b ≠ 0) : 0 < Int.gcd t b := Int.gcd_pos_of_ne_zero_right t h
theorem sg_ne {t b : Int} (h : b ≠ 0) : sg t b ≠ 0 := by
  have := gcd_pos (t := t) h
  unfold sg
  split <;> omega
theorem sg_dvd_left (t b : Int) : sg t b ∣ t := by
  unfold sg
  split
  · exact Int.neg_dvd.mpr (Int.gcd_dvd_left ..)
  · exact Int.gcd_dvd_left ..
theorem sg_dvd_right (t b : Int) : sg t b ∣ b := by
  unfold sg
  split
  · exact Int.neg_dvd.mpr (Int.gcd_dvd_right ..)
  · exact Int.gcd_dvd_right ..
theorem low_top {t b : Int} : sg t b * (low t b).1 = t := by
  show sg t b * t.fdiv (sg t b) = t
  rw [Int.fdiv_eq_ediv_of_dvd (sg_dvd_left t b)]
  exact Int.mul_ediv_cancel' (sg_dvd_left t b)
theorem low_bot {t b : Int} : sg t b * (low t b).2 = b := by
  show sg t b * b.fdiv (sg t b) = b
  rw [Int.fdiv_eq_ediv_of_dvd (sg_dvd_right t b)]
  exact Int.mul_ediv_cancel' (sg_dvd_right t b)
theorem sg_abs (t b : Int) : (sg t b).natAbs = Int.gcd t b := by
  unfold sg
  split <;> simp
theorem low_pos {t b : Int} (h : b ≠ 0) : 0 < (low t b).2 := by
  have e := low_bot (t := t) (b := b)
  have g := gcd_pos (t := t) h
  by_cases hb : b < 0
  · have hs : sg t b < 0 := by unfold sg; rw [if_pos hb]; omega
    refine Int.lt_of_not_ge fun hc => ?_
    have := Int.mul_nonneg_of_nonpos_of_nonpos (Int.le_of_lt hs) hc
    omega
  · have hs : 0 < sg t b := by unfold sg; rw [if_neg hb]; omega
    refine Int.lt_of_not_ge fun hc => ?_
    have := Int.mul_nonpos_of_nonneg_of_nonpos (Int.le_of_lt hs) hc
    omega
theorem low_cop {t b : Int} (h : b ≠ 0) : Int.gcd (low t b).1 (low t b).2 = 1 := by
  have e : Int.gcd (sg t b * (low t b).1) (sg t b * (low t b).2) = (sg t b).natAbs * Int.gcd (low t b).1 (low t b).2 := Int.gcd_mul_left ..
  rw [low_top, low_bot, sg_abs] at e
  have g := gcd_pos (t := t) h
  have : Int.gcd t b * Int.gcd (low t b).1 (low t b).2 = Int.gcd t b * 1 := by omega
  exact Nat.eq_of_mul_eq_mul_left g this
theorem low_id {t b : Int} (hb : 0 < b) (h : Int.gcd t b = 1) : low t b = (t, b) := by
  have e : sg t b = 1 := by unfold sg; rw [if_neg (by omega), h]; rfl
  unfold low
  rw [e]
  simp
theorem low_low {t b : Int} (h : b ≠ 0) : low (low t b).1 (low t b).2 = low t b := low_id (low_pos h) (low_cop h)
/-- the bottom stays: nothing is taken out -/
theorem low_same {t b : Int} (hb : 0 < b) (h : (low t b).2 = b) : low t b = (t, b) := by
  have e := low_bot (t := t) (b := b)
  rw [h] at e
  have e1 : sg t b * b = 1 * b := by omega
  have e2 := Int.eq_of_mul_eq_mul_right (Int.ne_of_gt hb) e1
  have e3 := low_top (t := t) (b := b)
  rw [e2] at e3
  refine Prod.ext ?_ h
  show (low t b).1 = t
  omega
theorem dvd_le {x y : Int} (h : x * y ≠ 0) : y.natAbs ≤ (x * y).natAbs := by
  rw [Int.natAbs_mul]
  have : x ≠ 0 := fun z => h (by rw [z, Int.zero_mul])
  exact Nat.le_mul_of_pos_left _ (by omega)
theorem low_top_le {t b : Int} (h : b ≠ 0) : (low t b).1.natAbs ≤ t.natAbs := by
  by_cases ht : t = 0
  · subst ht
    have e := low_top (t := 0) (b := b)
    rcases Int.mul_eq_zero.mp e with z | z
    · exact absurd z (sg_ne h)
    · rw [z]; exact Nat.le_refl _
  · have e := low_top (t := t) (b := b)
    have := dvd_le (x := sg t b) (y := (low t b).1) (by omega)
    rw [e] at this
    exact this
theorem low_bot_le {t b : Int} (h : b ≠ 0) : (low t b).2.natAbs ≤ b.natAbs := by
  have e := low_bot (t := t) (b := b)
  have := dvd_le (x := sg t b) (y := (low t b).2) (by omega)
  rw [e] at this
  exact this
theorem sg_le {t b : Int} (h : b ≠ 0) : (sg t b).natAbs ≤ b.natAbs := by
  have e := low_bot (t := t) (b := b)
  have := dvd_le (x := (low t b).2) (y := sg t b) (by rw [Int.mul_comm]; omega)
  rw [Int.mul_comm, e] at this
  exact this
/-- Euclid's turn over whole numbers from 0 on -/
theorem gcd_turn {a b : Int} (ha : 0 ≤ a) (hb : 0 < b) : Int.gcd b (a % b) = Int.gcd a b := by
  obtain ⟨m, rfl⟩ := Int.eq_ofNat_of_zero_le ha
  obtain ⟨n, rfl⟩ := Int.eq_ofNat_of_zero_le (Int.le_of_lt hb)
  show Nat.gcd (Int.natAbs (n : Int)) (Int.natAbs ((m : Int) % (n : Int))) = Nat.gcd (Int.natAbs (m : Int)) (Int.natAbs (n : Int))
  rw [← Int.natCast_emod, Int.natAbs_natCast, Int.natAbs_natCast, Int.natAbs_natCast, Nat.gcd_comm n, Nat.gcd_comm m n]
  exact (Nat.gcd_rec n m).symm
theorem gcd_succ (a : Int) : Int.gcd a (a + 1) = 1 := by
  have : Int.gcd (a + 1) a = Int.gcd 1 a := by
    rw [Int.add_comm, Int.gcd_add_self_left]
  rw [Int.gcd_comm, this, Int.gcd_comm]
  simp
end KM
set_option Elab.async false
set_option linter.all false
set_option maxRecDepth 100000
set_option maxHeartbeats 4000000
namespace K20.Q
open PySem PySem.Spec PyProof.Rows L2
/-- a def of the text -/
abbrev Dn (K : PySem.W.Frag) (d : He.DefD) (f : Addr) (fd : FuncData) : Prop := FunD K d.name d.qual d.params d.body d.scope (d.dvs K) (d.kws K) f fd
/-- what the module's names are -/
structure Bl (mg : Str → Option Value) : Prop where
  isi : mg "isinstance" = none
  int : mg "int" = none
  bool : mg "bool" = none
  abs : mg "abs" = none
  list : mg "list" = none
  range : mg "range" = none
  len : mg "len" = none
theorem op_fdW {X : Cx} : OpR X (binaryOp .FloorDiv) (rI (fun _ j => j ≠ 0 ∧ j.natAbs.log2 < 9000) fun i j => .int (i.fdiv j)) := opI fun _ _ _ _ _ _ _ hc q => floordiv_int hc.1 q (.inl (PyProof.noPylong_of_log2 hc.2))
/-- the fields of a Share -/
def shF (q : Int × Int) : List (Str × V) := putF "bottom" (.int q.2) (putF "top" (.int q.1) [])
theorem tb : ¬ (("top" : Str) = "bottom") := by decide +kernel
theorem shF_top (q : Int × Int) : (shF q).lookup ("top" : Str) = some (.int q.1) := by
  unfold shF
  rw [lookup_putF, if_neg tb, lookup_putF, if_pos rfl]
theorem shF_bot (q : Int × Int) : (shF q).lookup ("bottom" : Str) = some (.int q.2) := by
  unfold shF
  rw [lookup_putF, if_pos rfl]
theorem shF_no (q : Int × Int) {m : Str} (h1 : ¬ m = "bottom") (h2 : ¬ m = "top") : (shF q).lookup m = none := by
  unfold shF
  rw [lookup_putF, if_neg h1, lookup_putF, if_neg h2]
  all_goals rfl
/-- a Share stands at p -/
def Sh (C : Addr) (H : Hp) (p : Addr) (q : Int × Int) : Prop := ∃ dx, H p = some (.ins C dx (shF q))
/-- small enough, the bottom above nought -/
def Bd (n : Nat) (q : Int × Int) : Prop := q.1.natAbs < 2 ^ n ∧ 0 < q.2 ∧ q.2.natAbs < 2 ^ n
theorem Sh.keep {C : Addr} {H H' : Hp} {p : Addr} {q : Int × Int} (s : Same H H') (h : Sh C H p q) : Sh C H' p q := let ⟨dx, e⟩ := h; ⟨dx, s _ _ e⟩
theorem log_lt {j : Int} {n : Nat} (h : j.natAbs < 2 ^ n) (h0 : 0 < n) (h9 : n ≤ 9000) : j.natAbs.log2 < 9000 := Nat.lt_of_lt_of_le (PySem.Flt.log2_lt_of h0 h) h9
/-- what is known of the class -/
structure Cl (K : PySem.W.Frag) (mg : Str → Option Value) (C : Addr) : Prop where
  cl : Cls K C
  nt : NoAttr K C "top"
  nb : NoAttr K C "bottom"
  g : mg "Share" = some (.ref C)
section
variable {P : Program} {w : World} {K : PySem.W.Frag} {mg : Str → Option Value} {base : Heap} {f C : Addr} {fd : FuncData}

def spWhole : Sp := fun vs H Q _ => ∃ n : Int, vs = [.int n] ∧ Q (.bl true) H
theorem ok_whole (F : Dn K d_is_whole f fd) (b : Bl mg) : FnOk P w K mg base CX0 1 f fd ["thing"] spWhole := by
  refine F.ok sc_is_whole (fun vs H Q E h => ?_) (fun cdv A outer s H vs Q E hr h => ?_)
  · obtain ⟨n, rfl, _⟩ := h
    rfl
  · obtain ⟨n, rfl, hQ⟩ := h
    refine ⟨_, PSs.nox (pss_one (ps_ret (pe_and
      (pe_callB call_isi rfl b.isi boot_isinstance (pa_cons (pv 0) (pa_cons (pe_bltn (v := .ty "int") rfl b.int boot_int rfl) pa_nil)))
      (pe_one (pe_not (pe_callB call_isi rfl b.isi boot_isinstance (pa_cons (pv 0) (pa_cons (pe_bltn (v := .ty "bool") rfl b.bool boot_bool rfl) pa_nil)))))))), ?_⟩
    refine ⟨_, rfl, _, _, _, _, true, rfl, ClsV.ty _, TyX.base (TyOf.int n), kit_ty (by decide +kernel), true, rfl, ?_⟩
    refine iteT ?_
    exact ⟨_, rfl, _, _, _, _, false, rfl, ClsV.ty _, TyX.base (TyOf.int n), kit_ty (by decide +kernel), false, rfl, hQ⟩
def spGcd : Sp := fun vs H Q _ => ∃ x y : Int, vs = [.int x, .int y] ∧ Q (.int (Int.gcd x y : Int)) H
theorem abs_eq (x : Int) : (if x < 0 then -x else x) = (x.natAbs : Int) := by split <;> omega
theorem ok_gcd (F : Dn K d_common_part f fd) (b : Bl mg) : FnOk P w K mg base CX0 1 f fd ["one", "other"] spGcd := by
  refine F.ok sc_common_part (fun vs H Q E h => ?_) (fun cdv A outer s H vs Q E hr h => ?_)
  · obtain ⟨x, y, rfl, _⟩ := h
    rfl
  · obtain ⟨x, y, rfl, hQ⟩ := h
    refine ⟨_, PSs.nox (pss_cons (ps_set (i := 0) sc_common_part.nd rfl (.inl rfl) (pe_callB call_abs rfl b.abs boot_abs (pa_cons (pv 0) pa_nil)))
      (pss_cons (ps_set (i := 1) sc_common_part.nd rfl (.inl rfl) (pe_callB call_abs rfl b.abs boot_abs (pa_cons (pv 1) pa_nil)))
      (pss_cons (ps_while PassesOwn.never (pt_cmpR op_ne (pv 1) pe_int (nomark _)) (pss_one (ps_par (i := 0) (j := 1) rfl sc_common_part.nd rfl rfl (by decide) rfl rfl (pa_cons (pv 1) (pa_cons (pe_op op_mod (pv 0) (pv 1)) pa_nil)) rfl)))
      (pss_one (ps_ret (pv 0)))))), ?_⟩
    refine ⟨_, rfl, _, rfl, _, rfl, _, rfl, while_by (fun σ H2 => H2 = H ∧ ∃ a c : Int, σ = [some (.int a), some (.int c)] ∧ 0 ≤ a ∧ 0 ≤ c ∧ Int.gcd a c = Int.gcd x y)
      (fun σ _ => match σ with | [_, some (.int c)] => c.toNat | _ => 0) ⟨rfl, _, _, rfl, ?_, ?_, ?_⟩ ?_ ?_⟩
    · split <;> omega
    · split <;> omega
    · rw [abs_eq, abs_eq]
      rfl
    · rintro σ H2 ⟨rfl, a, c, rfl, ha, hc, hg⟩
      refine ⟨_, rfl, rfl, _, rfl, ?_⟩
      by_cases h0 : c = 0
      · subst h0
        refine iteNS rfl ?_
        refine ⟨_, rfl, ?_⟩
        have e : Int.gcd x y = a.natAbs := by rw [← hg]; simp
        have e2 : (Int.gcd x y : Int) = a := by omega
        rw [e2] at hQ
        exact hQ
      · have hne : (!decide (V.int c = V.int 0)) = true := by simp [h0]
        rw [hne]
        refine iteT ?_
        have hp : 0 < c := by omega
        refine ⟨_, rfl, _, rfl, _, rfl, _, _, rfl, rfl, hp, _, _, rfl, ⟨rfl, _, _, rfl, hc, Int.emod_nonneg _ h0, ?_⟩, ?_⟩
        · rw [KM.gcd_turn ha hp, hg]
        · show (a % c).toNat < c.toNat
          have h1 := Int.emod_nonneg a h0
          have h2 := Int.emod_lt_of_pos a hp
          omega
    · rintro σ H2 Q1 Q2 hm ⟨v, hv, h1, k, hk, q⟩
      exact ⟨v, hv, h1, k, hk, hm _ _ q⟩
end
end K20.Q
set_option Elab.async false
set_option linter.all false
set_option maxRecDepth 100000
set_option maxHeartbeats 4000000
namespace K20.Q
open PySem PySem.Spec PyProof.Rows L2
open C8 (Cal Mak Met pe_c pe_mk pe_mt pe_mt0)
section
variable {P : Program} {w : World} {K : PySem.W.Frag} {mg : Str → Option Value} {base : Heap} {f C : Addr} {fd : FuncData}
abbrev CalW (P : Program) (w : World) (K : PySem.W.Frag) (mg : Str → Option Value) (base : Heap) : Prop := Cal P w K mg base 1 "is_whole" spWhole []
abbrev CalG (P : Program) (w : World) (K : PySem.W.Frag) (mg : Str → Option Value) (base : Heap) : Prop := Cal P w K mg base 1 "common_part" spGcd []
/-- __init__: a Share in lowest terms -/
def spInit (C : Addr) : Sp := fun vs H Q _ => ∃ (p dx : Addr) (t b : Int) (n : Nat), vs = [.ref p, .int t, .int b] ∧ b ≠ 0 ∧ b.natAbs < 2 ^ n ∧ 0 < n ∧ n ≤ 9000 ∧ H p = some (.ins C dx []) ∧
  ∀ H', (∀ a o, a ≠ p → H a = some o → H' a = some o) → H' p = some (.ins C dx (shF (KM.low t b))) → Q .non H'
theorem ok_init (F : Dn K d_Share_init f fd) (cW : CalW P w K mg base) (cG : CalG P w K mg base) (T : Cl K mg C) : FnOk P w K mg base CX0 2 f fd ["self", "top", "bottom"] (spInit C) := by
  refine F.ok sc_Share_init (fun vs H Q E h => ?_) (fun cdv A outer s H vs Q E hr h => ?_)
  · obtain ⟨p, dx, t, b, n, rfl, _⟩ := h
    rfl
  · obtain ⟨p, dx, t, b, n, rfl, hb, hn, hn0, hn9, hp, hQ⟩ := h
    refine ⟨_, PSs.nox (pss_cons (ps_for PassesOwn.never rfl (pi_tup (pe_tup (pa_cons (pv 1) (pa_cons (pv 2) pa_nil)))) (pg_name (i := 3) sc_Share_init.nd rfl (.inl rfl))
        (pss_one (ps_if (pt_not (pt_val (pe_c cW hr (by decide) rfl (pa_cons (pv 3) pa_nil)))) pss_never pss_nil)))
      (pss_cons (ps_if (pt_cmpR op_eq (pv 2) pe_int (nomark _)) pss_never pss_nil)
      (pss_cons (ps_set (i := 4) sc_Share_init.nd rfl (.inl rfl) (pe_c cG hr (by decide) rfl (pa_cons (pv 1) (pa_cons (pv 2) pa_nil))))
      (pss_cons (ps_if (pt_cmpR op_lt (pv 2) pe_int (nomark _)) (pss_one (ps_set (i := 4) sc_Share_init.nd rfl (.inl rfl) (pe_un un_neg (pv 4)))) pss_nil)
      (pss_cons (ps_fld (pv 0) (pe_op op_fdW (pv 1) (pv 4)) rfl)
      (pss_one (ps_fld (pv 0) (pe_op op_fdW (pv 2) (pv 4)) rfl))))))), ?_⟩
    refine ⟨_, rfl, _, rfl, by show 2 ≤ sizeLine; decide, fun u hu => ?_⟩
    have npu : p ≠ u := ne_of_none hp hu
    refine ⟨u, rfl, ⟨_, SqT.of upd_same⟩, for_tup (K := K) (xs := [.int t, .int b]) (fun i σ H2 => H2 = upd H u (.tup [.int t, .int b]) ∧ ∃ v, σ = [some (.ref p), some (.int t), some (.int b), v, none])
      ⟨rfl, none, rfl⟩ (fun i σ H2 _ h => by rw [h.1]; exact SqT.of upd_same) ?_ ?_⟩
    · rintro i y σ H2 hi ⟨rfl, v, rfl⟩
      have hy : ∃ n : Int, y = .int n := by
        match i, hi with
        | 0, e => exact ⟨t, (Option.some.inj e).symm⟩
        | 1, e => exact ⟨b, (Option.some.inj e).symm⟩
      obtain ⟨n, rfl⟩ := hy
      refine ⟨_, rfl, n, rfl, true, rfl, ?_⟩
      refine iteF ?_
      exact ⟨rfl, _, rfl⟩
    · rintro σ H2 ⟨rfl, v, rfl⟩
      refine ⟨_, rfl, rfl, _, rfl, ?_⟩
      have hb0 : decide (V.int b = V.int 0) = false := by simp [hb]
      rw [hb0]
      refine iteF ?_
      refine ⟨_, rfl, _, rfl, t, b, rfl, ?_⟩
      refine ⟨_, rfl, _, _, rfl, rfl, _, rfl, ?_⟩
      have hs9 : (KM.sg t b).natAbs.log2 < 9000 := log_lt (Nat.lt_of_le_of_lt (KM.sg_le hb) hn) hn0 hn9
      have fin : ∀ c : Int, c = KM.sg t b → ∀ v, tSeq (sFld K (tVar 0) (tOp (rI (fun _ j => j ≠ 0 ∧ j.natAbs.log2 < 9000) fun i j => .int (i.fdiv j)) (tVar 1) (tVar 4)) "top") (sFld K (tVar 0) (tOp (rI (fun _ j => j ≠ 0 ∧ j.natAbs.log2 < 9000) fun i j => .int (i.fdiv j)) (tVar 2) (tVar 4)) "bottom")
          { nx := fun _ H' => Q .non H', rt := Q } [some (.ref p), some (.int t), some (.int b), v, some (.int c)] (upd H u (.tup [.int t, .int b])) := by
        rintro c rfl v
        refine ⟨_, rfl, _, rfl, _, _, rfl, rfl, ⟨KM.sg_ne hb, hs9⟩, _, rfl, p, C, dx, _, rfl, (by rw [upd_ne npu]; exact hp), T.cl, T.nt, (by show 0 < 1000; decide), ?_⟩
        refine ⟨_, rfl, _, rfl, _, _, rfl, rfl, ⟨KM.sg_ne hb, hs9⟩, _, rfl, p, C, dx, _, rfl, upd_same, T.cl, T.nb, (by show 1 < 1000; decide), ?_⟩
        refine hQ _ (fun a o ha e => ?_) upd_same
        rw [upd_ne ha, upd_ne ha, upd_ne (ne_of_none e hu)]
        exact e
      refine ite2 (fun h => ?_) (fun h => ?_)
      · have h' : b < 0 := of_decide_eq_true h
        refine ⟨_, rfl, _, rfl, ?_⟩
        exact fin _ (by unfold KM.sg; rw [if_pos h']) _
      · have h' : ¬ b < 0 := fun z => h (decide_eq_true z)
        exact fin _ (by unfold KM.sg; rw [if_neg h']) _
end
end K20.Q
set_option Elab.async false
set_option linter.all false
set_option maxRecDepth 100000
set_option maxHeartbeats 4000000
namespace K20.Q
open PySem PySem.Spec PyProof.Rows L2
open C8 (Cal Mak Met pe_c pe_mk pe_mt pe_mt0)
section
variable {P : Program} {w : World} {K : PySem.W.Frag} {mg : Str → Option Value} {base : Heap} {f C : Addr} {fd : FuncData}
abbrev MakS (P : Program) (w : World) (K : PySem.W.Frag) (mg : Str → Option Value) (base : Heap) (C : Addr) : Prop := Mak P w K mg base 2 "Share" C (spInit C) []
/-- Share(t, b): what is left to show -/
theorem mk_at {H1 : Hp} {t b : Int} {n : Nat} {Q : VK} (hb : b ≠ 0) (hn : b.natAbs < 2 ^ n) (hn0 : 0 < n) (hn9 : n ≤ 9000)
    (hQ : ∀ r H', Same H1 H' → H1 r = none → Sh C H' r (KM.low t b) → Q (.ref r) H') :
    ∀ x dx, H1 x = none → H1 dx = none → dx ≠ x → spInit C (.ref x :: ([V.int t, V.int b] ++ [])) (upd (upd H1 dx (.own x)) x (.ins C dx [])) (fun v H2 => v = .non ∧ Q (.ref x) H2) E0 := by
  intro x dx nx nd ne
  refine ⟨x, dx, t, b, n, rfl, hb, hn, hn0, hn9, upd_same, fun H' kp hp => ⟨rfl, hQ x H' (fun a o e => ?_) nx ⟨dx, hp⟩⟩⟩
  refine kp a o (ne_of_none e nx) ?_
  rw [upd_ne (ne_of_none e nx), upd_ne (ne_of_none e nd)]
  exact e
theorem mul_pos_ne {a b : Int} (ha : 0 < a) (hb : 0 < b) : a * b ≠ 0 := fun z => by
  have := Int.mul_pos ha hb
  omega
def two (n : Nat) (a b : Int × Int) : Prop := Bd n a ∧ Bd n b ∧ 0 < n ∧ n ≤ 4000

end
end K20.Q
set_option linter.all false
namespace KM
/-- top and bottom of a rational number -/
def pr (r : Rat) : Int × Int := (r.num, (r.den : Int))
theorem pr_inj {r s : Rat} (h : pr r = pr s) : r = s := by
  have h1 : r.num = s.num := congrArg Prod.fst h
  have h2 : (r.den : Int) = (s.den : Int) := congrArg Prod.snd h
  rw [← Rat.num_divInt_den r, ← Rat.num_divInt_den s, h1, h2]
theorem den_ne (r : Rat) : (r.den : Int) ≠ 0 := by
  have := r.den_nz
  omega
theorem den_pos (r : Rat) : 0 < (r.den : Int) := by
  have := r.den_nz
  omega
theorem low_eq {t b : Int} (h : b ≠ 0) : low t b = pr (Rat.divInt t b) := by
  have hp := low_pos (t := t) h
  have hc := low_cop (t := t) h
  obtain ⟨d, hd⟩ := Int.eq_ofNat_of_zero_le (Int.le_of_lt hp)
  have hd0 : d ≠ 0 := by
    intro z
    rw [z] at hd
    omega
  have hcop : (low t b).1.natAbs.Coprime d := by
    have : Int.gcd (low t b).1 (low t b).2 = 1 := hc
    rw [hd] at this
    exact this
  have e1 : Rat.divInt (low t b).1 (d : Int) = Rat.divInt t b := by
    rw [Rat.divInt_eq_divInt_iff (by omega) h, ← hd]
    have h1 := low_top (t := t) (b := b)
    have h2 := low_bot (t := t) (b := b)
    calc (low t b).1 * b = (low t b).1 * (sg t b * (low t b).2) := by rw [h2]
      _ = sg t b * (low t b).1 * (low t b).2 := by rw [← Int.mul_assoc, Int.mul_comm (low t b).1]
      _ = t * (low t b).2 := by rw [h1]
  have e2 : ({ num := (low t b).1, den := d, den_nz := hd0, reduced := hcop } : Rat) = Rat.divInt t b := by rw [Rat.mk_eq_divInt, e1]
  rw [← e2]
  exact Prod.ext rfl hd
theorem pr_plus (r s : Rat) : low ((pr r).1 * (pr s).2 + (pr s).1 * (pr r).2) ((pr r).2 * (pr s).2) = pr (r + s) := by
  show low (r.num * s.den + s.num * r.den) (r.den * s.den) = _
  rw [low_eq (Int.mul_ne_zero (den_ne r) (den_ne s)), ← Rat.divInt_add_divInt _ _ (den_ne r) (den_ne s), Rat.num_divInt_den, Rat.num_divInt_den]
theorem pr_less (r s : Rat) : low ((pr r).1 * (pr s).2 - (pr s).1 * (pr r).2) ((pr r).2 * (pr s).2) = pr (r - s) := by
  show low (r.num * s.den - s.num * r.den) (r.den * s.den) = _
  rw [low_eq (Int.mul_ne_zero (den_ne r) (den_ne s)), ← Rat.divInt_sub_divInt _ _ (den_ne r) (den_ne s), Rat.num_divInt_den, Rat.num_divInt_den]
theorem pr_times (r : Rat) (k : Int) : low ((pr r).1 * k) (pr r).2 = pr (r * (Rat.divInt k 1)) := by
  show low (r.num * k) r.den = _
  have e : Rat.divInt (r.num * k) (r.den : Int) = Rat.divInt r.num r.den * Rat.divInt k 1 := by rw [Rat.divInt_mul_divInt, Int.mul_one]
  rw [low_eq (den_ne r), e, Rat.num_divInt_den]
theorem pr_over (r : Rat) {k : Int} (h : k ≠ 0) : low (pr r).1 ((pr r).2 * k) = pr (r * (Rat.divInt 1 k)) := by
  show low r.num (r.den * k) = _
  have e : Rat.divInt r.num (r.den * k : Int) = Rat.divInt r.num r.den * Rat.divInt 1 k := by rw [Rat.divInt_mul_divInt, Int.mul_one]
  rw [low_eq (Int.mul_ne_zero (den_ne r) h), e, Rat.num_divInt_den]
theorem inv_k {k : Int} (h : k ≠ 0) : Rat.divInt k 1 * Rat.divInt 1 k = 1 := by
  rw [Rat.divInt_mul_divInt, Int.mul_one, Int.one_mul]
  exact Rat.divInt_self' h
theorem pr_lt (r s : Rat) : ((pr r).1 * (pr s).2 < (pr s).1 * (pr r).2) ↔ r < s := (Rat.lt_iff r s).symm
theorem pr_bot (r : Rat) : 0 < (pr r).2 := den_pos r
theorem add_back (r s : Rat) : r + s - s = r := by
  rw [Rat.sub_eq_add_neg, Rat.add_assoc, Rat.add_neg_cancel, Rat.add_zero]
theorem sub_back (r s : Rat) : r - s + s = r := by
  rw [Rat.sub_eq_add_neg, Rat.add_assoc, Rat.neg_add_cancel, Rat.add_zero]
theorem mul_back (r : Rat) {k : Int} (h : k ≠ 0) : r * Rat.divInt k 1 * Rat.divInt 1 k = r := by
  rw [Rat.mul_assoc, inv_k h, Rat.mul_one]
theorem div_back (r : Rat) {k : Int} (h : k ≠ 0) : r * Rat.divInt 1 k * Rat.divInt k 1 = r := by
  rw [Rat.mul_assoc, Rat.mul_comm (Rat.divInt 1 k), inv_k h, Rat.mul_one]
/-- small -/
def Sz (n : Nat) (r : Rat) : Prop := r.num.natAbs < 2 ^ n ∧ r.den < 2 ^ n
theorem Sz.mono {n m : Nat} {r : Rat} (h : Sz n r) (hm : n ≤ m) : Sz m r := ⟨Nat.lt_of_lt_of_le h.1 (Nat.pow_le_pow_right (by decide) hm), Nat.lt_of_lt_of_le h.2 (Nat.pow_le_pow_right (by decide) hm)⟩
theorem sz_of_low {t b : Int} {n : Nat} (hb : b ≠ 0) (h1 : t.natAbs < 2 ^ n) (h2 : b.natAbs < 2 ^ n) : Sz n (Rat.divInt t b) := by
  have e := low_eq (t := t) hb
  have e1 : (low t b).1 = (Rat.divInt t b).num := congrArg Prod.fst e
  have e2 : (low t b).2 = ((Rat.divInt t b).den : Int) := congrArg Prod.snd e
  have l1 := low_top_le (t := t) hb
  have l2 := low_bot_le (t := t) hb
  constructor
  · rw [← e1]; omega
  · have : ((low t b).2).natAbs < 2 ^ n := by omega
    rw [e2] at this
    simpa using this
theorem two_lt {x y n m : Nat} (h1 : x < 2 ^ n) (h2 : y < 2 ^ m) : x * y < 2 ^ (n + m) := by
  rw [Nat.pow_add]
  exact Nat.mul_lt_mul'' h1 h2
theorem sz_sum {a b c d : Int} {n m : Nat} (h1 : a.natAbs < 2 ^ n) (h2 : d.natAbs < 2 ^ m) (h3 : c.natAbs < 2 ^ m) (h4 : b.natAbs < 2 ^ n) : (a * d + c * b).natAbs < 2 ^ (n + m + 1) ∧ (a * d - c * b).natAbs < 2 ^ (n + m + 1) := by
  have e1 : (a * d).natAbs < 2 ^ (n + m) := by rw [Int.natAbs_mul]; exact two_lt h1 h2
  have e2 : (c * b).natAbs < 2 ^ (n + m) := by rw [Int.natAbs_mul, Nat.add_comm]; exact two_lt h3 h4
  have e3 : 2 ^ (n + m + 1) = 2 * 2 ^ (n + m) := by rw [Nat.pow_succ, Nat.mul_comm]
  omega
theorem sz_plus {n m : Nat} {r s : Rat} (hr : Sz n r) (hs : Sz m s) : Sz (n + m + 1) (r + s) ∧ Sz (n + m + 1) (r - s) := by
  have d1 : ((r.den : Int)).natAbs < 2 ^ n := by simpa using hr.2
  have d2 : ((s.den : Int)).natAbs < 2 ^ m := by simpa using hs.2
  have hd : ((r.den : Int) * s.den).natAbs < 2 ^ (n + m + 1) := by
    have : ((r.den : Int) * s.den).natAbs < 2 ^ (n + m) := by rw [Int.natAbs_mul]; exact two_lt d1 d2
    exact Nat.lt_of_lt_of_le this (Nat.pow_le_pow_right (by decide) (by omega))
  have hn := sz_sum hr.1 d2 hs.1 d1
  have ne := Int.mul_ne_zero (den_ne r) (den_ne s)
  constructor
  · have := sz_of_low ne hn.1 hd
    rw [← Rat.divInt_add_divInt _ _ (den_ne r) (den_ne s), Rat.num_divInt_den, Rat.num_divInt_den] at this
    exact this
  · have := sz_of_low ne hn.2 hd
    rw [← Rat.divInt_sub_divInt _ _ (den_ne r) (den_ne s), Rat.num_divInt_den, Rat.num_divInt_den] at this
    exact this
theorem sz_times {n m : Nat} {r : Rat} {k : Int} (hr : Sz n r) (hk : k.natAbs < 2 ^ m) : Sz (n + m) (r * Rat.divInt k 1) := by
  have e : r * Rat.divInt k 1 = Rat.divInt (r.num * k) r.den := by
    have : Rat.divInt (r.num * k) (r.den : Int) = Rat.divInt r.num r.den * Rat.divInt k 1 := by rw [Rat.divInt_mul_divInt, Int.mul_one]
    rw [this, Rat.num_divInt_den]
  rw [e]
  refine sz_of_low (den_ne r) (by rw [Int.natAbs_mul]; exact two_lt hr.1 hk) ?_
  have d1 : ((r.den : Int)).natAbs < 2 ^ n := by simpa using hr.2
  exact Nat.lt_of_lt_of_le d1 (Nat.pow_le_pow_right (by decide) (by omega))
theorem sz_over {n m : Nat} {r : Rat} {k : Int} (hr : Sz n r) (h : k ≠ 0) (hk : k.natAbs < 2 ^ m) : Sz (n + m) (r * Rat.divInt 1 k) := by
  have e : r * Rat.divInt 1 k = Rat.divInt r.num (r.den * k) := by
    have : Rat.divInt r.num (r.den * k : Int) = Rat.divInt r.num r.den * Rat.divInt 1 k := by rw [Rat.divInt_mul_divInt, Int.mul_one]
    rw [this, Rat.num_divInt_den]
  rw [e]
  have d1 : ((r.den : Int)).natAbs < 2 ^ n := by simpa using hr.2
  refine sz_of_low (Int.mul_ne_zero (den_ne r) h) (Nat.lt_of_lt_of_le hr.1 (Nat.pow_le_pow_right (by decide) (by omega))) ?_
  rw [Int.natAbs_mul]
  exact two_lt d1 hk
end KM
set_option Elab.async false
set_option linter.all false
set_option maxRecDepth 100000
set_option maxHeartbeats 4000000
/-! KW: calls by keywords alone: f(k = v, ..), o.m(k = v, ..). -/
namespace KW
open PySem PySem.Spec PyProof.Rows L2
section
variable {X : Cx} {k j : Nat} {C f : Addr} {fd : FuncData} {ps ks : List Str} {sp : Sp} {x m : Str} {p pos apos : Pos} {o : Expr} {kws : List Keyword} {ta : TE} {tk : TA} {g : List Value → List Value → List Value} {gV : List V → List V → List V}
theorem pe_cK (F : FnOk X.prog X.w X.K X.mg X.base CX0 k f fd ps sp) (hr : Room k X.A) (hg : Gl X x) (hm : X.mg x = some (.ref f)) (hk : PySem.W.keepIn X.K (.ref f) = true) (hb : KBn X.K fd ps 0 ks g gV) (hkw : PK X kws tk)
    (hall : (backToKw pos (keywordEach kws X.env)).all (·.1.isSome) = true := by rfl) (hks : (backToKw pos (keywordEach kws X.env)).filterMap (·.1) = ks := by rfl) (hdb : (x == ("__debug__" : Str)) = false := by decide)
    (hpl : ((backTo pos (starEach [] X.env)).any (·.1) || (backToKw pos (keywordEach kws X.env)).any (·.1.isNone)) = false := by rfl) :
    PE X (.Call (.Name x p) [] kws pos) (fun σ H Q => tk σ H fun zs H1 => zs.length = ks.length ∧ sp (gV [] zs) H1 Q E0) := by
  refine ⟨fun pins s σ H Q I h => wpAny_Call_Name_kw (ld_glob I hg hm (PySem.W.callWith_KW0 (h₀ := X.base) I.ok.mod.kin hk hall ?_ hpl) hdb)⟩
  refine thn (hkw.run pos pins s σ H _ I h) fun ws s2 ⟨zs, H2, I2, rz, l2, q2⟩ => ⟨I2.kIn, ?_⟩
  rw [hks]
  exact run_fnN (us := []) (vs := []) F hr hb (fun _ _ _ _ _ _ _ h => False.elim h) I2 .nil rz rfl l2 q2
theorem pe_mtK {pl : Sem Bool} (he : PE X o ta) (c : Cls X.K C) (hm : Meth X.K C m f) (F : FnOk X.prog X.w X.K X.mg X.base CX0 k f fd ps sp) (hr : Room k X.A) (hb : KBn X.K fd ps 1 ks g gV) (hkw : PK X kws tk)
    (hall : (backToKw pos (keywordEach kws X.env)).all (·.1.isSome) = true := by rfl) (hks : (backToKw pos (keywordEach kws X.env)).filterMap (·.1) = ks := by rfl)
    (hpl : ((backTo pos (starEach [] X.env)).any (·.1) || (backToKw pos (keywordEach kws X.env)).any (·.1.isNone)) = false := by rfl)
    (ht : eval (.Call (.Attribute o m apos) [] kws pos) X.env = (do
      let ov ← eval o X.env
      standAt apos.atName
      let (f, first) ← holding [ov] (getMethod ov m pl)
      callWith pos f first (backTo pos (starEach [] X.env)) (backToKw pos (keywordEach kws X.env))) := by rfl) :
    PE X (.Call (.Attribute o m apos) [] kws pos) (fun σ H Q => ta σ H fun x H1 => ∃ a dx fs, x = .ref a ∧ H1 a = some (.ins C dx fs) ∧ fs.lookup m = none ∧ tk σ H1 fun zs H2 => zs.length = ks.length ∧ sp (gV [.ref a] zs) H2 Q E0) := by
  refine ⟨fun pins s σ H Q I h => ?_⟩
  refine PySem.W.methodCall_KW (pl := pl) (thn (he.run pins s σ H _ I h) fun u s1 ⟨x, H1, I1, rx, a, dx, fs, ex, ea, l, q⟩ => ?_) ht
  subst ex
  obtain rfl : u = Value.ref a := rx
  refine getmeth_ok I1 ea c hm l (PySem.W.callWith_KW0 (first := [.ref a]) (h₀ := X.base) I.ok.mod.kin hm.kp hall ?_ hpl)
  refine thn (hkw.run pos pins s1 σ H1 _ I1 q) fun ws s2 ⟨zs, H2, I2, rz, l2, q2⟩ => ⟨I2.kIn, ?_⟩
  rw [hks]
  exact run_fnN (us := [.ref a]) (vs := [.ref a]) F hr hb (fun _ _ _ _ _ _ _ h => False.elim h) I2 (.cons rfl .nil) rz rfl l2 q2
end
end KW
set_option Elab.async false
set_option linter.all false
set_option maxRecDepth 100000
set_option maxHeartbeats 4000000
namespace K20.Q
open PySem PySem.Spec PyProof.Rows L2
open C8 (Cal Mak Met pe_c pe_mk pe_mt pe_mt0)
open KM (pr Sz)
/-- what isinstance asks of the class -/
structure IsC (K : PySem.W.Frag) (C : Addr) : Prop where
  ha : PySem.W.findIn K (.ref C) "__class__" = some (some (.builtin "object.__class__"))
  hn : PySem.W.specialIn K (.builtin "object.__class__") "__get__" = some (some (.builtin "getset_descriptor.__get__"))
  htk : PySem.W.takesIn K (.builtin "object.__class__") = some true
  hm : PySem.W.mroIn K C (.type "object") = some true
  kit : PySem.W.kitOne K (.ref C) (.ref C) = some true
theorem bd_of {n : Nat} {r : Rat} (h : Sz n r) : Bd n (pr r) := ⟨h.1, KM.den_pos r, by simpa [pr] using h.2⟩

theorem same_new {H : Hp} {p : Addr} {o : HO} (h : H p = none) : Same H (upd H p o) := fun a u e => by
  rw [upd_ne (ne_of_none e h)]
  exact e
section
variable {P : Program} {w : World} {K : PySem.W.Frag} {mg : Str → Option Value} {base : Heap} {f C : Addr} {fd : FuncData}
abbrev MakS1 (P : Program) (w : World) (K : PySem.W.Frag) (mg : Str → Option Value) (base : Heap) (C : Addr) : Prop := Mak P w K mg base 2 "Share" C (spInit C) [.int 1]
theorem mk_in {C x dx : Addr} {H1 : Hp} {t b : Int} {n : Nat} {Qv : VK} {E : XK} (nx : H1 x = none) (nd : H1 dx = none) (hb : b ≠ 0) (hn : b.natAbs < 2 ^ n) (hn0 : 0 < n) (hn9 : n ≤ 9000)
    (hQ : ∀ H', Same H1 H' → Sh C H' x (pr (Rat.divInt t b)) → Qv .non H') : spInit C [.ref x, .int t, .int b] (upd (upd H1 dx (.own x)) x (.ins C dx [])) Qv E := by
  refine ⟨x, dx, t, b, n, rfl, hb, hn, hn0, hn9, upd_same, fun H' kp hp => hQ H' (fun a o e => ?_) ⟨dx, KM.low_eq hb ▸ hp⟩⟩
  refine kp a o (ne_of_none e nx) ?_
  rw [upd_ne (ne_of_none e nx), upd_ne (ne_of_none e nd)]
  exact e
end
end K20.Q
set_option Elab.async false
set_option linter.all false
set_option maxRecDepth 100000
set_option maxHeartbeats 4000000
namespace K20.Q
open PySem PySem.Spec PyProof.Rows L2
open C8 (Cal Mak Met pe_c pe_mk pe_mt pe_mt0)
open KM (pr Sz)
section
variable {P : Program} {w : World} {K : PySem.W.Frag} {mg : Str → Option Value} {base : Heap} {f C : Addr} {fd : FuncData}
def sp_below (C : Addr) : Sp := fun vs H Q _ => ∃ (p q : Addr) (a b : Int × Int) (n : Nat), vs = [.ref p, .ref q] ∧ Sh C H p a ∧ Sh C H q b ∧ two n a b ∧ Q (.bl (decide (a.1 * b.2 < b.1 * a.2))) H
theorem ok_below (F : Dn K d_Share_below f fd) (T : Cl K mg C) : FnOk P w K mg base CX0 1 f fd ["self", "other"] (sp_below C) := by
  refine F.ok sc_Share_below (fun vs H Q E h => ?_) (fun cdv A outer s H vs Q E hr h => ?_)
  · obtain ⟨p, q, a, b, n, rfl, _⟩ := h
    rfl
  · obtain ⟨p, q, a, b, n, rfl, ⟨dp, hp⟩, ⟨dq, hq⟩, ⟨ba, bb, hn0, hn9⟩, hQ⟩ := h
    refine ⟨_, PSs.nox (pss_one (ps_ret (pe_cmpR op_lt (pe_op op_mulW (pe_fld (pv 0) rfl) (pe_fld (pv 1) rfl)) (pe_op op_mulW (pe_fld (pv 1) rfl) (pe_fld (pv 0) rfl)) (nomark _)))), ?_⟩
    refine ⟨_, rfl, p, C, dp, _, _, rfl, hp, T.cl, T.nt, shF_top a, _, rfl, q, C, dq, _, _, rfl, hq, T.cl, T.nb, shF_bot b, _, _, rfl, rfl, wide_mul ba.1 bb.2.2 hn0 hn0 (by omega), ?_⟩
    exact ⟨_, rfl, q, C, dq, _, _, rfl, hq, T.cl, T.nt, shF_top b, _, rfl, p, C, dp, _, _, rfl, hp, T.cl, T.nb, shF_bot a, _, _, rfl, rfl, wide_mul bb.1 ba.2.2 hn0 hn0 (by omega), _, _, rfl, rfl, hQ⟩
def spLt (C : Addr) : Sp := fun vs H Q _ => ∃ (p q : Addr) (r s : Rat) (n : Nat), vs = [.ref p, .ref q] ∧ Sh C H p (pr r) ∧ Sh C H q (pr s) ∧ Sz n r ∧ Sz n s ∧ 0 < n ∧ n ≤ 4000 ∧ Q (.bl (decide (r < s))) H
theorem belowR {vs : List V} {H : Hp} {Q : VK} {E : XK} (h : spLt C vs H Q E) : sp_below C vs H Q E := by
  obtain ⟨p, q, r, s, n, e, hp, hq, sr, ss, n0, n9, k⟩ := h
  refine ⟨p, q, _, _, n, e, hp, hq, ⟨bd_of sr, bd_of ss, n0, n9⟩, ?_⟩
  have : decide ((pr r).1 * (pr s).2 < (pr s).1 * (pr r).2) = decide (r < s) := decide_eq_decide.mpr (KM.pr_lt r s)
  rw [this]
  exact k
end
end K20.Q
set_option Elab.async false
set_option linter.all false
set_option maxRecDepth 100000
set_option maxHeartbeats 4000000
namespace K20.Q
open PySem PySem.Spec PyProof.Rows L2
open C8 (Cal Mak Met pe_c pe_mk pe_mt pe_mt0)
open KM (pr Sz)
section
variable {P : Program} {w : World} {K : PySem.W.Frag} {mg : Str → Option Value} {base : Heap} {f C : Addr} {fd : FuncData}
/-- a dict from names to Shares: who isn't in it has nought -/
def ShD (C : Addr) (H : Hp) (d : Addr) (kvs : List (Key × V)) (ρ : Str → Rat) : Prop := H d = some (.dK kvs) ∧ (∀ x v, valV kvs (Sum.inr x) = some v → ∃ p, v = .ref p ∧ Sh C H p (pr (ρ x))) ∧ ∀ x, valV kvs (Sum.inr x) = none → ρ x = 0
theorem ShD.keep {H H' : Hp} {d : Addr} {kvs : List (Key × V)} {ρ : Str → Rat} (s : Same H H') (h : ShD C H d kvs ρ) : ShD C H' d kvs ρ :=
  ⟨s _ _ h.1, fun x v e => let ⟨p, e1, e2⟩ := h.2.1 x v e; ⟨p, e1, e2.keep s⟩, h.2.2⟩
/-- what get tells -/
theorem ShD.get {H : Hp} {d n0 : Addr} {kvs : List (Key × V)} {ρ : Str → Rat} (h : ShD C H d kvs ρ) (h0 : Sh C H n0 (pr 0)) (x : Str) : ∃ p, ((valV kvs (Sum.inr x)).getD (.ref n0)) = .ref p ∧ Sh C H p (pr (ρ x)) := by
  cases e : valV kvs (Sum.inr x) with
  | none =>
    rw [h.2.2 x e]
    exact ⟨n0, rfl, h0⟩
  | some v =>
    obtain ⟨p, rfl, hp⟩ := h.2.1 x v e
    exact ⟨p, rfl, hp⟩
def spInOrder (K : PySem.W.Frag) (C : Addr) : Sp := fun vs H Q _ => ∃ (l d : Addr) (xs : List Str) (kvs : List (Key × V)) (ρ : Str → Rat) (n : Nat), vs = [.ref l, .ref d] ∧ SqL K H l (xs.map V.str) ∧ xs.length < 64 ∧ ShD C H d kvs ρ ∧ (∀ x, Sz n (ρ x)) ∧ 0 < n ∧ n ≤ 4000 ∧
  ∀ (o : Addr) (zs : List Str) (H' : Hp), Same H H' → H o = none → H' o = some (.lst (zs.map V.str)) → zs.Perm xs → zs.Pairwise (IO.le ρ) → Q (.ref o) H'
theorem ok_in_order (F : Dn K d_in_order f fd) (bl : Bl mg) (bs : mg "sorted" = none) (M1 : MakS1 P w K mg base C) (mb : Met P w K mg base 1 C "below" (spLt C) []) : FnOk P w K mg base CX0 4 f fd ["names", "shares"] (spInOrder K C) := by
  refine F.ok sc_in_order (fun vs H Q E h => ?_) (fun cdv A outer s H vs Q E hr h => ?_)
  · obtain ⟨l, d, xs, kvs, ρ, n, rfl, _⟩ := h
    rfl
  · obtain ⟨l, d, xs, kvs, ρ, n, rfl, hl, hlen, hd, hS, n0, n9, hQ⟩ := h
    have hu := hu_of hr
    refine ⟨_, PSs.nox (pss_cons (ps_set (i := 2) sc_in_order.nd rfl (.inl rfl) (pe_mk M1 hr (by decide) rfl (pa_cons pe_int pa_nil)))
      (pss_cons (ps_set (i := 3) sc_in_order.nd rfl (.inl rfl) (pe_lst pa_nil))
      (pss_cons (ps_for PassesOwn.never rfl (pi_list (pe_callB cr_sortedS rfl bs boot_sorted (pa_cons (pv 0) pa_nil))) (pg_name (i := 4) sc_in_order.nd rfl (.inl rfl))
        (pss_cons (ps_set (i := 5) sc_in_order.nd rfl (.inl rfl) (pe_dget2 hu (pv 1) (pv 4) (pv 2) ⟨rfl, rfl, rfl, rfl⟩))
        (pss_cons (ps_set (i := 6) sc_in_order.nd rfl (.inl rfl) (pe_callB call_len_seq rfl bl.len boot_len (pa_cons (pv 3) pa_nil)))
        (pss_cons (ps_while PassesOwn.never (PW.pt (pw_and (pt_cmpR op_gt (pv 6) pe_int (nomark _)) (pw_and1 (pt_val (pe_mt mb hr (by decide) (pv 5) (pa_cons (pe_dget2 hu (pv 1) (pe_ix ix_list (pv 3) (pe_op op_sub (pv 6) pe_int) (fun _ _ => rfl)) (pv 2) ⟨rfl, rfl, rfl, rfl⟩) pa_nil))))))
          (pss_one (ps_aug (i := 6) sc_in_order.nd rfl (.inl rfl) pe_int ip_sub)))
        (pss_one (ps_expr (pe_bm PySem.F.plainAttrs_list PySem.F.slot_list_insert PySem.F.type_list_insert mt_insert (pv 3) (pa_cons (pv 6) (pa_cons (pv 4) pa_nil)))))))))
      (pss_one (ps_ret (pv 3)))))), ?_⟩
    intro p pd np nd ne
    refine mk_in (n := 1) np nd (by decide) (by decide) (by decide) (by decide) fun H1 s1 hp => ⟨rfl, ?_⟩
    have z0 : Rat.divInt 0 1 = 0 := by rfl
    rw [z0] at hp
    refine ⟨by show 0 ≤ sizeLine; decide, fun o ho => ?_⟩
    have so := same_new (o := .lst []) ho
    refine ⟨_, rfl, l, xs, rfl, (s1.trans so).seq hl, hlen, fun ys q hperm hsort hq => ?_⟩
    have sq := same_new (o := .lst (ys.map V.str)) hq
    have noq : o ≠ q := ne_of_none upd_same hq
    have hpw := IO.sorted_pw hsort
    have s3 : Same H1 (upd (upd H1 o (.lst [])) q (.lst (ys.map V.str))) := so.trans sq
    have ho3 : (upd (upd H1 o (.lst [])) q (.lst (ys.map V.str))) o = some (.lst []) := by rw [upd_ne noq]; exact upd_same
    have hq3 : (upd (upd H1 o (.lst [])) q (.lst (ys.map V.str))) q = some (.lst (ys.map V.str)) := upd_same
    generalize upd (upd H1 o (.lst [])) q (.lst (ys.map V.str)) = H3 at s3 ho3 hq3 ⊢
    have ylen : ys.length < 64 := by rw [hperm.length_eq]; exact hlen
    refine ⟨q, rfl, ⟨_, SqL.of hq3⟩, for_list (K := K) (xs := ys.map V.str) (fun i σ H2 => Same H1 H2 ∧ H2 q = some (.lst (ys.map V.str)) ∧ ∃ (zs : List Str) (v4 v5 v6 : Option V), σ = [some (.ref l), some (.ref d), some (.ref p), some (.ref o), v4, v5, v6] ∧ H2 o = some (.lst (zs.map V.str)) ∧ zs.Perm (ys.take i) ∧ zs.Pairwise (IO.le ρ))
      ⟨s3, hq3, [], none, none, none, rfl, ho3, List.Perm.refl _, List.Pairwise.nil⟩ (fun i σ H2 _ z => SqL.of z.2.1) ?_ ?_⟩
    · rintro i y σ H2 hi ⟨s2, hq2, zs, v4, v5, v6, rfl, ho2, zperm, zpw⟩
      rw [List.getElem?_map] at hi
      cases hx : ys[i]? with
      | none =>
        rw [hx] at hi
        cases hi
      | some x =>
        rw [hx] at hi
        cases (Option.some.inj hi : V.str x = y)
        have hd2 := hd.keep (s1.trans s2)
        have hp2 := hp.keep s2
        obtain ⟨px, ex, hpx⟩ := hd2.get hp2 x
        refine ⟨_, rfl, d, rfl, .inl ⟨kvs, .inl hd2.1⟩, _, rfl, _, rfl, _, DGet.k (k := Sum.inr x) hd2.1, ?_⟩
        rw [ex]
        refine ⟨_, rfl, o, _, rfl, Or.inl (SqL.of ho2), ?_⟩
        have hzl : zs.length ≤ i := by rw [zperm.length_eq, List.length_take]; exact Nat.min_le_left _ _
        have hil : i < ys.length := (List.getElem?_eq_some_iff.mp hx).1
        rw [List.length_map]
        refine ⟨fun m σ' H' => H' = H2 ∧ m ≤ zs.length ∧ σ' = [some (.ref l), some (.ref d), some (.ref p), some (.ref o), some (.str x), some (.ref px), some (.int (m : Int))] ∧ ∀ z ∈ zs.drop m, ρ x < ρ z, ⟨zs.length, rfl, Nat.le_refl _, rfl, by simp⟩, ?_⟩
        rintro m σ' H' ⟨rfl, hm, rfl, hgt⟩
        refine ⟨_, rfl, _, _, rfl, rfl, _, rfl, ?_⟩
        have leave : (∀ z ∈ zs.take m, ρ z ≤ ρ x) → tDrop (tBM K "list" (fun x vs H Q => ∃ (l : Addr) (xs : List V) (i : Int) (y : V), x = .ref l ∧ vs = [.int i, y] ∧ H l = some (.lst xs) ∧ xs.length < sizeLine ∧ 0 ≤ i ∧ i < 2 ^ 63 ∧ Q .non (upd H l (.lst (xs.take i.toNat ++ [y] ++ xs.drop i.toNat))))
            (tVar 3) (tCons (tVar 6) (tCons (tVar 4) tNil))) { nx := fun σ' H' => Same H1 H' ∧ H' q = some (.lst (ys.map V.str)) ∧ ∃ (zs : List Str) (v4 v5 v6 : Option V), σ' = [some (.ref l), some (.ref d), some (.ref p), some (.ref o), v4, v5, v6] ∧ H' o = some (.lst (zs.map V.str)) ∧ zs.Perm (ys.take (i + 1)) ∧ zs.Pairwise (IO.le ρ), rt := Q }
            [some (.ref l), some (.ref d), some (.ref p), some (.ref o), some (.str x), some (.ref px), some (.int (m : Int))] H' := by
          intro hlo
          refine ⟨_, rfl, Or.inl ⟨rfl, _, SqL.of ho2⟩, _, rfl, _, rfl, o, _, _, _, rfl, rfl, ho2, ?_, Int.natCast_nonneg m, ?_, ?_⟩
          · rw [List.length_map]
            exact Nat.lt_of_lt_of_le (by omega : zs.length < 64) (by decide)
          · omega
          · refine ⟨fun a u e => ?_, ?_, zs.take m ++ [x] ++ zs.drop m, _, _, _, rfl, ?_, ?_, ?_⟩
            · rw [upd_ne (fun z => by rw [z, ho] at e; cases e)]
              exact s2 a u e
            · rw [upd_ne (Ne.symm noq)]
              exact hq2
            · rw [upd_same, Int.toNat_natCast]
              simp [List.map_append, List.map_take, List.map_drop]
            · refine (IO.put_perm m).trans ?_
              rw [List.take_add_one, hx]
              exact (List.Perm.cons x zperm).trans (List.perm_append_singleton x _).symm
            · refine IO.put_in zpw (fun z hz => ?_) hm hgt hlo
              have hz' : z ∈ ys.take i := zperm.subset hz
              have hsplit : ys = ys.take i ++ x :: ys.drop (i + 1) := by
                have h1 := List.take_append_drop i ys
                rw [List.drop_eq_getElem_cons hil] at h1
                have h2 : ys[i] = x := (List.getElem?_eq_some_iff.mp hx).2
                rw [h2] at h1
                exact h1.symm
              rw [hsplit] at hpw
              exact (List.pairwise_append.mp hpw).2.2 z hz' x (List.mem_cons_self ..)
        cases m with
        | zero =>
          refine ite2 (fun hh => absurd (of_decide_eq_true hh) (by decide)) (fun _ => iteF ?_)
          exact leave (by simp)
        | succ m =>
          have hmm : m < zs.length := hm
          refine ite2 (fun _ => ?_) (fun hh => (hh (decide_eq_true (by omega))).elim)
          have hat : atI (zs.map V.str) (((m + 1 : Nat) : Int) - 1) = some (.str zs[m]) := by
            have e : ((m + 1 : Nat) : Int) - 1 = (m : Int) := by omega
            rw [e]
            exact atI_nat (by rw [List.getElem?_map, List.getElem?_eq_getElem hmm]; rfl)
          obtain ⟨pz, ez, hpz⟩ := hd2.get hp2 zs[m]
          obtain ⟨dx, hpx1⟩ := id hpx
          refine ⟨_, rfl, px, dx, _, rfl, hpx1, shF_no _ (by decide +kernel) (by decide +kernel), _, rfl, d, rfl, .inl ⟨kvs, .inl hd2.1⟩, _, rfl, _, rfl, _, _, rfl, rfl, o, _, _, _, rfl, rfl, SqL.of ho2, hat, _, rfl, _, DGet.k (k := Sum.inr zs[m]) hd2.1, ?_⟩
          rw [ez]
          refine ⟨px, pz, ρ x, ρ zs[m], n, rfl, hpx, hpz, hS x, hS _, n0, n9, _, rfl, ?_⟩
          refine ite2 (fun g => ?_) (fun g => ?_)
          · have g' : ρ x < ρ zs[m] := of_decide_eq_true g
            refine ⟨fun σ' H'' => H'' = H' ∧ σ' = [some (.ref l), some (.ref d), some (.ref p), some (.ref o), some (.str x), some (.ref px), some (.int (m : Int))], ?_, ?_⟩
            · rintro σ' H'' ⟨rfl, rfl⟩
              refine ⟨m, Nat.lt_succ_self m, rfl, Nat.le_of_lt hmm, rfl, fun z hz => ?_⟩
              rw [List.drop_eq_getElem_cons hmm] at hz
              rcases List.mem_cons.mp hz with e | hz
              · rw [e]; exact g'
              · exact hgt z hz
            · refine ⟨_, rfl, _, _, rfl, rfl, rfl, ?_⟩
              show [_, _, _, _, _, _, some (V.int (((m + 1 : Nat) : Int) - 1))] = _
              rw [show ((m + 1 : Nat) : Int) - 1 = (m : Int) by omega]
          · have g' : ¬ ρ x < ρ zs[m] := fun z => g (decide_eq_true z)
            refine leave fun z hz => ?_
            obtain ⟨j, hj, ej⟩ := List.mem_iff_getElem.mp hz
            rw [List.length_take] at hj
            have hjm : j ≤ m := by omega
            have hjz : j < zs.length := by omega
            rw [List.getElem_take] at ej
            have hlast : ρ zs[m] ≤ ρ x := Rat.not_lt.mp g'
            rcases Nat.lt_or_ge j m with hlt | hge
            · have := List.pairwise_iff_getElem.mp zpw j m hjz hmm hlt
              rw [ej] at this
              exact Rat.le_trans (IO.le_rat this) hlast
            · have : j = m := by omega
              subst this
              rw [ej] at hlast
              exact hlast
    · rintro σ H2 ⟨s2, hq2, zs, v4, v5, v6, rfl, ho2, zperm, zpw⟩
      rw [List.length_map, List.take_length] at zperm
      exact ⟨_, rfl, hQ o zs H2 (s1.trans s2) (s1.free ho) ho2 (zperm.trans hperm) zpw⟩
end
end K20.Q
set_option Elab.async false
set_option linter.all false
set_option maxRecDepth 100000
set_option maxHeartbeats 4000000
/-! QT: a def that may raise, called where it doesn't. -/
namespace QT
open PySem PySem.Spec PyProof.Rows L2
theorem quiet {P : Program} {w : World} {K : PySem.W.Frag} {mg : Str → Option Value} {base : Heap} {k : Nat} {f : Addr} {fd : FuncData} {ps : List Str} {sp : Sp} (F : FnOk P w K mg base (L2.CX P w) k f fd ps sp) : FnOk P w K mg base CX0 k f fd ps (fun vs H Q _ => sp vs H Q E0) := by
  refine ⟨fun vs H Q E q => F.len vs H Q E0 q, fun A outer s H args us vs Q E hr he hb hv hs => codeAny_mono (F.run A outer s H args us vs Q E0 hr he hb hv hs) fun r s' h => ?_⟩
  unfold CR at h ⊢
  match r, h with
  | .ok (.ret v), h => exact h
  | .error e, h =>
    obtain ⟨_, _, _, _, _, _, _, _, _, _, _, _, hE⟩ := h
    exact hE.elim
end QT
set_option Elab.async false
set_option linter.all false
set_option maxRecDepth 100000
set_option maxHeartbeats 4000000
namespace K20
open PySem PySem.Spec PyProof.Rows L2
open C8 (Cal Mak Met pe_c pe_mk pe_mt pe_mt0)
open KW1 (dscI)
open KM (pr Sz)
section
variable {P : Program} {w : World} {K : PySem.W.Frag} {mg : Str → Option Value} {base : Heap} {f N fN C : Addr} {fd fdN : FuncData}
def spBs : Sp := fun vs H Q _ => ∃ (a : Addr) (l : List Int) (k : Nat), vs = [.ref a, .int (k : Nat)] ∧ H a = some (.lst (l.map V.int)) ∧ ∀ H', Same H H' → Q (.int (best k l)) H'
theorem ok_bs (Fd : Dn K d_best_sum f fd) (b2 : B2 mg) : FnOk P w K mg base CX0 1 f fd ["numbers", "many"] spBs := by
  refine Fd.ok sc_best_sum (fun vs H Q E h => ?_) (fun cdv A outer s H vs Q E hr h => ?_)
  · obtain ⟨_, _, _, rfl, _⟩ := h
    rfl
  · obtain ⟨a, l, k, rfl, ha, hQ⟩ := h
    have hu64 : (A.deeper (envOfC d_best_sum.qual d_best_sum.scope s.heap.objs.size f cdv)).units + 64 < cLine := by have := hr.un; omega
    refine ⟨_, PSs.nox (pss_one (ps_ret (pe_callB (cr_sum rfl) rfl b2.sum boot_sum (pa_cons (pe_slice sl_list (KW1.pe_kw1 (KW1.ck_sortRev hu64) rfl b2.srt boot_sorted (pa_cons (pv 0) pa_nil) pe_bl) po_none (po_some (pv 1))) pa_nil)))), ?_⟩
    refine ⟨_, rfl, _, rfl, a, _, rfl, rfl, SqL.of ha, fun q fq => ?_⟩
    have sq := same_new (o := .lst ((dscI l).map V.int)) fq
    refine ⟨_, rfl, _, rfl, q, _, rfl, SqL.of upd_same, fun p fp => ?_⟩
    rw [cut_take V.int (Int.natCast_nonneg k), Int.toNat_natCast]
    refine ⟨p, _, rfl, SqL.of upd_same, ?_⟩
    exact hQ _ (sq.trans (same_new fp))
/-- choose -/
def spCho (C : Addr) : Sp := fun vs H Q _ => ∃ (a d hd : Addr) (F L : List Str) (g : Str → Int) (kvs : List (Key × V)) (ρ : Str → Rat) (n : Nat), vs = [.ref a, .ref d, .ref hd] ∧ Fk F L g ∧ H a = some (.lst (F.map V.str)) ∧ H d = some (.dK (idK L g)) ∧ K20.Q.ShD C H hd kvs ρ ∧ (∀ x, Sz n (ρ x)) ∧ 0 < n ∧ n ≤ 4000 ∧ lac F L g ≤ 0 ∧
  ∀ (o : Addr) (Z : List Str) (H' : Hp), Same H H' → H o = none → Z.Perm F → Z.Pairwise (IO.le ρ) → H' o = some (.lst ((sortS (gr (rm L g) Z (cnt (F.length : Int) (dscI (sts F L g))) (F.length : Int))).map V.str)) → Q (.ref o) H'
theorem ok_cho (Fd : Dn K d_choose f fd) (b : Bl mg) (b2 : B2 mg) (ben : mg "enumerate" = none) (cF : Cal P w K mg base 4 "fewest" (fun vs H Q _ => spFe N vs H Q E0) []) (cS : Cal P w K mg base 1 "seats_of" spSo []) (cB : Cal P w K mg base 1 "best_sum" spBs []) (cI : Cal P w K mg base 4 "in_order" (K20.Q.spInOrder K C) []) :
    FnOk P w K mg base CX0 5 f fd ["riders", "seats", "standing"] (spCho C) := by
  refine Fd.ok sc_choose (fun vs H Q E h => ?_) (fun cdv A outer s H vs Q E hr h => ?_)
  · obtain ⟨_, _, _, _, _, _, _, _, _, rfl, _⟩ := h
    rfl
  · obtain ⟨a, d, hd, F, L, g, kvs, ρ, n, rfl, fk, ha, hdd, sh, sz, n0, n4, lc, hQ⟩ := h
    have hu64 : (A.deeper (envOfC d_choose.qual d_choose.scope s.heap.objs.size f cdv)).units + 64 < cLine := by have := hr.un; omega
    refine ⟨_, PSs.nox (pss_cons (ps_set (i := 3) sc_choose.nd rfl (.inl rfl) (pe_c cF hr (by decide) rfl (pa_cons (pv 0) (pa_cons (pv 1) pa_nil))))
      (pss_cons (ps_set (i := 4) sc_choose.nd rfl (.inl rfl) (pe_callB call_len_seq rfl b.len boot_len (pa_cons (pv 0) pa_nil)))
      (pss_cons (ps_set (i := 5) sc_choose.nd rfl (.inl rfl) (pe_c cI hr (by decide) rfl (pa_cons (pv 0) (pa_cons (pe_ifExp (pt_cmpR op_isN1 (pv 2) pe_non (nomark _)) pe_dnewK (pv 2)) pa_nil))))
      (pss_cons (ps_set (i := 6) sc_choose.nd rfl (.inl rfl) (pe_c cS hr (by decide) rfl (pa_cons (pv 5) (pa_cons (pv 1) pa_nil))))
      (pss_cons (ps_set (i := 7) sc_choose.nd rfl (.inl rfl) (pe_lst pa_nil))
      (pss_cons (ps_for PassesOwn.never rfl (pi_enum rfl ben (pa_cons (pv 5) pa_nil)) (pg_tup rfl (pgs_cons (pg_name (i := 8) sc_choose.nd rfl (.inl rfl)) (pgs_cons (pg_name (i := 9) sc_choose.nd rfl (.inl rfl)) pgs_nil)))
        (pss_one (ps_if (PW.pt (pw_and (pt_cmpR op_gt (pv 3) pe_int (nomark _)) (pw_and1 (pt_cmpR op_ge (pe_op op_add (pe_ix ix_list (pv 6) (pv 8) (fun _ _ => rfl)) (pe_c cB hr (by decide) rfl (pa_cons (pe_slice sl_list (pv 6) (po_some (pe_op op_add (pv 8) pe_int)) po_none) (pa_cons (pe_op op_sub (pv 3) pe_int) pa_nil)))) (pv 4) (nomark _)))))
          (pss_cons (ps_expr (pe_bm PySem.F.plainAttrs_list PySem.F.slot_list_append PySem.F.type_list_append mt_append (pv 7) (pa_cons (pv 9) pa_nil)))
          (pss_cons (ps_aug (i := 3) sc_choose.nd rfl (.inl rfl) pe_int ip_sub)
          (pss_one (ps_aug (i := 4) sc_choose.nd rfl (.inl rfl) (pe_ix ix_list (pv 6) (pv 8) (fun _ _ => rfl)) ip_sub)))) pss_nil)))
      (pss_one (ps_ret (pe_callB (cr_sortS hu64) rfl b2.srt boot_sorted (pa_cons (pv 7) pa_nil)))))))))), ?_⟩
    refine ⟨_, rfl, _, rfl, a, d, F, L, g, rfl, ha, hdd, by have := fk.fl; omega, fun _ H1 s1 => ?_, fun z => absurd lc (by omega)⟩
    refine ⟨_, rfl, a, _, rfl, .inl (SqL.of (s1 _ _ ha)), ?_⟩
    have fl := fk.fl
    refine ⟨_, rfl, _, rfl, rfl, _, rfl, iteF ⟨_, rfl, ?_⟩⟩
    refine ⟨a, hd, F, kvs, ρ, n, rfl, SqL.of (s1 _ _ ha), by omega, sh.keep s1, sz, n0, n4, fun o Z H2 s2 fo ho pm pw => ?_⟩
    have zl := pm.length_eq
    have s02 := s1.trans s2
    refine ⟨_, rfl, _, rfl, o, d, Z, L, g, rfl, ho, s02 _ _ hdd, by omega, fun r H3 s3 fr hr3 => ?_⟩
    refine ⟨by show 0 ≤ sizeLine; decide, fun D fD => ?_⟩
    have s03 := s02.trans s3
    have sD := same_new (o := .lst []) fD
    have ho4 := sD _ _ (s3 _ _ ho)
    have hr4 := sD _ _ hr3
    have hD0 : (upd H3 D (.lst [])) D = some (.lst []) := upd_same
    have s04 := s03.trans sD
    have nrD : r ≠ D := ne_of_none hr3 fD
    have noD : o ≠ D := ne_of_none (s3 _ _ ho) fD
    have fD0 := s03.free fD
    generalize upd H3 D (.lst []) = H4 at ho4 hr4 hD0 s04 ⊢
    clear s2 s3 sD s02 s03 hr3 fr fo
    obtain ⟨c, ec⟩ : ∃ c, c = cnt (F.length : Int) (dscI (sts F L g)) := ⟨_, rfl⟩
    rw [← ec] at hQ ⊢
    have nn : ∀ x, 0 ≤ rm L g x := fun x => (fk.rm0 x).1
    refine ⟨_, rfl, o, _, rfl, SqL.of ho4, for_it walk_enum (fun i σ H2 => ∃ (m : Nat) (l : Int) (Dp : List Str) (v8 v9 : Option V), σ = [some (.ref a), some (.ref d), some (.ref hd), some (.int (m : Nat)), some (.int l), some (.ref o), some (.ref r), some (.ref D), v8, v9] ∧ Same H H2 ∧ H2 o = some (.lst (Z.map V.str)) ∧ H2 r = some (.lst ((Z.map fun x => rm L g x).map V.int)) ∧ H2 D = some (.lst (Dp.map V.str)) ∧ Dp.length ≤ i ∧ Dp ++ gr (rm L g) (Z.drop i) m l = gr (rm L g) Z c (F.length : Int))
      ⟨c, (F.length : Int), [], _, _, by rw [List.length_map]; rfl, s04, ho4, hr4, hD0, Nat.le_refl _, rfl⟩ (fun i σ H2 _ z => by obtain ⟨_, _, _, _, _, _, _, z, _⟩ := z; exact SqL.of z) ?_ ?_⟩
    · rintro i x σ H2 H3 hi ⟨m, l, Dp, v8, v9, rfl, s2, ho2, hr2, hD2, ld, eg⟩ ⟨Tp, x1, x2, rfl, hT, rfl, e1, e2⟩
      cases e1
      obtain ⟨z, hz, rfl⟩ := strs_at (show (Z.map V.str)[i]? = some x2 from e2)
      have il : i < Z.length := (List.getElem?_eq_some_iff.mp hz).1
      have sT := same_new (o := .tup [V.int (i : Nat), V.str z]) hT
      have s3 := s2.trans sT
      have ho3 := sT _ _ ho2
      have hr3 := sT _ _ hr2
      have hD3 := sT _ _ hD2
      have hT3 : (upd H2 Tp (.tup [V.int (i : Nat), V.str z])) Tp = some (.tup [V.int (i : Nat), V.str z]) := upd_same
      generalize upd H2 Tp (.tup [V.int (i : Nat), V.str z]) = H3 at s3 ho3 hr3 hD3 hT3 ⊢
      clear s2 ho2 hr2 hD2 sT hT
      have ed : Z.drop i = z :: Z.drop (i + 1) := by
        rw [List.drop_eq_getElem_cons il, (List.getElem?_eq_some_iff.mp hz).2]
      refine ⟨Tp, _, rfl, SqT.of hT3, rfl, _, _, rfl, _, _, rfl, rfl, ?_⟩
      have hat : atI ((Z.map fun x => rm L g x).map V.int) ((i : Nat) : Int) = some (.int (rm L g z)) := atI_nat (by rw [List.getElem?_map, List.getElem?_map, hz]; rfl)
      rw [ed, gr_cons] at eg
      refine ⟨_, rfl, _, _, rfl, rfl, _, rfl, ?_⟩
      refine ite2 (fun c1 => ?_) (fun c1 => ?_)
      · have m0 : 0 < m := by have := of_decide_eq_true c1; omega
        refine ⟨_, rfl, _, rfl, r, _, _, _, rfl, rfl, SqL.of hr3, hat, ?_⟩
        have em : ((m : Nat) : Int) - 1 = ((m - 1 : Nat) : Int) := by omega
        have ei : ((i : Nat) : Int) + 1 = ((i + 1 : Nat) : Int) := by omega
        refine ⟨_, rfl, _, rfl, _, _, rfl, rfl, _, rfl, r, _, rfl, SqL.of hr3, fun q fq => ?_⟩
        have ecd : cutV ((Z.map fun x => rm L g x).map V.int) (some (((i + 1 : Nat) : Nat) : Int)) none = ((Z.drop (i + 1)).map (rm L g)).map V.int := by
          rw [cut_drop V.int (Int.natCast_nonneg (i + 1)), Int.toNat_natCast]
          congr 1
          exact List.map_drop.symm
        rw [ei, ecd]
        have sq := same_new (o := .lst (((Z.drop (i + 1)).map (rm L g)).map V.int)) fq
        have hq : (upd H3 q (.lst (((Z.drop (i + 1)).map (rm L g)).map V.int))) q = some (.lst (((Z.drop (i + 1)).map (rm L g)).map V.int)) := upd_same
        have ho4 := sq _ _ ho3
        have hr4 := sq _ _ hr3
        have hD4 := sq _ _ hD3
        have s4 := s3.trans sq
        generalize upd H3 q (.lst (((Z.drop (i + 1)).map (rm L g)).map V.int)) = H4 at hq ho4 hr4 hD4 s4 ⊢
        refine ⟨_, rfl, _, _, rfl, rfl, q, _, m - 1, (show [V.ref q, V.int ((m : Int) - 1)] = _ by rw [em]), hq, fun H5 s5 => ?_⟩
        refine ⟨_, _, rfl, rfl, _, rfl, _, _, rfl, rfl, _, rfl, ?_⟩
        have ho5 := s5 _ _ ho4
        have hr5 := s5 _ _ hr4
        have hD5 := s5 _ _ hD4
        have s55 := s4.trans s5
        refine ite2 (fun c2 => ?_) (fun c2 => ?_)
        · have c2' : l ≤ rm L g z + best (m - 1) ((Z.drop (i + 1)).map (rm L g)) := of_decide_eq_true c2
          rw [if_pos ⟨m0, c2'⟩] at eg
          refine ⟨_, rfl, .inl ⟨rfl, _, SqL.of hD5⟩, _, rfl, D, _, _, rfl, rfl, hD5, ?_, ?_⟩
          · rw [List.length_map]
            exact Nat.lt_of_lt_of_le (by omega : Dp.length < 64) (by decide)
          have rne : r ≠ D := nrD
          have hr6 : (upd H5 D (.lst (Dp.map V.str ++ [V.str z]))) r = some (.lst ((Z.map fun x => rm L g x).map V.int)) := by rw [upd_ne nrD]; exact hr5
          refine ⟨_, rfl, _, _, rfl, rfl, ?_⟩
          refine ⟨_, rfl, _, rfl, _, rfl, r, _, _, _, rfl, rfl, SqL.of hr6, hat, _, _, rfl, rfl, ?_⟩
          refine ⟨m - 1, l - rm L g z, Dp ++ [z], some (.int (i : Nat)), some (.str z), ?_, fun b u e => ?_, by rw [upd_ne noD]; exact ho5, hr6, by rw [upd_same, List.map_append]; rfl, by rw [List.length_append]; show _ + 1 ≤ _; omega, by rw [List.append_assoc]; exact eg⟩
          · show [some (V.ref a), some (V.ref d), some (V.ref hd), some (V.int ((m : Int) - 1)), some (V.int (l - rm L g z)), some (V.ref o), some (V.ref r), some (V.ref D), some (V.int (i : Nat)), some (V.str z)] = _
            rw [em]
          · rw [upd_ne (ne_of_none e fD0)]
            exact s55 _ _ e
        · have m1 : ¬ (0 < m ∧ l ≤ rm L g z + best (m - 1) ((Z.drop (i + 1)).map (rm L g))) := fun q => c2 (decide_eq_true q.2)
          rw [if_neg m1] at eg
          exact ⟨m, l, Dp, _, _, rfl, s55, ho5, hr5, hD5, by omega, eg⟩
      · have m0 : ¬ (0 < m ∧ l ≤ rm L g z + best (m - 1) ((Z.drop (i + 1)).map (rm L g))) := fun q => c1 (decide_eq_true (by have := q.1; omega))
        rw [if_neg m0] at eg
        exact ⟨m, l, Dp, _, _, rfl, s3, ho3, hr3, hD3, by omega, eg⟩
    · rintro σ H2 ⟨m, l, Dp, v8, v9, rfl, s2, ho2, hr2, hD2, ld, eg⟩
      rw [List.length_map, List.drop_length] at eg
      rw [gr_nil, List.append_nil] at eg
      subst eg
      refine ⟨_, rfl, D, _, rfl, .inl (SqL.of hD2), fun p fp => ?_⟩
      exact hQ p Z _ (s2.trans (same_new fp)) (s2.free fp) pm pw upd_same
end
end K20
set_option Elab.async false
set_option linter.all false
set_option maxRecDepth 100000
set_option maxHeartbeats 4000000
/-! ITG: an iteration within a comprehension, of any body (both of [.. for .. for ..]). -/
namespace ITG
open PySem PySem.Spec PyProof.Rows L2
theorem it_gen {J : It} {n : Nat} {G : Hp → Prop} {Y : Nat → Hp → V → Hp → Prop} (w : Walk J n G Y) {H0 : Hp} {Qd : Hp → Prop} {Body : V → Hp → (Hp → Prop) → Prop} (Pv : Nat → Hp → Prop) (h0 : Pv 0 H0) (hG : ∀ i H, i ≤ n → Pv i H → G H)
    (hs : ∀ i x H H', i < n → Pv i H → Y i H x H' → Body x H' (Pv (i + 1))) (hd : ∀ H, Pv n H → Qd H) :
    ∃ W : Nat → Nat → Hp → Prop, (∃ m, W 0 m H0) ∧ ∀ i m H, W i m H → (J.stop i H ∧ Qd H) ∨ (J.go i H ∧ ∃ Nx : Hp → Prop, (∀ H', Nx H' → ∃ m', m' < m ∧ W (i + 1) m' H') ∧ ∀ x H', J.yld i H x H' → Body x H' Nx) := by
  refine ⟨fun i m H => m = n - i ∧ i ≤ n ∧ Pv i H, ⟨n, by simp, Nat.zero_le _, h0⟩, ?_⟩
  rintro i m H ⟨rfl, hi, p⟩
  have q := hG i H hi p
  by_cases hlt : i < n
  · exact .inr ⟨w.goes i H hlt q, Pv (i + 1), fun H' p' => ⟨n - (i + 1), by omega, rfl, hlt, p'⟩, fun x H' y => hs i x H H' hlt p (w.yields i H x H' hlt q y)⟩
  · have e : i = n := by omega
    subst e
    exact .inl ⟨w.stops H q, hd H p⟩
end ITG
set_option Elab.async false
set_option linter.all false
set_option maxRecDepth 100000
set_option maxHeartbeats 4000000
namespace K20
open PySem PySem.Spec PyProof.Rows L2
open C8 (Cal Mak Met pe_c pe_mk pe_mt pe_mt0)
/-- does a car hold its folk -/
def fitB (L : List Str) (g : Str → Int) (c : Cr) : Bool := decide (((c.2.length + 1 : Nat) : Int) ≤ rm L g c.1)
def flat (cs : List Cr) : List Str := cs.flatMap fun c => c.1 :: c.2
noncomputable def carB (F L : List Str) (g : Str → Int) (cs : List Cr) : Bool := cs.all (fitB L g) && decide (sortS (flat cs) = sortS F)
theorem eqv_strs : ∀ (xs ys : List Str), PyData.eqvAll (xs.map PyData.str) (ys.map PyData.str) = decide (xs = ys)
  | [], [] => rfl
  | [], _ :: _ => by simp [PyData.eqvAll]
  | _ :: _, [] => by simp [PyData.eqvAll]
  | x :: xs, y :: ys => by
    have ih := eqv_strs xs ys
    rw [List.map_cons, List.map_cons]
    show (PyData.eqv (.str x) (.str y) && PyData.eqvAll _ _) = _
    rw [ih]
    have e : PyData.eqv (.str x) (.str y) = decide (x = y) := by
      rw [Bool.eq_iff_iff]
      simp [PyData.eqv]
    rw [e, ← Bool.decide_and]
    exact decide_eq_decide.mpr (by simp)
theorem pd_at {α β : Type} {F : α → β → Prop} : ∀ {as : List α} {bs : List β}, Paired F as bs → ∀ {i : Nat} {x : α}, as[i]? = some x → ∃ y, bs[i]? = some y ∧ F x y
  | _, _, .nil, i, x, h => by simp at h
  | a :: as, b :: bs, .cons h t, i, x, e => by
    cases i with
    | zero =>
      cases (Option.some.inj e : a = x)
      exact ⟨b, rfl, h⟩
    | succ i => exact pd_at t (i := i) e
theorem Car.keep {H H' : Hp} {t : Addr × Addr} {c : Cr} (h : Car H t c) (s : Same H H') : Car H' t c := ⟨s _ _ h.1, s _ _ h.2⟩
theorem nm_strOk {x : Str} (h : Nm x) : PyData.strOk x = true := by
  obtain ⟨l, ok, rfl⟩ := h
  unfold PyData.strOk
  rw [← Array.all_toList, List.all_eq_true]
  intro c hc
  have := ok.2.2 c hc
  exact decide_eq_true (by omega)
theorem flat_snoc (cs : List Cr) (c : Cr) : flat (cs ++ [c]) = flat cs ++ (c.1 :: c.2) := by
  unfold flat
  rw [List.flatMap_append]
  simp
theorem flat_len {cs : List Cr} {k : Nat} (h : ∀ c ∈ cs, c.2.length ≤ k) : (flat cs).length ≤ cs.length * (k + 1) := by
  induction cs with
  | nil => simp [flat]
  | cons c cs ih =>
    have h1 := h c List.mem_cons_self
    have h2 := ih fun x hx => h x (List.mem_cons_of_mem _ hx)
    unfold flat at h2 ⊢
    rw [List.flatMap_cons, List.length_append, List.length_cons, List.length_cons, Nat.succ_mul]
    omega
section
variable {P : Program} {w : World} {K : PySem.W.Frag} {mg : Str → Option Value} {base : Heap} {f : Addr} {fd : FuncData}
def spIc : Sp := fun vs H Q _ => ∃ (d : Addr) (t : Addr × Addr) (c : Cr) (L : List Str) (g : Str → Int), vs = [.ref t.1, .ref d] ∧ Car H t c ∧ H d = some (.dK (idK L g)) ∧ c.2.length ≤ 1000 ∧ ∀ H', Same H H' → Q (.bl (fitB L g c)) H'
theorem ok_ic (Fd : Dn K d_is_car f fd) (b : Bl mg) (b2 : B2 mg) : FnOk P w K mg base CX0 1 f fd ["thing", "seats"] spIc := by
  refine Fd.ok sc_is_car (fun vs H Q E h => ?_) (fun cdv A outer s H vs Q E hr h => ?_)
  · obtain ⟨_, _, _, _, _, rfl, _⟩ := h
    rfl
  · obtain ⟨d, ⟨t, u⟩, ⟨x, ys⟩, L, g, rfl, ⟨ht, hu2⟩, hd, ly, hQ⟩ := h
    have ht : H t = some (.tup [.str x, .ref u]) := ht
    have hu2 : H u = some (.tup (ys.map V.str)) := hu2
    have ly : ys.length ≤ 1000 := ly
    have hu := hu_of hr
    refine ⟨_, PSs.nox (pss_cons (ps_if (PW.pt (pw_or (pt_not (pt_val (pe_callB call_isi rfl b.isi boot_isinstance (pa_cons (pv 0) (pa_cons (pe_bltn (v := .ty "tuple") rfl b2.tup boot_tuple rfl) pa_nil)))))
        (pw_or (pt_cmpR op_ne (pe_callB call_len_seq rfl b.len boot_len (pa_cons (pv 0) pa_nil)) pe_int (nomark _)) (pw_or1 (pt_not (pt_val (pe_callB call_isi rfl b.isi boot_isinstance (pa_cons (pe_ix ix_tup (pv 0) pe_int (fun _ _ => rfl)) (pa_cons (pe_bltn (v := .ty "tuple") rfl b2.tup boot_tuple rfl) pa_nil))))))))) pss_never pss_nil)
      (pss_cons (ps_set (i := 2) sc_is_car.nd rfl (.inl rfl) (pe_lst (pa_cons (pe_ix ix_tup (pv 0) pe_int (fun _ _ => rfl)) (StX.pa_star (pe_ix ix_tup (pv 0) pe_int (fun _ _ => rfl)) pa_nil))))
      (pss_one (ps_ret (pe_and (pe_callB (cr_all rfl) rfl b.all boot_all (pa_cons (pe_lc (own := [("name", 3)]) (g := gName 3) (tt := tYes) rfl sc_is_car.nd (pi_list (pv 2)) (blkOk_by (N := N_is_car) (sc := defScope s_is_car) (by decide +kernel))
          (fun _ _ _ _ _ => pg_name (i := 3) sc_is_car.nd rfl (Or.inl rfl)) (fun _ _ _ _ _ => pts_nil) (fun _ _ _ _ _ => pe_callB (show CallR _ _ (rIsi K) from call_isi) rfl b.isi boot_isinstance (pa_cons (pv 3) (pa_cons (pe_bltn (v := .ty "str") rfl b.str boot_str rfl) pa_nil)))) pa_nil))
        (pe_one (pe_cmpR op_le (pe_callB call_len_seq rfl b.len boot_len (pa_cons (pv 2) pa_nil)) (pe_dget2 hu (pv 1) (pe_ix ix_tup (pv 0) pe_int (fun _ _ => rfl)) pe_int ⟨rfl, rfl, rfl, rfl⟩) (nomark _)))))))), ?_⟩
    refine ⟨_, rfl, _, _, _, _, true, rfl, ClsV.ty _, TyX.base (TyOf.tup ht), kit_ty (by decide +kernel), true, rfl, iteF ?_⟩
    refine ⟨_, rfl, t, _, rfl, .inr (SqT.of ht), rfl, _, rfl, iteF ?_⟩
    refine ⟨_, rfl, t, _, _, _, rfl, rfl, SqT.of ht, rfl, _, _, _, _, true, rfl, ClsV.ty _, TyX.base (TyOf.tup hu2), kit_ty (by decide +kernel), true, rfl, iteF ?_⟩
    refine ⟨_, rfl, t, _, _, _, rfl, rfl, SqT.of ht, rfl, _, rfl, t, _, _, _, rfl, rfl, SqT.of ht, rfl, u, _, rfl, .inl (SqT.of hu2), ?_⟩
    have e1 : V.str x :: (ys.map V.str ++ []) = (x :: ys).map V.str := by simp
    refine ⟨by show (V.str x :: (ys.map V.str ++ [])).length ≤ sizeLine; rw [e1, List.length_map, List.length_cons]; have : 2000 ≤ sizeLine := by decide
               omega, fun q fq => ?_⟩
    have hq : (upd H q (.lst (V.str x :: (ys.map V.str ++ [])))) q = some (.lst ((x :: ys).map V.str)) := by rw [upd_same, e1]
    have sq := same_new (o := .lst (V.str x :: (ys.map V.str ++ []))) fq
    have ht1 := sq _ _ ht
    have hd1 := sq _ _ hd
    refine ⟨_, rfl, q, rfl, ⟨_, SqL.of hq⟩, fun D fD => lc_list (K := K) (xs := (x :: ys).map V.str) (fun i H2 => H2 D = some (.lst ((List.replicate i true).map V.bl)) ∧ Same (upd H q (.lst (V.str x :: (ys.map V.str ++ [])))) H2) ⟨upd_same, same_new fD⟩ (fun i H2 _ z => SqL.of (z.2 _ _ hq)) ?_ ?_⟩
    · rintro i v H2 hv ⟨hd2, sm⟩
      obtain ⟨y, hy, rfl⟩ := strs_at hv
      have il : i < (x :: ys).length := (List.getElem?_eq_some_iff.mp hy).1
      rw [List.length_cons] at il
      refine ⟨rfl, _, rfl, _, _, _, _, true, rfl, ClsV.ty _, TyX.base (TyOf.str y), kit_ty (by decide +kernel), ?_⟩
      refine ⟨_, hd2, ?_, ?_, fun b o e => ?_⟩
      · rw [List.length_map, List.length_replicate]
        exact Nat.lt_of_lt_of_le (by omega : i < 2000) (by decide)
      · rw [upd_same]
        simp [List.replicate_succ']
      · rw [upd_ne (ne_of_none e fD)]
        exact sm _ _ e
    · rintro H2 ⟨hd2, sm⟩
      refine ⟨D, _, rfl, SqL.of hd2, ?_⟩
      have e3 : (List.replicate ((x :: ys).map V.str).length true).all id = true := by simp
      rw [e3]
      obtain ⟨ov, o1, o2⟩ := id_rm (sm _ _ hd1) x
      refine ⟨_, rfl, iteT ?_⟩
      refine ⟨_, rfl, q, _, rfl, .inl (SqL.of (sm _ _ hq)), ?_⟩
      refine ⟨_, rfl, d, rfl, .inl ⟨_, .inl (sm _ _ hd1)⟩, _, rfl, t, _, _, _, rfl, rfl, SqT.of (sm _ _ ht1), rfl, ov, o1, _, _, rfl, o2, ?_⟩
      have e4 : (((x :: ys).map V.str).length : Int) = ((ys.length + 1 : Nat) : Int) := by rw [List.length_map, List.length_cons]
      rw [e4]
      exact hQ H2 (sq.trans sm)
def spCar : Sp := fun vs H Q _ => ∃ (a d l : Addr) (F L : List Str) (g : Str → Int) (cs : List Cr), vs = [.ref a, .ref d, .ref l] ∧ H a = some (.lst (F.map V.str)) ∧ H d = some (.dK (idK L g)) ∧ Cars H l cs ∧ cs.length ≤ 50 ∧ (∀ c ∈ cs, c.2.length ≤ 50) ∧ (∀ c ∈ cs, Nm c.1 ∧ ∀ y ∈ c.2, Nm y) ∧ (∀ x ∈ F, Nm x) ∧ F.length ≤ 60 ∧ ∀ H', Same H H' → Q (.bl (carB F L g cs)) H'
theorem ok_car (Fd : Dn K d_carries f fd) (b : Bl mg) (b2 : B2 mg) (cI : Cal P w K mg base 1 "is_car" spIc []) : FnOk P w K mg base CX0 2 f fd ["riders", "seats", "thing"] spCar := by
  refine Fd.ok sc_carries (fun vs H Q E h => ?_) (fun cdv A outer s H vs Q E hr h => ?_)
  · obtain ⟨_, _, _, _, _, _, _, rfl, _⟩ := h
    rfl
  · obtain ⟨a, d, l, F, L, g, cs, rfl, ha, hd, ⟨ts, hl, pd⟩, lc, ly, nc, nF, lF, hQ⟩ := h
    have hu := hu_of hr
    have hu64 : (A.deeper (envOfC d_carries.qual d_carries.scope s.heap.objs.size f cdv)).units + 64 < cLine := by have := hr.un; omega
    refine ⟨_, PSs.nox (pss_cons (ps_if (PW.pt (pw_or (pt_not (pt_val (pe_callB call_isi rfl b.isi boot_isinstance (pa_cons (pv 2) (pa_cons (pe_bltn (v := .ty "list") rfl b.list boot_list rfl) pa_nil)))))
        (pw_or1 (pt_not (pt_val (pe_callB (cr_all rfl) rfl b.all boot_all (pa_cons (pe_lc (own := [("car", 7)]) (g := gName 7) (tt := tYes) rfl sc_carries.nd (pi_list (pv 2)) (blkOk_by (N := N_carries) (sc := defScope s_carries) (by decide +kernel))
          (fun _ _ _ _ _ => pg_name (i := 7) sc_carries.nd rfl (Or.inl rfl)) (fun _ _ _ _ _ => pts_nil) (fun _ _ _ _ _ => pe_c cI hr (by decide) rfl (pa_cons (pv 7) (pa_cons (pv 1) pa_nil)))) pa_nil))))))) (pss_one (ps_ret pe_bl)) pss_nil)
      (pss_cons (ps_setLc2 (i := 3) (own := [("driver", 4), ("others", 5), ("name", 6)]) (g := gTup K 2 (gCons (gName 4) (gCons (gName 5) gNil))) (g1 := gName 6) (tt := tYes) (tt1 := tYes) (vs1 := [6]) rfl sc_carries.nd rfl rfl (sw_true rfl rfl rfl (by decide +kernel)) (pi_list (pv 2)) (blkOk_by (N := N_carries) (sc := defScope s_carries) (by decide +kernel)) (by decide)
          (fun _ _ _ _ _ => pg_tup rfl (pgs_cons (pg_name (i := 4) sc_carries.nd rfl (Or.inl rfl)) (pgs_cons (pg_name (i := 5) sc_carries.nd rfl (Or.inl rfl)) pgs_nil))) (fun _ _ _ _ _ => pts_nil) (fun _ _ _ _ _ => (show PI _ _ _ (iList K (tLst (tCons (tVar 4) (StX.tStar K (tVar 5) tNil)))) from pi_list (pe_lst (pa_cons (pv 4) (StX.pa_star (pv 5) pa_nil))))) (fun _ _ _ _ _ => pg_name (i := 6) sc_carries.nd rfl (Or.inl rfl)) (fun _ _ _ _ _ => pts_nil) (fun _ _ _ _ _ => pv 6))
      (pss_one (ps_ret (pe_cmpR (op_eqD hu64) (pe_callB (cr_sortS hu64) rfl b2.srt boot_sorted (pa_cons (pv 3) pa_nil)) (pe_callB (cr_sortS hu64) rfl b2.srt boot_sorted (pa_cons (pv 0) pa_nil)) (nomark _)))))), ?_⟩
    refine ⟨_, rfl, _, _, _, _, true, rfl, ClsV.ty _, TyX.base (TyOf.lst hl), kit_ty (by decide +kernel), true, rfl, iteF ?_⟩
    have tl := pd_len pd
    refine ⟨_, rfl, l, rfl, ⟨_, SqL.of hl⟩, fun D fD => lc_list (K := K) (xs := ts.map fun t => V.ref t.1) (fun i G => G D = some (.lst ((cs.take i).map fun c => V.bl (fitB L g c))) ∧ Same H G) ⟨upd_same, same_new fD⟩ (fun i G _ z => SqL.of (z.2 _ _ hl)) ?_ ?_⟩
    · rintro i v G hv ⟨hD, sG⟩
      rw [List.getElem?_map] at hv
      obtain ⟨t, ht, rfl⟩ := Option.map_eq_some_iff.mp hv
      obtain ⟨c, hc, car⟩ := pd_at pd ht
      have il := (List.getElem?_eq_some_iff.mp hc).1
      refine ⟨rfl, _, rfl, _, rfl, d, t, c, L, g, rfl, car.keep sG, sG _ _ hd, by have := ly c (List.mem_of_getElem? hc); omega, fun G4 s4 => ?_⟩
      refine ⟨_, s4 _ _ hD, ?_, ?_, fun b o e => ?_⟩
      · rw [List.length_map, List.length_take]
        exact Nat.lt_of_lt_of_le (by omega : min i cs.length < 64) (by decide)
      · rw [upd_same, List.take_succ, hc, List.map_append]
        rfl
      · rw [upd_ne (ne_of_none e fD)]
        exact s4 _ _ (sG _ _ e)
    rintro G ⟨hD, sG⟩
    rw [List.length_map, tl, List.take_length] at hD
    have eD : (cs.map fun c => V.bl (fitB L g c)) = (cs.map (fitB L g)).map V.bl := by rw [List.map_map]; rfl
    rw [eD] at hD
    refine ⟨D, _, rfl, SqL.of hD, _, rfl, ?_⟩
    have ea : (cs.map (fitB L g)).all id = cs.all (fitB L g) := by rw [List.all_map]; rfl
    rw [ea]
    unfold carB at hQ
    cases hall : cs.all (fitB L g) with
    | false =>
      rw [hall] at hQ
      exact iteT (hQ G sG)
    | true =>
      rw [hall] at hQ
      refine iteF ?_
      clear hD eD ea
      have hl1 := sG _ _ hl
      refine ⟨_, rfl, l, rfl, ⟨_, SqL.of hl1⟩, fun D1 fD1 => ?_⟩
      refine ITG.it_gen (walk_list (K := K) (xs := ts.map fun t => V.ref t.1)) (fun i G1 => G1 D1 = some (.lst ((flat (cs.take i)).map V.str)) ∧ Same G G1) ⟨upd_same, same_new fD1⟩ (fun i G1 _ z => SqL.of (z.2 _ _ hl1)) ?_ ?_
      · rintro i v G1 G1' hi ⟨hD, s1⟩ ⟨rfl, hv⟩
        rw [List.getElem?_map] at hv
        obtain ⟨t, ht, rfl⟩ := Option.map_eq_some_iff.mp hv
        obtain ⟨c, hc, car⟩ := pd_at pd ht
        have il := (List.getElem?_eq_some_iff.mp hc).1
        have lyc := ly c (List.mem_of_getElem? hc)
        have car1 := car.keep (sG.trans s1)
        refine ⟨t.1, _, rfl, SqT.of car1.1, rfl, _, _, rfl, _, _, rfl, rfl, rfl, ?_⟩
        have e1 : V.str c.1 :: (c.2.map V.str ++ []) = (c.1 :: c.2).map V.str := by simp
        have lf := flat_len (cs := cs.take i) (k := 50) fun x hx => ly x (List.mem_of_mem_take hx)
        rw [List.length_take] at lf
        have lf2 : (flat (cs.take i)).length ≤ 3000 := by
          have : min i cs.length * (50 + 1) ≤ 50 * 51 := Nat.mul_le_mul (by omega) (Nat.le_refl _)
          omega
        have hlen : (V.str c.1 :: (c.2.map V.str ++ [])).length ≤ sizeLine := by
          rw [e1, List.length_map, List.length_cons]
          have : 2000 ≤ sizeLine := by decide
          omega
        refine ⟨_, rfl, _, rfl, t.2, _, rfl, .inl (SqT.of car1.2), ?_⟩
        refine ⟨hlen, fun q fq => ?_⟩
        have hq : (upd G1' q (.lst (V.str c.1 :: (c.2.map V.str ++ [])))) q = some (.lst ((c.1 :: c.2).map V.str)) := by rw [upd_same, e1]
        have sq := same_new (o := .lst (V.str c.1 :: (c.2.map V.str ++ []))) fq
        refine ⟨q, rfl, ⟨_, SqL.of hq⟩, ?_⟩
        have e0 : flat (cs.take i) ++ (c.1 :: c.2).take 0 = flat (cs.take i) := by simp
        have hD2 := sq _ _ hD
        have nqD : q ≠ D1 := (ne_of_none hD fq).symm
        refine ITG.it_gen (walk_list (K := K) (xs := (c.1 :: c.2).map V.str)) (fun j G2 => G2 D1 = some (.lst ((flat (cs.take i) ++ (c.1 :: c.2).take j).map V.str)) ∧ G2 q = some (.lst ((c.1 :: c.2).map V.str)) ∧ Same G G2) ⟨by rw [e0]; exact hD2, hq, s1.trans sq⟩ (fun j G2 _ z => SqL.of z.2.1) ?_ ?_
        · rintro j y G2 G2' hj ⟨hD3, hq3, s3⟩ ⟨rfl, hy⟩
          obtain ⟨z, hz, rfl⟩ := strs_at hy
          have jl : j < (c.1 :: c.2).length := (List.getElem?_eq_some_iff.mp hz).1
          rw [List.length_cons] at jl
          refine ⟨rfl, _, rfl, _, hD3, ?_, ?_, by rw [upd_ne nqD]; exact hq3, fun b o e => ?_⟩
          · rw [List.length_map, List.length_append, List.length_take, List.length_cons]
            exact Nat.lt_of_lt_of_le (by omega : (flat (cs.take i)).length + min j (c.2.length + 1) < 4000) (by decide)
          · rw [upd_same, List.take_succ (l := c.1 :: c.2), hz, ← List.append_assoc, List.map_append (l₁ := flat (cs.take i) ++ (c.1 :: c.2).take j)]
            rfl
          · rw [upd_ne (ne_of_none e fD1)]
            exact s3 _ _ e
        · rintro G2 ⟨hD3, hq3, s3⟩
          rw [List.length_map, List.take_length] at hD3
          refine ⟨?_, s3⟩
          rw [hD3, List.take_succ, hc]
          show _ = some (HO.lst ((flat (cs.take i ++ [c])).map V.str))
          rw [flat_snoc]
      · rintro G1 ⟨hD, s1⟩
        rw [List.length_map, tl, List.take_length] at hD
        have ha1 := s1 _ _ (sG _ _ ha)
        refine ⟨_, rfl, D1, _, rfl, .inl (SqL.of hD), fun p fp => ?_⟩
        have sp := same_new (o := .lst ((sortS (flat cs)).map V.str)) fp
        have hp : (upd G1 p (.lst ((sortS (flat cs)).map V.str))) p = some (.lst ((sortS (flat cs)).map V.str)) := upd_same
        refine ⟨_, rfl, a, _, rfl, .inl (SqL.of (sp _ _ ha1)), fun p2 fp2 => ?_⟩
        have sp2 := same_new (o := .lst ((sortS F).map V.str)) fp2
        have o1 : ∀ x ∈ sortS (flat cs), PyData.strOk x = true := fun x hx => by
          have hx := (sortS_at (flat cs)).2.1.subset hx
          obtain ⟨c, hc, hx⟩ := List.mem_flatMap.mp hx
          rcases List.mem_cons.mp hx with rfl | hx
          · exact nm_strOk (nc c hc).1
          · exact nm_strOk ((nc c hc).2 x hx)
        have o2 : ∀ x ∈ sortS F, PyData.strOk x = true := fun x hx => nm_strOk (nF x ((sortS_at F).2.1.subset hx))
        refine ⟨_, _, Dp.lst (SqL.of (sp2 _ _ hp)) (DQ.dp_strs _), Dp.lst (SqL.of upd_same) (DQ.dp_strs _), DQ.sh_strs o1, DQ.sh_strs o2, ?_⟩
        have ee : PyData.eqv (.list ((sortS (flat cs)).map PyData.str)) (.list ((sortS F).map PyData.str)) = decide (sortS (flat cs) = sortS F) := eqv_strs _ _
        rw [ee]
        exact hQ _ (((sG.trans s1).trans sp).trans sp2)
end
end K20
set_option Elab.async false
set_option linter.all false
set_option maxRecDepth 100000
set_option maxHeartbeats 4000000
namespace K20
open PySem PySem.Spec PyProof.Rows L2
open KW1 (dscI)
theorem sortS_same {xs ys : List Str} (h : xs.Perm ys) : sortS xs = sortS ys :=
  IO.sorted_same (sortS_at xs).2.2 (sortS_at ys).2.2 (((sortS_at xs).2.1.trans h).trans (sortS_at ys).2.1.symm)
theorem sortS_len (xs : List Str) : (sortS xs).length = xs.length := (sortS_at xs).2.1.length_eq
theorem carB_len {F L : List Str} {g : Str → Int} {cs : List Cr} (h : (flat cs).length ≠ F.length) : carB F L g cs = false := by
  unfold carB
  have : decide (sortS (flat cs) = sortS F) = false := decide_eq_false fun e => h (by rw [← sortS_len, e, sortS_len])
  rw [this, Bool.and_false]
/-- all sit -/
structure Sit (F L : List Str) (g : Str → Int) (cs : List Cr) : Prop where
  fit : ∀ c ∈ cs, fitB L g c = true
  pm : (flat cs).Perm F
theorem Sit.car {F L : List Str} {g : Str → Int} {cs : List Cr} (h : Sit F L g cs) : carB F L g cs = true := by
  unfold carB
  rw [List.all_eq_true.mpr h.fit, decide_eq_true (sortS_same h.pm)]
  rfl
theorem flat_app (a b : List Cr) : flat (a ++ b) = flat a ++ flat b := by
  unfold flat
  rw [List.flatMap_append]
/-- turned about -/
theorem Sit.rot {F L : List Str} {g : Str → Int} {cs : List Cr} (h : Sit F L g cs) (k : Nat) : Sit F L g (cs.drop k ++ cs.take k) := by
  refine ⟨fun c hc => h.fit c ?_, ?_⟩
  · rcases List.mem_append.mp hc with h | h
    · exact List.mem_of_mem_drop h
    · exact List.mem_of_mem_take h
  · rw [flat_app]
    refine List.perm_append_comm.trans ?_
    rw [← flat_app, List.take_append_drop]
    exact h.pm
theorem flat_at {cs : List Cr} {k : Nat} {c : Cr} (h : cs[k]? = some c) : (flat cs).length = (flat (cs.take k)).length + (c.2.length + 1) + (flat (cs.drop (k + 1))).length := by
  have il := (List.getElem?_eq_some_iff.mp h).1
  have e : cs = cs.take k ++ c :: cs.drop (k + 1) := by
    have h1 := List.take_append_drop k cs
    rw [List.drop_eq_getElem_cons il, (List.getElem?_eq_some_iff.mp h).2] at h1
    exact h1.symm
  have e2 : flat cs = flat (cs.take k) ++ ((c.1 :: c.2) ++ flat (cs.drop (k + 1))) := by
    have := congrArg flat e
    rw [flat_app] at this
    exact this
  rw [e2, List.length_append, List.length_append, List.length_cons]
  omega
/-- one car less -/
theorem Sit.less {F L : List Str} {g : Str → Int} {cs : List Cr} (h : Sit F L g cs) {k : Nat} {c : Cr} (hk : cs[k]? = some c) : carB F L g (cs.take k ++ cs.drop (k + 1)) = false := by
  refine carB_len fun e => ?_
  have h1 := flat_at hk
  have h2 := h.pm.length_eq
  rw [flat_app, List.length_append] at e
  omega
/-- a driver twice -/
theorem Sit.more {F L : List Str} {g : Str → Int} {cs : List Cr} (h : Sit F L g cs) {k : Nat} {c : Cr} (hk : cs[k]? = some c) : carB F L g (cs.take k ++ [(c.1, c.2 ++ [c.1])] ++ cs.drop (k + 1)) = false := by
  refine carB_len fun e => ?_
  have h1 := flat_at hk
  have h2 := h.pm.length_eq
  rw [flat_app, flat_app, List.length_append, List.length_append] at e
  have e3 : (flat [(c.1, c.2 ++ [c.1])]).length = c.2.length + 2 := by
    unfold flat
    simp
  omega
/-- a seat too few -/
theorem Sit.full {F L : List Str} {g : Str → Int} {cs : List Cr} {k : Nat} {c : Cr} (hk : cs[k]? = some c) : carB F (addI L c.1) (setI g c.1 (c.2.length : Nat)) cs = false := by
  unfold carB
  have : cs.all (fitB (addI L c.1) (setI g c.1 (c.2.length : Nat))) = false := by
    rw [List.all_eq_false]
    refine ⟨c, List.mem_of_getElem? hk, ?_⟩
    unfold fitB
    have hin : c.1 ∈ addI L c.1 := by
      unfold addI
      split
      · assumption
      · simp
    have e : rm (addI L c.1) (setI g c.1 (c.2.length : Nat)) c.1 = (c.2.length : Nat) := by
      unfold rm
      rw [if_pos hin]
      exact if_pos rfl
    rw [e]
    simp
    omega
  rw [this, Bool.false_and]
/-! ### who is driven sits -/
theorem fil_perm (g : Str → Int) : ∀ (ds : List Str) (u : List Cr × List Str), (flat (ds.foldl (fil1 g) u).1 ++ (ds.foldl (fil1 g) u).2).Perm (flat u.1 ++ ds ++ u.2)
  | [], u => by simp
  | x :: ds, u => by
    refine (fil_perm g ds (fil1 g u x)).trans ?_
    show (flat (u.1 ++ [(x, u.2.take _)]) ++ ds ++ u.2.drop _).Perm _
    rw [flat_snoc]
    generalize (g x - 1).toNat = n
    show (flat u.1 ++ (x :: u.2.take n) ++ ds ++ u.2.drop n).Perm (flat u.1 ++ (x :: ds) ++ u.2)
    rw [List.append_assoc, List.append_assoc, List.append_assoc]
    refine List.Perm.append_left _ ?_
    show (x :: (u.2.take n ++ (ds ++ u.2.drop n))).Perm (x :: (ds ++ u.2))
    refine List.Perm.cons x ?_
    refine (List.perm_append_comm_assoc _ _ _).trans ?_
    rw [List.take_append_drop]
theorem fil_rest (g : Str → Int) : ∀ (ds : List Str) (u : List Cr × List Str), (ds.foldl (fil1 g) u).2.length = u.2.length - (ds.map fun x => (g x - 1).toNat).sum
  | [], u => rfl
  | x :: ds, u => by
    rw [List.foldl_cons, fil_rest g ds (fil1 g u x)]
    show (u.2.drop _).length - _ = _
    rw [List.length_drop, List.map_cons, List.sum_cons, Nat.sub_sub]
theorem fil_fit (g : Str → Int) : ∀ (ds : List Str) (u : List Cr × List Str), (∀ c ∈ u.1, c.2.length ≤ (g c.1 - 1).toNat) → ∀ c ∈ (ds.foldl (fil1 g) u).1, c.2.length ≤ (g c.1 - 1).toNat
  | [], u, h => h
  | x :: ds, u, h => fil_fit g ds (fil1 g u x) fun c hc => by
    rcases List.mem_append.mp (show c ∈ u.1 ++ [(x, u.2.take (g x - 1).toNat)] from hc) with h1 | h1
    · exact h c h1
    · rw [List.mem_singleton.mp h1]
      show (u.2.take _).length ≤ _
      rw [List.length_take]
      exact Nat.min_le_left _ _
theorem sum_toNat {g : Str → Int} : ∀ {ds : List Str}, (∀ x ∈ ds, 1 ≤ g x) → (((ds.map fun x => (g x - 1).toNat).sum : Nat) : Int) = (ds.map g).sum - (ds.length : Int)
  | [], _ => rfl
  | x :: ds, h => by
    have ih := sum_toNat (ds := ds) fun y hy => h y (List.mem_cons_of_mem _ hy)
    have h1 := h x List.mem_cons_self
    rw [List.map_cons, List.sum_cons, List.map_cons, List.sum_cons, List.length_cons, Int.natCast_add, ih]
    omega
theorem part_perm {F D : List Str} (nF : F.Nodup) (nD : D.Nodup) (sub : ∀ x ∈ D, x ∈ F) : (D ++ F.filter fun x => !decide (x ∈ D)).Perm F := by
  refine (List.perm_ext_iff_of_nodup ?_ nF).mpr fun x => ?_
  · rw [List.nodup_append]
    refine ⟨nD, nF.filter _, fun a ha b hb e => ?_⟩
    have := (List.mem_filter.mp hb).2
    rw [← e] at this
    simp [ha] at this
  · rw [List.mem_append, List.mem_filter]
    constructor
    · rintro (h | h)
      · exact sub x h
      · exact h.1
    · intro h
      by_cases c : x ∈ D
      · exact .inl c
      · exact .inr ⟨h, by simp [c]⟩
theorem sit_crew {F D L : List Str} {g : Str → Int} (nF : F.Nodup) (ab : Able F L g D) (lc : lk F D L g ≤ 0) : Sit F L g (crD F D g) ∧ (crD F D g).length = D.length ∧ ∀ c ∈ crD F D g, c.1 ∈ D ∧ c.2.length ≤ F.length ∧ ∀ y ∈ c.2, y ∈ F := by
  have mem : ∀ x, x ∈ sortS D ↔ x ∈ D := fun x => (sortS_at D).2.1.mem_iff
  have ok := fil_ok g (wt F D) (sortS D)
  have wl : (wt F D).length = (F.filter fun x => !decide (x ∈ D)).length := by unfold wt; rw [sortS_len]
  have pp := part_perm nF ab.1 fun x hx => (ab.2 x hx).1
  have lp := pp.length_eq
  rw [List.length_append] at lp
  have rs := fil_rest g (sortS D) ([], wt F D)
  have st := sum_toNat (g := g) (ds := sortS D) fun x hx => (ab.2 x ((mem x).mp hx)).2.2
  have e1 : ((sortS D).map g).sum = (D.map fun x => rm L g x).sum := by
    rw [perm_sum ((sortS_at D).2.1.map g)]
    congr 1
    exact List.map_congr_left fun x hx => (if_pos (ab.2 x hx).2.1).symm
  unfold lk at lc
  rw [e1, sortS_len] at st
  have r0 : ((sortS D).foldl (fil1 g) ([], wt F D)).2 = [] := by
    refine List.length_eq_zero_iff.mp ?_
    rw [rs]
    show (wt F D).length - _ = 0
    omega
  have fp := fil_perm g (sortS D) ([], wt F D)
  rw [r0, List.append_nil] at fp
  refine ⟨⟨fun c hc => ?_, ?_⟩, ?_, fun c hc => ?_⟩
  · have h1 := fil_fit g (sortS D) ([], wt F D) (by simp) c hc
    have h2 := ab.2 c.1 ((mem _).mp (ok.2 c hc).1)
    unfold fitB
    have e : rm L g c.1 = g c.1 := if_pos h2.2.1
    rw [e]
    exact decide_eq_true (by omega)
  · refine fp.trans ?_
    show ((flat [] ++ sortS D) ++ wt F D).Perm F
    have e : flat [] = [] := rfl
    rw [e, List.nil_append]
    exact ((sortS_at D).2.1.append (sortS_at _).2.1).trans pp
  · have := ok.1
    rw [sortS_len] at this
    exact this
  · obtain ⟨h1, h2, h3⟩ := ok.2 c hc
    refine ⟨(mem _).mp h1, by omega, fun y hy => ?_⟩
    have := (sortS_at _).2.1.subset (h3 y hy)
    exact (List.mem_filter.mp this).1
end K20
set_option Elab.async false
set_option linter.all false
set_option maxRecDepth 100000
set_option maxHeartbeats 4000000
/-! xs[::s] of a list, s an expression that tells 1 or -1 -/
namespace SLS
open PySem PySem.Spec PyProof.Rows L2
def stepped (s : Int) (xs : List V) : List V := if s = 1 then xs else xs.reverse
def tStepL (K : PySem.W.Frag) (te ts : TE) : TE := fun σ H Q => te σ H fun x H1 => tPart ts σ H1 fun o H2 => ∃ a xs k, x = .ref a ∧ o = some k ∧ (k = 1 ∨ k = -1) ∧ SqL K H2 a xs ∧ ∀ p, H2 p = none → Q (.ref p) (upd H2 p (.lst (stepped k xs)))
theorem pick_one (items : Array Value) : slicePick items none none (some 1) = items := by
  have e : slicePick items none none (some 1) = slicePick items none none none := by
    unfold slicePick
    rfl
  rw [e, slicePick_all]
theorem pe_stepL {X : Cx} {e st : Expr} {te ts : TE} {p3 pos : Pos} (he : PE X e te) (hs : PE X st ts) : PE X (.Subscript e (.Slice none none (some st) p3) pos) (tStepL X.K te ts) := by
  refine ⟨fun pins s σ H Q I h => ?_⟩
  refine Subscript_ (thn (he.run pins s σ H _ I h) fun v s1 ⟨x, H1, I1, r1, q1⟩ => ?_)
  refine wpAny_Slice (thn (po_none.run pins s1 σ H1 (fun o H2 => o = none ∧ H2 = H1) I1 ⟨rfl, rfl⟩) fun vl s2 ⟨l, H2, I2, pl, el, e2⟩ => ?_)
  subst el e2
  refine thn (po_none.run pins s2 σ _ (fun o H3 => o = none ∧ H3 = H2) I2 ⟨rfl, rfl⟩) fun vu s3 ⟨u, H3, I3, pu, eu, e3⟩ => ?_
  subst eu e3
  refine thn ((po_some hs).run pins s3 σ H3 _ I3 q1) fun vs s4 ⟨o, H4, I4, ps, a, xs, k, ex, eo, k1, hx, q⟩ => ?_
  subst ex eo
  cases r1
  have I5 : Inv X pins σ H4 { s4 with heap := s4.heap.push { cls := .type "slice", data := .fields #[vl, vu, vs] } } := I4.kept (t' := s4.toks) fun b ob q => Heap.get?_push_of_some _ q
  obtain ⟨its, r, ht, hz⟩ := I5.list hx
  have hlen := r.length
  show wpAny (model X.prog X.w) X.A (subscriptTail e (.Slice none none (some st) p3) (.ref a) (.ref s4.heap.objs.size)) (EP X pins σ Q) X.xe { s4 with heap := s4.heap.push { cls := .type "slice", data := .fields #[vl, vu, vs] } }
  refine tail_any (ops := [.ref a, .ref s4.heap.objs.size]) ht.isList.typeIs (PySem.slot_list_getitem.lookup) ?_ (by with_unfolding_all rfl)
  refine wpAny_getItem_list_slice ht.isList (Heap.IsSliceOf.new _ vl vu vs) pl pu ps (by rcases k1 with rfl | rfl <;> decide) ?_ (by rw [List.size_toArray]; omega)
  rcases k1 with rfl | rfl
  · rw [pick_one]
    refine ⟨.ref _, _, I5.laid (t' := s4.toks) (o := .lst (stepped 1 xs)) (fun b ob q => Heap.get?_push_of_some _ q) (Nat.le_refl _) ?_, rfl, q _ (I5.hok.fresh (Nat.le_refl _))⟩
    exact ⟨hz, _, 0, r, Heap.get?_push_size _ rfl⟩
  · rw [PySem.W.krv_pick]
    refine ⟨.ref _, _, I5.laid (t' := s4.toks) (o := .lst (stepped (-1) xs)) (fun b ob q => Heap.get?_push_of_some _ q) (Nat.le_refl _) ?_, rfl, q _ (I5.hok.fresh (Nat.le_refl _))⟩
    have e : stepped (-1) xs = xs.reverse := if_neg (by decide)
    rw [e]
    exact ⟨by rw [List.length_reverse]; exact hz, _, 0, r.reverse, Heap.get?_push_size _ rfl⟩
end SLS
set_option Elab.async false
set_option linter.all false
set_option maxRecDepth 100000
set_option maxHeartbeats 4000000
namespace K20
open PySem PySem.Spec PyProof.Rows L2
open C8 (Cal Mak Met pe_c pe_mk pe_mt pe_mt0)
open KW1 (dscI)
theorem line_lt {n : Nat} (h : n ≤ 100000) : n < sizeLine := Nat.lt_of_le_of_lt h (by decide)
theorem take_one {α : Type} {l : List α} {i : Nat} {x : α} (h : l[i]? = some x) : l.take (i + 1) = l.take i ++ [x] := by rw [List.take_succ, h]; rfl
theorem flt_one {α : Type} {l : List α} {i : Nat} {x : α} {p : α → Bool} (h : l[i]? = some x) : (l.take (i + 1)).filter p = (l.take i).filter p ++ (if p x = true then [x] else []) := by
  rw [take_one h, List.filter_append]
  congr 1
  cases e : p x <;> simp [e]
/-- those who drive are as few as can be -/
structure Few (F L : List Str) (g : Str → Int) (E : List Str) : Prop where
  ab : Able F L g E
  sum : (F.length : Int) ≤ (E.map (rm L g)).sum
  less : ∀ x ∈ E, (E.map (rm L g)).sum - rm L g x < (F.length : Int)
  best : ∀ j, j < E.length → best j (F.map (rm L g)) < (F.length : Int)
theorem nodup_len {E F : List Str} (nd : E.Nodup) (h : ∀ x ∈ E, x ∈ F) : E.length ≤ F.length := by
  induction E generalizing F with
  | nil => exact Nat.zero_le _
  | cons y r ih =>
    obtain ⟨h1, h2⟩ := List.nodup_cons.mp nd
    have hy := h y List.mem_cons_self
    have q := ih (F := F.erase y) h2 fun z hz => (List.mem_erase_of_ne (fun e => h1 (by rw [← e]; exact hz))).mpr (h z (List.mem_cons_of_mem _ hz))
    rw [List.length_erase_of_mem hy] at q
    have := List.length_pos_of_mem hy
    rw [List.length_cons]
    omega
theorem Able.len {F L E : List Str} {g : Str → Int} (h : Able F L g E) : E.length ≤ F.length := nodup_len h.1 fun x hx => (h.2 x hx).1
theorem flt_erase {E : List Str} (nd : E.Nodup) (x : Str) : (E.filter fun y => !decide (y = x)) = E.erase x := by
  rw [nd.erase_eq_filter]
  refine List.filter_congr fun y _ => ?_
  by_cases e : y = x <;> simp [e]
theorem flt_sum {E : List Str} {s : Str → Int} (nd : E.Nodup) {x : Str} (hx : x ∈ E) : ((E.filter fun y => !decide (y = x)).map s).sum = (E.map s).sum - s x := by
  rw [flt_erase nd]
  have := perm_sum ((List.perm_cons_erase hx).map s)
  rw [List.map_cons, List.sum_cons] at this
  omega
section
variable {P : Program} {w : World} {K : PySem.W.Frag} {mg : Str → Option Value} {base : Heap} {f N fN fC : Addr} {fd fdC : FuncData}
def spSl : Sp := fun vs H Q _ => ∃ (a b d : Addr) (F D L : List Str) (g : Str → Int), vs = [.ref a, .ref b, .ref d] ∧ Fk F L g ∧ Able F L g D ∧ H a = some (.lst (F.map V.str)) ∧ H b = some (.lst (D.map V.str)) ∧ H d = some (.dK (idK L g)) ∧ ∀ H', Same H H' → Q (.bl (decide (0 < lk F D L g))) H'
theorem ok_sl (Fd : Dn K d_l_seats_lack f fd) (T : KnS K mg N fN) (te : PySem.W.exmOne K (.ref N) (.ref N) = some true) (FC : FnOk P w K mg base (L2.CX P w) 4 fC fdC ["riders", "drivers", "seats"] (spCw N)) (gC : mg "crews" = some (.ref fC)) (kC : PySem.W.keepIn K (.ref fC) = true) (bC : Binds K fdC ["riders", "drivers", "seats"] []) :
    FnOk P w K mg base CX0 5 f fd ["_law_folk", "_law_some", "_law_rooms"] spSl := by
  refine Fd.ok sc_l_seats_lack (fun vs H Q E h => ?_) (fun cdv A outer s H vs Q E hr h => ?_)
  · obtain ⟨_, _, _, _, _, _, _, rfl, _⟩ := h
    rfl
  · obtain ⟨a, b, d, F, D, L, g, rfl, fk, ab, ha, hb, hd, hQ⟩ := h
    refine ⟨_, PSs.nox (pss_cons (ps_try_only rfl rfl ⟨rfl, by decide, .inl T.g⟩ takes0
        (fun W pn xe tk _ => pss_one (ps_expr (pe_callS (E := fun σ cls d H => W cls d σ H) FC (hr.mono (by decide)) rfl gC kC bC (fun σ => passAt tk σ) (pa_cons (pv 0) (pa_cons (pv 1) (pa_cons (pv 2) pa_nil))))))
        (fun a oe cls d pn _ _ => pss_one (ps_ret pe_bl)))
      (pss_one (ps_ret pe_bl))), ?_⟩
    refine ⟨_, rfl, _, rfl, _, rfl, a, b, d, F, D, L, g, rfl, fk, ab, Nat.le_trans ab.len fk.fl, ha, hb, hd, fun k0 l H' s _ _ => ?_, fun k0 dx H' s _ _ => ?_⟩
    · have := hQ H' s
      rw [decide_eq_false (by omega)] at this
      exact this
    · have := hQ H' s
      rw [decide_eq_true k0] at this
      exact ⟨true, te, fun _ a ha => this, fun z => nomatch z⟩
def spLs : Sp := fun vs H Q _ => ∃ (a b d : Addr) (F E L : List Str) (g : Str → Int), vs = [.ref a, .ref d, .ref b] ∧ Fk F L g ∧ Few F L g E ∧ H a = some (.lst (F.map V.str)) ∧ H b = some (.lst (E.map V.str)) ∧ H d = some (.dK (idK L g)) ∧ ∀ H', Same H H' → Q (.bl true) H'
theorem ok_ls (Fd : Dn K d_l_less_right f fd) (b : Bl mg) (b2 : B2 mg) (cL : Cal P w K mg base 5 "_law_seats_lack" spSl []) : FnOk P w K mg base CX0 6 f fd ["_law_folk", "_law_rooms", "_law_some"] spLs := by
  refine Fd.ok sc_l_less_right (fun vs H Q E h => ?_) (fun cdv A outer s H vs Q E hr h => ?_)
  · obtain ⟨_, _, _, _, _, _, _, rfl, _⟩ := h
    rfl
  · obtain ⟨a, bb, d, F, D, L, g, rfl, fk, fw, ha, hb, hd, hQ⟩ := h
    have hu := hu_of hr
    have hu64 : (A.deeper (envOfC d_l_less_right.qual d_l_less_right.scope s.heap.objs.size f cdv)).units + 64 < cLine := by have := hr.un; omega
    refine ⟨_, PSs.nox (pss_cons (ps_for PassesOwn.never rfl (pi_list (pv 2)) (pg_name (i := 3) sc_l_less_right.nd rfl (.inr rfl))
        (pss_one (ps_if (pt_not (pt_val (pe_c cL hr (by decide) rfl (pa_cons (pv 0) (pa_cons (pe_lc (own := [("_law_one", 5)]) (g := gName 5) rfl sc_l_less_right.nd (pi_list (pv 2)) (blkOk_by (N := N_l_less_right) (sc := defScope s_l_less_right) (by decide +kernel))
          (fun _ _ _ _ _ => pg_name (i := 5) sc_l_less_right.nd rfl (Or.inl rfl)) (fun _ _ _ _ _ => pts_one (pt_cmpR op_ne (pv 5) (pv 3) (nomark _))) (fun _ _ _ _ _ => pv 5)) (pa_cons (pv 1) pa_nil)))))) pss_never pss_nil)))
      (pss_cons (ps_set (i := 4) sc_l_less_right.nd rfl (.inl rfl) (pe_slice sl_list (SLS.pe_stepL (pe_callB cr_sorted rfl b2.srt boot_sorted (pa_cons (pe_lc (own := [("_law_called", 3)]) (g := gName 3) (tt := tYes) rfl sc_l_less_right.nd (pi_list (pv 0)) (blkOk_by (N := N_l_less_right) (sc := defScope s_l_less_right) (by decide +kernel))
          (fun _ _ _ _ _ => pg_name (i := 3) sc_l_less_right.nd rfl (Or.inl rfl)) (fun _ _ _ _ _ => pts_nil) (fun _ _ _ _ _ => pe_dget2 hu (pv 1) (pv 3) pe_int ⟨rfl, rfl, rfl, rfl⟩)) pa_nil)) (pe_un un_neg pe_int)) po_none (po_some (pe_callB (call_max2 rfl) rfl b.max boot_max (pa_cons pe_int (pa_cons (pe_op op_sub (pe_callB call_len_seq rfl b.len boot_len (pa_cons (pv 2) pa_nil)) pe_int) pa_nil))))))
      (pss_one (ps_ret (pe_or (pe_cmpR (op_eqD hu64) (pv 2) (pe_lst pa_nil) (nomark _)) (pe_one (pe_cmpR op_lt (pe_callB (cr_sum rfl) rfl b2.sum boot_sum (pa_cons (pv 4) pa_nil)) (pe_callB call_len_seq rfl b.len boot_len (pa_cons (pv 0) pa_nil)) (nomark _)))))))), ?_⟩
    have l12 := fk.fl
    have lD := fw.ab.len
    have nd := fw.ab.1
    refine ⟨_, rfl, bb, rfl, ⟨_, SqL.of hb⟩, for_list (K := K) (xs := D.map V.str) (fun i σ G => ∃ v3 : Option V, σ = [some (.ref a), some (.ref d), some (.ref bb), v3, none, none] ∧ Same H G) ⟨_, rfl, fun _ _ e => e⟩ (fun i σ G _ z => by obtain ⟨_, _, z⟩ := z; exact SqL.of (z _ _ hb)) ?_ ?_⟩
    · rintro i v σ G hv ⟨v3, rfl, sG⟩
      obtain ⟨x, hx, rfl⟩ := strs_at hv
      have hxD := List.mem_of_getElem? hx
      refine ⟨_, rfl, _, rfl, bb, rfl, ⟨_, SqL.of (sG _ _ hb)⟩, fun q fq => ?_⟩
      refine lc_list (K := K) (xs := D.map V.str) (fun j G2 => G2 q = some (.lst (((D.take j).filter fun y => !decide (y = x)).map V.str)) ∧ Same G G2) ⟨upd_same, same_new fq⟩ (fun j G2 _ z => SqL.of (z.2 _ _ (sG _ _ hb))) ?_ ?_
      · rintro j v G2 hv ⟨hq, s2⟩
        obtain ⟨y, hy, rfl⟩ := strs_at hv
        refine ⟨rfl, _, rfl, _, rfl, rfl, _, rfl, ?_⟩
        rw [flt_one hy]
        have ln : (((D.take j).filter fun y => !decide (y = x)).map V.str).length ≤ 12 := by
          rw [List.length_map]
          have h1 := List.length_filter_le (fun y => !decide (y = x)) (D.take j)
          rw [List.length_take] at h1
          omega
        have ev : (!decide (V.str y = V.str x)) = !decide (y = x) := by
          congr 1
          exact decide_eq_decide.mpr ⟨fun z => V.str.inj z, fun z => by rw [z]⟩
        rw [ev]
        refine ite2 (fun c => ?_) (fun c => ?_)
        · refine ⟨_, rfl, _, hq, line_lt (by omega), ?_, fun b w e => ?_⟩
          · rw [upd_same, if_pos c, List.map_append]
            rfl
          · rw [upd_ne (ne_of_none e fq)]
            exact s2 _ _ e
        · rw [if_neg c, List.append_nil]
          exact ⟨hq, s2⟩
      rintro G2 ⟨hq, s2⟩
      rw [List.length_map, List.take_length] at hq
      have s02 := sG.trans s2
      have ab' : Able F L g (D.filter fun y => !decide (y = x)) := ⟨nd.filter _, fun y hy => fw.ab.2 y (List.mem_filter.mp hy).1⟩
      refine ⟨_, rfl, a, q, d, F, _, L, g, rfl, fk, ab', s02 _ _ ha, hq, s02 _ _ hd, fun G3 s3 => ⟨_, rfl, ?_⟩⟩
      have k0 : 0 < lk F (D.filter fun y => !decide (y = x)) L g := by
        have h1 := fw.less x hxD
        have h2 := flt_sum (s := rm L g) nd hxD
        have h3 : lk F (D.filter fun y => !decide (y = x)) L g = (F.length : Int) - ((D.filter fun y => !decide (y = x)).map (rm L g)).sum := rfl
        omega
      rw [decide_eq_true k0]
      exact iteF ⟨_, rfl, s02.trans s3⟩
    rintro σ G ⟨v3, rfl, sG⟩
    refine ⟨_, rfl, a, rfl, ⟨_, SqL.of (sG _ _ ha)⟩, fun q fq => ?_⟩
    refine lc_list (K := K) (xs := F.map V.str) (fun j G2 => G2 q = some (.lst (((F.take j).map (rm L g)).map V.int)) ∧ Same G G2) ⟨upd_same, same_new fq⟩ (fun j G2 _ z => SqL.of (z.2 _ _ (sG _ _ ha))) ?_ ?_
    · rintro j v G2 hv ⟨hq, s2⟩
      obtain ⟨y, hy, rfl⟩ := strs_at hv
      have jl := (List.getElem?_eq_some_iff.mp hy).1
      obtain ⟨ov, o1, o2⟩ := id_rm (s2 _ _ (sG _ _ hd)) y
      refine ⟨rfl, _, rfl, d, rfl, .inl ⟨_, .inl (s2 _ _ (sG _ _ hd))⟩, _, rfl, ov, o1, ?_⟩
      rw [o2]
      refine ⟨_, hq, ?_, ?_, fun b w e => ?_⟩
      · rw [List.length_map, List.length_map, List.length_take]
        exact line_lt (by omega)
      · rw [upd_same, take_one hy, List.map_append, List.map_append]
        rfl
      · rw [upd_ne (ne_of_none e fq)]
        exact s2 _ _ e
    rintro G2 ⟨hq, s2⟩
    rw [List.length_map, List.take_length] at hq
    refine ⟨q, _, rfl, SqL.of hq, by rw [List.length_map]; omega, fun ns p pm pw fp => ?_⟩
    have sp := same_new (o := .lst (ns.map V.int)) fp
    have hp : (upd G2 p (.lst (ns.map V.int))) p = some (.lst (ns.map V.int)) := upd_same
    have s03 := (sG.trans s2).trans sp
    generalize upd G2 p (.lst (ns.map V.int)) = G3 at hp s03 ⊢
    refine ⟨_, rfl, _, rfl, p, _, _, rfl, rfl, .inr rfl, SqL.of hp, fun r fr => ?_⟩
    have er : SLS.stepped (-(1 : Int)) (ns.map V.int) = (dscI (F.map (rm L g))).map V.int := by
      have h1 : SLS.stepped (-(1 : Int)) (ns.map V.int) = (ns.map V.int).reverse := if_neg (by decide)
      rw [h1, ← List.map_reverse]
      congr 1
      have pm2 : ns.reverse.Perm (dscI (F.map (rm L g))) := ((List.reverse_perm ns).trans pm).trans (dsc_perm _).symm
      exact List.Perm.eq_of_pairwise (le := fun a b : Int => b ≤ a) (fun a b _ _ h1 h2 => Int.le_antisymm h2 h1) (List.pairwise_reverse.mpr pw) (dsc_pw _) pm2
    rw [er]
    have sr := same_new (o := .lst ((dscI (F.map (rm L g))).map V.int)) fr
    have hr4 : (upd G3 r (.lst ((dscI (F.map (rm L g))).map V.int))) r = some (.lst ((dscI (F.map (rm L g))).map V.int)) := upd_same
    have s04 := s03.trans sr
    generalize upd G3 r (.lst ((dscI (F.map (rm L g))).map V.int)) = G4 at hr4 s04 ⊢
    have hb4 := s04 _ _ hb
    have ha4 := s04 _ _ ha
    refine ⟨_, rfl, bb, _, rfl, .inl (SqL.of hb4), _, _, rfl, rfl, _, _, rfl, _, rfl, r, _, rfl, SqL.of hr4, fun m fm => ?_⟩
    have emx : (if ((D.map V.str).length : Int) - 1 > 0 then ((D.map V.str).length : Int) - 1 else 0) = ((D.length - 1 : Nat) : Int) := by
      rw [List.length_map]
      split <;> omega
    rw [emx, cut_take V.int (Int.natCast_nonneg _), Int.toNat_natCast]
    have sm := same_new (o := .lst (((dscI (F.map (rm L g))).take (D.length - 1)).map V.int)) fm
    have hm : (upd G4 m (.lst (((dscI (F.map (rm L g))).take (D.length - 1)).map V.int))) m = some (.lst (((dscI (F.map (rm L g))).take (D.length - 1)).map V.int)) := upd_same
    have s05 := s04.trans sm
    generalize upd G4 m (.lst (((dscI (F.map (rm L g))).take (D.length - 1)).map V.int)) = G5 at hm s05 ⊢
    refine ⟨_, rfl, ?_⟩
    refine ⟨by show 0 ≤ sizeLine; decide, fun e0 fe => ?_⟩
    have se := same_new (o := .lst []) fe
    have oD : ∀ x ∈ D, PyData.strOk x = true := fun x hx => nm_strOk (fk.fn x (fw.ab.2 x hx).1)
    refine ⟨_, _, Dp.lst (SqL.of (se _ _ (s05 _ _ hb))) (DQ.dp_strs D), Dp.lst (SqL.of upd_same) .nil, DQ.sh_strs oD, by decide, ?_⟩
    have s06 := s05.trans se
    have ee : PyData.eqv (.list (D.map PyData.str)) (.list []) = decide (D = []) := eqv_strs D []
    rw [ee]
    refine ⟨_, rfl, ?_⟩
    refine ite2 (fun c => hQ _ s06) (fun c => ?_)
    have ne : D ≠ [] := fun z => c (decide_eq_true z)
    have dl : 0 < D.length := List.length_pos_iff.mpr ne
    refine ⟨_, rfl, m, _, rfl, SqL.of (se _ _ hm), ?_⟩
    refine ⟨_, rfl, a, _, rfl, .inl (SqL.of (s06 _ _ ha)), _, _, rfl, rfl, ?_⟩
    have lt := fw.best (D.length - 1) (by omega)
    have e2 : decide (((dscI (F.map (rm L g))).take (D.length - 1)).sum < (((F.map V.str).length : Nat) : Int)) = true := decide_eq_true (by rw [List.length_map]; exact lt)
    show Q (V.bl (decide (((dscI (F.map (rm L g))).take (D.length - 1)).sum < (((F.map V.str).length : Nat) : Int)))) _
    rw [e2]
    exact hQ _ s06
end
end K20
set_option Elab.async false
set_option linter.all false
set_option maxRecDepth 100000
set_option maxHeartbeats 4000000
namespace K20
open PySem PySem.Spec PyProof.Rows L2
open C8 (Cal Mak Met pe_c pe_mk pe_mt pe_mt0)
open KW1 (dscI)
/-- whoever stands ahead in the row can't do it in another's place -/
def Swp (F L : List Str) (g : Str → Int) (E Z : List Str) : Prop := ∀ {A B : List Str} {o p : Str}, Z = A ++ o :: B → o ∉ E → p ∈ B → p ∈ E → (E.map (rm L g)).sum - rm L g p + rm L g o < (F.length : Int)
theorem idx_at {Z : List Str} (nd : Z.Nodup) {x : Str} (h : x ∈ Z) : ∃ j : Nat, Z[j]? = some x ∧ ∀ (m : Nat) (y : Str), m < j → Z[m]? = some y → y ≠ x := by
  obtain ⟨j, hj, e⟩ := List.mem_iff_getElem.mp h
  refine ⟨j, by rw [List.getElem?_eq_getElem hj, e], fun m y hm hy z => ?_⟩
  subst z
  have e2 : Z[m]? = Z[j]? := by rw [hy, List.getElem?_eq_getElem hj, e]
  have := (List.getElem?_inj (by omega : m < Z.length) nd).mp e2
  omega
theorem idx_v {Z : List Str} {x : Str} {j : Nat} (h1 : Z[j]? = some x) (h2 : ∀ (m : Nat) (y : Str), m < j → Z[m]? = some y → y ≠ x) : (Z.map V.str)[j]? = some (.str x) ∧ eqV (.str x) (.str x) = true ∧ ∀ (m : Nat) (z' : V), m < j → (Z.map V.str)[m]? = some z' → eqV z' (.str x) = false := by
  refine ⟨by rw [List.getElem?_map, h1]; rfl, by simp [eqV], fun m z' hm hz => ?_⟩
  obtain ⟨y, hy, rfl⟩ := strs_at hz
  have := h2 m y hm hy
  simp [eqV, this]
section
variable {P : Program} {w : World} {K : PySem.W.Frag} {mg : Str → Option Value} {base : Heap} {f : Addr} {fd : FuncData}
def spPu : Sp := fun vs H Q _ => ∃ (a b d r : Addr) (F E L Z : List Str) (g : Str → Int), vs = [.ref a, .ref d, .ref b, .ref r] ∧ Fk F L g ∧ Few F L g E ∧ Z.Perm F ∧ Swp F L g E Z ∧ H a = some (.lst (F.map V.str)) ∧ H b = some (.lst (E.map V.str)) ∧ H r = some (.lst (Z.map V.str)) ∧ H d = some (.dK (idK L g)) ∧ ∀ H', Same H H' → Q (.bl true) H'
theorem ok_pu (Fd : Dn K d_l_put_right f fd) (b : Bl mg) (cL : Cal P w K mg base 5 "_law_seats_lack" spSl []) : FnOk P w K mg base CX0 6 f fd ["_law_folk", "_law_rooms", "_law_some", "_law_row"] spPu := by
  refine Fd.ok sc_l_put_right (fun vs H Q E h => ?_) (fun cdv A outer s H vs Q E hr h => ?_)
  · obtain ⟨_, _, _, _, _, _, _, _, _, rfl, _⟩ := h
    rfl
  · obtain ⟨a, bb, d, r, F, D, L, Z, g, rfl, fk, fw, pz, sw, ha, hb, hrr, hd, hQ⟩ := h
    have hu := hu_of hr
    refine ⟨_, PSs.nox (pss_cons (ps_for PassesOwn.never rfl (pi_list (pv 2)) (pg_name (i := 4) sc_l_put_right.nd rfl (.inr rfl))
        (pss_one (ps_for PassesOwn.never rfl (pi_list (pv 3)) (pg_name (i := 5) sc_l_put_right.nd rfl (.inl rfl))
          (pss_one (ps_if (PW.pt (pw_and (pt_cmpR op_notIn_seq (pv 5) (pv 2) (by rfl)) (pw_and1 (pt_cmpR op_gt (pe_dget2 hu (pv 1) (pv 5) pe_int ⟨rfl, rfl, rfl, rfl⟩) pe_int (nomark _)))))
            (pss_cons (ps_set (i := 6) sc_l_put_right.nd rfl (.inl rfl) (pe_op op_cat (pe_lc (own := [("_law_called", 7)]) (g := gName 7) rfl sc_l_put_right.nd (pi_list (pv 2)) (blkOk_by (N := N_l_put_right) (sc := defScope s_l_put_right) (by decide +kernel))
                (fun _ _ _ _ _ => pg_name (i := 7) sc_l_put_right.nd rfl (Or.inl rfl)) (fun _ _ _ _ _ => pts_one (pt_cmpR op_ne (pv 7) (pv 4) (nomark _))) (fun _ _ _ _ _ => pv 7)) (pe_lst (pa_cons (pv 5) pa_nil))))
            (pss_one (ps_if (PW.pt (pw_and (pt_not (pt_val (pe_c cL hr (by decide) rfl (pa_cons (pv 0) (pa_cons (pv 6) (pa_cons (pv 1) pa_nil)))))) (pw_and1 (pt_cmpR op_lt (pe_bm PySem.F.plainAttrs_list PySem.F.slot_list_index PySem.F.type_list_index mt_index (pv 3) (pa_cons (pv 5) pa_nil)) (pe_bm PySem.F.plainAttrs_list PySem.F.slot_list_index PySem.F.type_list_index mt_index (pv 3) (pa_cons (pv 4) pa_nil)) (nomark _))))) pss_never pss_nil))) pss_nil)))))
      (pss_one (ps_ret pe_bl))), ?_⟩
    have l12 := fk.fl
    have lD := fw.ab.len
    have nd := fw.ab.1
    have zl := pz.length_eq
    have zn : Z.Nodup := pz.nodup_iff.mpr fk.nd
    refine ⟨_, rfl, bb, rfl, ⟨_, SqL.of hb⟩, for_list (K := K) (xs := D.map V.str) (fun i σ G => ∃ v4 v5 v6 : Option V, σ = [some (.ref a), some (.ref d), some (.ref bb), some (.ref r), v4, v5, v6, none] ∧ Same H G) ⟨_, _, _, rfl, fun _ _ e => e⟩ (fun i σ G _ z => by obtain ⟨_, _, _, _, z⟩ := z; exact SqL.of (z _ _ hb)) ?_ ?_⟩
    · rintro i v σ G hv ⟨v4, v5, v6, rfl, sG⟩
      obtain ⟨x, hx, rfl⟩ := strs_at hv
      have hxD := List.mem_of_getElem? hx
      refine ⟨_, rfl, r, rfl, ⟨_, SqL.of (sG _ _ hrr)⟩, for_list (K := K) (xs := Z.map V.str) (fun i σ G2 => ∃ v5 v6 : Option V, σ = [some (.ref a), some (.ref d), some (.ref bb), some (.ref r), some (.str x), v5, v6, none] ∧ Same G G2) ⟨_, _, rfl, fun _ _ e => e⟩ (fun i σ G2 _ z => by obtain ⟨_, _, _, z⟩ := z; exact SqL.of (z _ _ (sG _ _ hrr))) ?_ ?_⟩
      · rintro i2 v2 σ G2 hv2 ⟨v5, v6, rfl, s2⟩
        obtain ⟨y, hy, rfl⟩ := strs_at hv2
        have hyZ := List.mem_of_getElem? hy
        have s02 := sG.trans s2
        obtain ⟨ov, o1, o2⟩ := id_rm (s02 _ _ hd) y
        refine ⟨_, rfl, _, rfl, bb, _, rfl, .inl (SqL.of (s02 _ _ hb)), rfl, flat_strs D, _, rfl, ?_⟩
        rw [in_strs]
        refine ite2 (fun c1 => ?_) (fun c1 => ⟨_, _, rfl, s2⟩)
        have nyD : y ∉ D := by simpa using c1
        refine ⟨_, rfl, d, rfl, .inl ⟨_, .inl (s02 _ _ hd)⟩, _, rfl, ov, o1, _, _, o2, rfl, _, rfl, ?_⟩
        refine ite2 (fun c2 => ?_) (fun c2 => ⟨_, _, rfl, s2⟩)
        have py : 0 < rm L g y := of_decide_eq_true c2
        have yF := pz.subset hyZ
        obtain ⟨yL, y1⟩ := rm_able py
        refine ⟨_, rfl, bb, rfl, ⟨_, SqL.of (s02 _ _ hb)⟩, fun q fq => ?_⟩
        refine lc_list (K := K) (xs := D.map V.str) (fun j G3 => G3 q = some (.lst (((D.take j).filter fun y => !decide (y = x)).map V.str)) ∧ Same G2 G3) ⟨upd_same, same_new fq⟩ (fun j G3 _ z => SqL.of (z.2 _ _ (s02 _ _ hb))) ?_ ?_
        · rintro j v G3 hv ⟨hq, s3⟩
          obtain ⟨u, hu3, rfl⟩ := strs_at hv
          refine ⟨rfl, _, rfl, _, rfl, rfl, _, rfl, ?_⟩
          rw [flt_one hu3]
          have ln : (((D.take j).filter fun y => !decide (y = x)).map V.str).length ≤ 12 := by
            rw [List.length_map]
            have h1 := List.length_filter_le (fun y => !decide (y = x)) (D.take j)
            rw [List.length_take] at h1
            omega
          have ev : (!decide (V.str u = V.str x)) = !decide (u = x) := by
            congr 1
            exact decide_eq_decide.mpr ⟨fun z => V.str.inj z, fun z => by rw [z]⟩
          rw [ev]
          refine ite2 (fun c => ?_) (fun c => ?_)
          · refine ⟨_, rfl, _, hq, line_lt (by omega), ?_, fun b w e => ?_⟩
            · rw [upd_same, if_pos c, List.map_append]
              rfl
            · rw [upd_ne (ne_of_none e fq)]
              exact s3 _ _ e
          · rw [if_neg c, List.append_nil]
            exact ⟨hq, s3⟩
        rintro G3 ⟨hq, s3⟩
        rw [List.length_map, List.take_length] at hq
        have ln : (D.filter fun y => !decide (y = x)).length ≤ 12 := Nat.le_trans (List.length_filter_le _ _) (by omega)
        refine ⟨_, rfl, by show 1 ≤ sizeLine; decide, fun e0 fe => ?_⟩
        have se := same_new (o := .lst [V.str y]) fe
        have hlen : (((D.filter fun y => !decide (y = x)).map V.str).length + [V.str y].length) ≤ sizeLine := by
          rw [List.length_map]
          have : 13 ≤ sizeLine := by decide
          show _ + 1 ≤ _
          omega
        refine ⟨q, e0, _, _, rfl, rfl, se _ _ hq, upd_same, hlen, fun p fp => ?_⟩
        have ep : (D.filter fun y => !decide (y = x)).map V.str ++ [V.str y] = ((D.filter fun y => !decide (y = x)) ++ [y]).map V.str := by rw [List.map_append]; rfl
        rw [ep]
        have sp := same_new (o := .lst (((D.filter fun y => !decide (y = x)) ++ [y]).map V.str)) fp
        have hp : (upd (upd G3 e0 (.lst [V.str y])) p (.lst (((D.filter fun y => !decide (y = x)) ++ [y]).map V.str))) p = some (.lst (((D.filter fun y => !decide (y = x)) ++ [y]).map V.str)) := upd_same
        have s4 := ((s2.trans s3).trans se).trans sp
        generalize upd (upd G3 e0 (.lst [V.str y])) p (.lst (((D.filter fun y => !decide (y = x)) ++ [y]).map V.str)) = G4 at hp s4 ⊢
        have s04 := sG.trans s4
        have ab' : Able F L g ((D.filter fun y => !decide (y = x)) ++ [y]) := by
          refine ⟨List.nodup_append.mpr ⟨nd.filter _, by simp, fun u hu4 v hv e => ?_⟩, fun u hu4 => ?_⟩
          · rw [List.mem_singleton.mp hv] at e
            exact nyD (e ▸ (List.mem_filter.mp hu4).1)
          · rcases List.mem_append.mp hu4 with h | h
            · exact fw.ab.2 u (List.mem_filter.mp h).1
            · rw [List.mem_singleton.mp h]
              exact ⟨yF, yL, y1⟩
        have elk : lk F ((D.filter fun y => !decide (y = x)) ++ [y]) L g = (F.length : Int) - ((D.map (rm L g)).sum - rm L g x + rm L g y) := by
          have h2 := flt_sum (s := rm L g) nd hxD
          have h3 : lk F ((D.filter fun y => !decide (y = x)) ++ [y]) L g = (F.length : Int) - (((D.filter fun y => !decide (y = x)) ++ [y]).map (rm L g)).sum := rfl
          rw [h3, List.map_append, List.sum_append, h2]
          simp
        refine ⟨_, rfl, _, rfl, _, rfl, a, p, d, F, _, L, g, rfl, fk, ab', s04 _ _ ha, hp, s04 _ _ hd, fun G5 s5 => ⟨_, rfl, ?_⟩⟩
        refine ite2 (fun c3 => ?_) (fun c3 => ⟨_, _, rfl, s4.trans s5⟩)
        have k0 : ¬ 0 < lk F ((D.filter fun y => !decide (y = x)) ++ [y]) L g := by simpa using c3
        have hxZ : x ∈ Z := pz.symm.subset (fw.ab.2 x hxD).1
        obtain ⟨j1, a1, a2⟩ := idx_at zn hyZ
        obtain ⟨j2, b1, b2⟩ := idx_at zn hxZ
        have r5 := SqL.of (K := K) ((s04.trans s5) _ _ hrr)
        obtain ⟨q1, q2, q3⟩ := idx_v a1 a2
        obtain ⟨t1, t2, t3⟩ := idx_v b1 b2
        refine ⟨_, rfl, .inl ⟨rfl, _, r5⟩, _, rfl, r, Z.map V.str, .str y, j1, .str y, rfl, rfl, r5, rfl, flat_strs Z, q1, q2, q3, ?_⟩
        refine ⟨_, rfl, .inl ⟨rfl, _, r5⟩, _, rfl, r, Z.map V.str, .str x, j2, .str x, rfl, rfl, r5, rfl, flat_strs Z, t1, t2, t3, ?_⟩
        refine ⟨_, _, rfl, rfl, _, rfl, ?_⟩
        have nlt : ¬ ((j1 : Nat) : Int) < ((j2 : Nat) : Int) := fun z => by
          have z' : j1 < j2 := by omega
          have l1 := (List.getElem?_eq_some_iff.mp a1).1
          have eZ : Z = Z.take j1 ++ y :: Z.drop (j1 + 1) := by
            have h1 := List.take_append_drop j1 Z
            rw [List.drop_eq_getElem_cons l1, (List.getElem?_eq_some_iff.mp a1).2] at h1
            exact h1.symm
          have hxB : x ∈ Z.drop (j1 + 1) := by
            refine List.mem_of_getElem? (i := j2 - (j1 + 1)) ?_
            rw [List.getElem?_drop, show j1 + 1 + (j2 - (j1 + 1)) = j2 by omega]
            exact b1
          have := sw eZ nyD hxB hxD
          rw [elk] at k0
          omega
        rw [decide_eq_false nlt]
        exact iteF ⟨_, _, rfl, s4.trans s5⟩
      · rintro σ G2 ⟨v5, v6, rfl, s2⟩
        exact ⟨_, _, _, rfl, sG.trans s2⟩
    · rintro σ G ⟨v4, v5, v6, rfl, sG⟩
      exact hQ G sG
end
end K20
set_option Elab.async false
set_option linter.all false
set_option maxRecDepth 100000
set_option maxHeartbeats 4000000
namespace K20
open PySem PySem.Spec PyProof.Rows L2
open C8 (Cal Mak Met pe_c pe_mk pe_mt pe_mt0)
theorem pd_app {α β : Type} {F : α → β → Prop} : ∀ {as : List α} {bs : List β} {cs : List α} {ds : List β}, Paired F as bs → Paired F cs ds → Paired F (as ++ cs) (bs ++ ds)
  | _, _, _, _, .nil, h => h
  | _, _, _, _, .cons h t, q => .cons h (pd_app t q)
theorem pd_take {α β : Type} {F : α → β → Prop} : ∀ {as : List α} {bs : List β} (n : Nat), Paired F as bs → Paired F (as.take n) (bs.take n)
  | _, _, 0, _ => by simp only [List.take_zero]; exact .nil
  | _, _, _ + 1, .nil => .nil
  | _, _, n + 1, .cons h t => .cons h (pd_take n t)
theorem pd_drop {α β : Type} {F : α → β → Prop} : ∀ {as : List α} {bs : List β} (n : Nat), Paired F as bs → Paired F (as.drop n) (bs.drop n)
  | _, _, 0, h => h
  | _, _, _ + 1, .nil => .nil
  | _, _, n + 1, .cons _ t => pd_drop n t
def trf (ts : List (Addr × Addr)) : List V := ts.map fun t => V.ref t.1
/-- a tuple lengthened -/
def rApp (K : PySem.W.Frag) : V → V → Hp → VK → Prop := fun x y H Q => ∃ a b xs ys, x = .ref a ∧ y = .ref b ∧ H a = some (.tup xs) ∧ H b = some (.tup ys) ∧ ys ≠ [] ∧ xs.length + ys.length ≤ sizeLine ∧ ∀ u H', Same H H' → H' u = some (.tup (xs ++ ys)) → Q (.ref u) H'
theorem op_app {X : Cx} : OpR X (binaryOp .Add) (rApp X.K) := by
  intro pins s σ H x y v u Q I rx ry h
  refine op_catA pins s σ H x y v u Q I rx ry ?_
  obtain ⟨a, b, xs, ys, e1, e2, h1, h2, ne, l, q⟩ := h
  exact ⟨a, b, xs, ys, e1, e2, SqT.of h1, SqT.of h2, l, fun e => q b H (fun _ _ z => z) (by rw [e]; exact h2), fun _ e => absurd e ne, fun _ _ p fp => q p _ (same_new fp) upd_same⟩
section
variable {P : Program} {w : World} {K : PySem.W.Frag} {mg : Str → Option Value} {base : Heap} {f : Addr} {fd : FuncData}
def spCh : Sp := fun vs H Q _ => ∃ (a d l : Addr) (F L : List Str) (g : Str → Int) (cs : List Cr), vs = [.ref a, .ref d, .ref l] ∧ Fk F L g ∧ H a = some (.lst (F.map V.str)) ∧ H d = some (.dK (idK L g)) ∧ Cars H l cs ∧ Sit F L g cs ∧ cs.length ≤ 12 ∧ (∀ c ∈ cs, c.2.length ≤ 12 ∧ Nm c.1 ∧ ∀ y ∈ c.2, Nm y) ∧ ∀ H', Same H H' → Q (.bl true) H'
theorem ok_ch (Fd : Dn K d_l_changed_right f fd) (b : Bl mg) (bd : mg "dict" = none) (cC : Cal P w K mg base 2 "carries" spCar []) : FnOk P w K mg base CX0 3 f fd ["_law_folk", "_law_rooms", "_law_cars"] spCh := by
  refine Fd.ok sc_l_changed_right (fun vs H Q E h => ?_) (fun cdv A outer s H vs Q E hr h => ?_)
  · obtain ⟨_, _, _, _, _, _, _, rfl, _⟩ := h
    rfl
  · obtain ⟨a, d, l, F, L, g, cs, rfl, fk, ha, hd, ⟨ts, hl, pd⟩, sit, lc, ok, hQ⟩ := h
    have hu := hu_of hr
    refine ⟨_, PSs.nox (pss_cons (ps_for PassesOwn.never rfl (pi_range1 rfl b.range (pa_cons (pe_callB call_len_seq rfl b.len boot_len (pa_cons (pv 2) pa_nil)) pa_nil)) (pg_name (i := 3) sc_l_changed_right.nd rfl (.inl rfl))
        (pss_cons (ps_asg (pe_ix ix_list (pv 2) (pv 3) (fun _ _ => rfl)) (pg_tup rfl (pgs_cons (pg_name (i := 4) sc_l_changed_right.nd rfl (.inl rfl)) (pgs_cons (pg_name (i := 5) sc_l_changed_right.nd rfl (.inl rfl)) pgs_nil))))
        (pss_cons (ps_par (i := 6) (j := 7) rfl sc_l_changed_right.nd rfl rfl (by decide) rfl rfl (pa_cons (pe_op op_cat (pe_slice sl_list (pv 2) po_none (po_some (pv 3))) (pe_slice sl_list (pv 2) (po_some (pe_op op_add (pv 3) pe_int)) po_none))
            (pa_cons (pe_op op_cat (pe_op op_cat (pe_slice sl_list (pv 2) po_none (po_some (pv 3))) (pe_lst (pa_cons (pe_tup (pa_cons (pv 4) (pa_cons (pe_op op_app (pv 5) (pe_tup (pa_cons (pv 4) pa_nil))) pa_nil))) pa_nil))) (pe_slice sl_list (pv 2) (po_some (pe_op op_add (pv 3) pe_int)) po_none)) pa_nil)) rfl)
        (pss_cons (ps_if (PW.pt (pw_or (pt_val (pe_c cC hr (by decide) rfl (pa_cons (pv 0) (pa_cons (pv 1) (pa_cons (pv 6) pa_nil))))) (pw_or1 (pt_val (pe_c cC hr (by decide) rfl (pa_cons (pv 0) (pa_cons (pv 1) (pa_cons (pv 7) pa_nil)))))))) pss_never pss_nil)
        (pss_cons (ps_set (i := 8) sc_l_changed_right.nd rfl (.inl rfl) (pe_callTy call_dictD rfl bd (by decide +kernel) (pa_cons (pv 1) pa_nil)))
        (pss_cons (ps_dput hu (pv 8) (pv 4) (pe_callB call_len_seq rfl b.len boot_len (pa_cons (pv 5) pa_nil)) rfl)
        (pss_one (ps_if (PW.pt (pw_or (pt_val (pe_c cC hr (by decide) rfl (pa_cons (pv 0) (pa_cons (pv 8) (pa_cons (pv 2) pa_nil))))) (pw_or1 (pt_not (pt_val (pe_c cC hr (by decide) rfl (pa_cons (pv 0) (pa_cons (pv 1) (pa_cons (pe_op op_cat (pe_slice sl_list (pv 2) (po_some (pv 3)) po_none) (pe_slice sl_list (pv 2) po_none (po_some (pv 3)))) pa_nil))))))))) pss_never pss_nil))))))))
      (pss_one (ps_ret pe_bl))), ?_⟩
    have tl := pd_len pd
    have okt : ∀ cs2 : List Cr, (∀ c ∈ cs2, c ∈ cs) → (∀ c ∈ cs2, c.2.length ≤ 50) ∧ ∀ c ∈ cs2, Nm c.1 ∧ ∀ y ∈ c.2, Nm y := fun cs2 h => ⟨fun c hc => by have := (ok c (h c hc)).1; omega, fun c hc => (ok c (h c hc)).2⟩
    refine ⟨_, rfl, l, _, rfl, .inl (SqL.of hl), ?_⟩
    have hl : H l = some (.lst (trf ts)) := hl
    have ltr : (trf ts).length = cs.length := by unfold trf; rw [List.length_map, tl]
    refine ⟨_, rfl, ?_, ?_, ?_⟩
    · have : (0 : Int) ≤ ((ts.map fun t => V.ref t.1).length : Nat) := Int.natCast_nonneg _
      omega
    · rw [List.length_map, tl]
      omega
    rw [Int.toNat_natCast]
    refine for_range (n := (ts.map fun t => V.ref t.1).length) (fun k σ G => ∃ v3 v4 v5 v6 v7 v8 : Option V, σ = [some (.ref a), some (.ref d), some (.ref l), v3, v4, v5, v6, v7, v8] ∧ Same H G) ⟨_, _, _, _, _, _, rfl, fun _ _ e => e⟩ ?_ ?_
    · rintro k σ G hk ⟨v3, v4, v5, v6, v7, v8, rfl, sG⟩
      rw [Int.zero_add]
      have hk : k < cs.length := by rw [List.length_map, tl] at hk; exact hk
      obtain ⟨t, ht⟩ : ∃ t, ts[k]? = some t := ⟨_, List.getElem?_eq_getElem (by omega)⟩
      obtain ⟨c, hc, car⟩ := pd_at pd ht
      have cok := ok c (List.mem_of_getElem? hc)
      have lG := sG _ _ hl
      have car1 := car.keep sG
      have car0 := car
      have pdG : Paired (Car G) ts cs := pd_mono pd fun x y h => h.keep sG
      refine ⟨_, rfl, _, rfl, l, _, _, _, rfl, rfl, SqL.of lG, atI_nat (by unfold trf; rw [List.getElem?_map, ht]; rfl), ?_⟩
      refine ⟨t.1, _, rfl, SqT.of car1.1, rfl, _, _, rfl, _, _, rfl, rfl, ?_⟩
      -- the two that are asked
      have kN : (0 : Int) ≤ ((k : Nat) : Int) := Int.natCast_nonneg k
      have k1 : ((k : Nat) : Int) + 1 = ((k + 1 : Nat) : Int) := by omega
      have ct : ∀ n : Nat, cutV (trf ts) none (some ((n : Nat) : Int)) = trf (ts.take n) := fun n => cut_take (fun t : Addr × Addr => V.ref t.1) (Int.natCast_nonneg n)
      have cd : ∀ n : Nat, cutV (trf ts) (some ((n : Nat) : Int)) none = trf (ts.drop n) := fun n => cut_drop (fun t : Addr × Addr => V.ref t.1) (Int.natCast_nonneg n)
      refine ⟨_, rfl, _, rfl, _, rfl, l, _, rfl, SqL.of lG, fun q1 f1 => ?_⟩
      rw [ct]
      have s1 := same_new (o := .lst (trf (ts.take k))) f1
      have h1 : (upd G q1 (.lst (trf (ts.take k)))) q1 = some (.lst (trf (ts.take k))) := upd_same
      generalize upd G q1 (.lst (trf (ts.take k))) = G1 at s1 h1 ⊢
      refine ⟨_, rfl, _, rfl, _, _, rfl, rfl, _, rfl, l, _, rfl, SqL.of (s1 _ _ lG), fun q2 f2 => ?_⟩
      rw [k1, cd]
      have s2 := same_new (o := .lst (trf (ts.drop (k + 1)))) f2
      have h2 : (upd G1 q2 (.lst (trf (ts.drop (k + 1))))) q2 = some (.lst (trf (ts.drop (k + 1)))) := upd_same
      generalize upd G1 q2 (.lst (trf (ts.drop (k + 1)))) = G2 at s2 h2 ⊢
      have lensum : ∀ n m : Nat, (trf (ts.take n)).length + (trf (ts.drop m)).length ≤ 30 := fun n m => by
        unfold trf
        rw [List.length_map, List.length_map, List.length_take, List.length_drop]
        omega
      have big : 100 ≤ sizeLine := by decide
      refine ⟨q1, q2, _, _, rfl, rfl, s2 _ _ h1, h2, Nat.le_trans (lensum _ _) (by omega), fun ls fls => ?_⟩
      have trA : ∀ xs ys : List (Addr × Addr), trf xs ++ trf ys = trf (xs ++ ys) := fun xs ys => (List.map_append).symm
      rw [trA]
      have s3 := same_new (o := .lst (trf (ts.take k ++ ts.drop (k + 1)))) fls
      have hls : (upd G2 ls (.lst (trf (ts.take k ++ ts.drop (k + 1))))) ls = some (.lst (trf (ts.take k ++ ts.drop (k + 1)))) := upd_same
      have s13 := (s1.trans s2).trans s3
      generalize upd G2 ls (.lst (trf (ts.take k ++ ts.drop (k + 1)))) = G3 at s3 hls s13 ⊢
      clear h1 h2 s1 s2 s3
      refine ⟨_, rfl, _, rfl, _, rfl, l, _, rfl, SqL.of (s13 _ _ lG), fun q3 f3 => ?_⟩
      rw [ct]
      have s4 := same_new (o := .lst (trf (ts.take k))) f3
      have h3 : (upd G3 q3 (.lst (trf (ts.take k)))) q3 = some (.lst (trf (ts.take k))) := upd_same
      have hls4 := s4 _ _ hls
      have s14 := s13.trans s4
      generalize upd G3 q3 (.lst (trf (ts.take k))) = G4 at s4 h3 hls4 s14 ⊢
      refine ⟨_, rfl, _, rfl, _, rfl, by show 1 ≤ sizeLine; decide, fun u1 fu1 => ?_⟩
      have s5 := same_new (o := .tup [.str c.1]) fu1
      have hu1 : (upd G4 u1 (.tup [.str c.1])) u1 = some (.tup [.str c.1]) := upd_same
      have h35 := s5 _ _ h3
      have hls5 := s5 _ _ hls4
      have s15 := s14.trans s5
      generalize upd G4 u1 (.tup [.str c.1]) = G5 at s5 hu1 h35 hls5 s15 ⊢
      clear s4 s5 h3 hls4 hls s13 s14
      refine ⟨t.2, u1, _, _, rfl, rfl, s15 _ _ car1.2, hu1, by simp, by rw [List.length_map]; show _ + 1 ≤ _; omega, fun u2 G6 s6 hu2 => ?_⟩
      have s16 := s15.trans s6
      have h36 := s6 _ _ h35
      have hls6 := s6 _ _ hls5
      have hu2 : G6 u2 = some (.tup ((c.2 ++ [c.1]).map V.str)) := by rw [hu2, List.map_append]; rfl
      clear h35 hls5 hu1 s15 s6
      refine ⟨by show 2 ≤ sizeLine; decide, fun u3 fu3 => ?_⟩
      have s7 := same_new (o := .tup [.str c.1, .ref u2]) fu3
      have hu3 : (upd G6 u3 (.tup [.str c.1, .ref u2])) u3 = some (.tup [.str c.1, .ref u2]) := upd_same
      have h37 := s7 _ _ h36
      have hls7 := s7 _ _ hls6
      have hu27 := s7 _ _ hu2
      have s17 := s16.trans s7
      generalize upd G6 u3 (.tup [.str c.1, .ref u2]) = G7 at s7 hu3 h37 hls7 hu27 s17 ⊢
      clear h36 hls6 hu2 s16 s7
      refine ⟨by show 1 ≤ sizeLine; decide, fun q4 f4 => ?_⟩
      have s8 := same_new (o := .lst [.ref u3]) f4
      have h4 : (upd G7 q4 (.lst [.ref u3])) q4 = some (.lst [.ref u3]) := upd_same
      have h38 := s8 _ _ h37
      have hls8 := s8 _ _ hls7
      have car8 : Car (upd G7 q4 (.lst [.ref u3])) (u3, u2) (c.1, c.2 ++ [c.1]) := ⟨s8 _ _ hu3, s8 _ _ hu27⟩
      have s18 := s17.trans s8
      generalize upd G7 q4 (.lst [.ref u3]) = G8 at s8 h4 h38 hls8 car8 s18 ⊢
      clear h37 hls7 hu3 hu27 s17 s8
      refine ⟨q3, q4, _, _, rfl, rfl, h38, h4, by unfold trf; rw [List.length_map, List.length_take]; show _ + 1 ≤ _; omega, fun q5 f5 => ?_⟩
      have e5 : trf (ts.take k) ++ [V.ref u3] = trf (ts.take k ++ [(u3, u2)]) := trA _ [(u3, u2)]
      rw [e5]
      have s9 := same_new (o := .lst (trf (ts.take k ++ [(u3, u2)]))) f5
      have h5 : (upd G8 q5 (.lst (trf (ts.take k ++ [(u3, u2)])))) q5 = some (.lst (trf (ts.take k ++ [(u3, u2)]))) := upd_same
      have hls9 := s9 _ _ hls8
      have car9 := car8.keep s9
      have s19 := s18.trans s9
      generalize upd G8 q5 (.lst (trf (ts.take k ++ [(u3, u2)]))) = G9 at s9 h5 hls9 car9 s19 ⊢
      clear h38 h4 hls8 car8 s18 s9
      refine ⟨_, rfl, _, rfl, _, _, rfl, rfl, _, rfl, l, _, rfl, SqL.of (s19 _ _ lG), fun q6 f6 => ?_⟩
      rw [k1, cd]
      have sA := same_new (o := .lst (trf (ts.drop (k + 1)))) f6
      have h6 : (upd G9 q6 (.lst (trf (ts.drop (k + 1))))) q6 = some (.lst (trf (ts.drop (k + 1)))) := upd_same
      have h5A := sA _ _ h5
      have hlsA := sA _ _ hls9
      have carA := car9.keep sA
      have s1A := s19.trans sA
      generalize upd G9 q6 (.lst (trf (ts.drop (k + 1)))) = GA at sA h6 h5A hlsA carA s1A ⊢
      clear h5 hls9 car9 s19 sA
      refine ⟨q5, q6, _, _, rfl, rfl, h5A, h6, ?_, fun lm flm => ⟨_, _, rfl, ?_⟩⟩
      · unfold trf
        rw [List.length_map, List.length_map, List.length_append, List.length_take, List.length_drop]
        show _ + 1 + _ ≤ _
        omega
      rw [trA]
      have sB := same_new (o := .lst (trf (ts.take k ++ [(u3, u2)] ++ ts.drop (k + 1)))) flm
      have hlm : (upd GA lm (.lst (trf (ts.take k ++ [(u3, u2)] ++ ts.drop (k + 1))))) lm = some (.lst (trf (ts.take k ++ [(u3, u2)] ++ ts.drop (k + 1)))) := upd_same
      have hlsB := sB _ _ hlsA
      have carB' := carA.keep sB
      have s1B := s1A.trans sB
      generalize upd GA lm (.lst (trf (ts.take k ++ [(u3, u2)] ++ ts.drop (k + 1)))) = GB at sB hlm hlsB carB' s1B ⊢
      clear h5A h6 hlsA carA s1A sB
      have s0B := sG.trans s1B
      have pdB : Paired (Car GB) ts cs := pd_mono pd fun x y h => h.keep s0B
      have cL : Cars GB ls (cs.take k ++ cs.drop (k + 1)) := ⟨_, hlsB, pd_app (pd_take k pdB) (pd_drop (k + 1) pdB)⟩
      have cM : Cars GB lm (cs.take k ++ [(c.1, c.2 ++ [c.1])] ++ cs.drop (k + 1)) := ⟨_, hlm, pd_app (pd_app (pd_take k pdB) (.cons carB' .nil)) (pd_drop (k + 1) pdB)⟩
      have sub : ∀ x ∈ cs.take k ++ cs.drop (k + 1), x ∈ cs := fun x hx => by
        rcases List.mem_append.mp hx with h | h
        · exact List.mem_of_mem_take h
        · exact List.mem_of_mem_drop h
      have fl := fk.fl
      refine ⟨_, rfl, _, rfl, _, rfl, a, d, ls, F, L, g, _, rfl, s0B _ _ ha, s0B _ _ hd, cL, by rw [List.length_append, List.length_take, List.length_drop]; omega, (okt _ sub).1, (okt _ sub).2, fk.fn, by omega, fun GC sC => ⟨_, rfl, ?_⟩⟩
      rw [sit.less hc]
      refine iteF ?_
      have okm : ∀ x ∈ cs.take k ++ [(c.1, c.2 ++ [c.1])] ++ cs.drop (k + 1), x.2.length ≤ 50 ∧ Nm x.1 ∧ ∀ y ∈ x.2, Nm y := fun x hx => by
        have old : x ∈ cs → x.2.length ≤ 50 ∧ Nm x.1 ∧ ∀ y ∈ x.2, Nm y := fun h => ⟨by have := (ok x h).1; omega, (ok x h).2⟩
        rcases List.mem_append.mp hx with h | h
        · rcases List.mem_append.mp h with h | h
          · exact old (List.mem_of_mem_take h)
          · rw [List.mem_singleton.mp h]
            refine ⟨by rw [List.length_append]; show _ + 1 ≤ _; have := cok.1; omega, cok.2.1, fun y hy => ?_⟩
            rcases List.mem_append.mp hy with h | h
            · exact cok.2.2 y h
            · rw [List.mem_singleton.mp h]
              exact cok.2.1
        · exact old (List.mem_of_mem_drop h)
      have cM2 : Cars GC lm (cs.take k ++ [(c.1, c.2 ++ [c.1])] ++ cs.drop (k + 1)) := by
        obtain ⟨t9, e1, e2⟩ := cM
        exact ⟨t9, sC _ _ e1, pd_mono e2 fun x y h => h.keep sC⟩
      have s0C := s0B.trans sC
      refine ⟨_, rfl, _, rfl, _, rfl, a, d, lm, F, L, g, _, rfl, s0C _ _ ha, s0C _ _ hd, cM2, by rw [List.length_append, List.length_append, List.length_take, List.length_drop]; show _ + 1 + _ ≤ _; omega, fun x hx => (okm x hx).1, fun x hx => (okm x hx).2, fk.fn, by omega, fun GD sD => ⟨_, rfl, ?_⟩⟩
      rw [sit.more hc]
      refine iteF ?_
      have s0D := s0C.trans sD
      clear cM cM2 cL hlsB hlm carB' s1B s0B s0C sC sD
      -- a seat too few
      refine ⟨_, rfl, d, _, rfl, Rd.of (s0D _ _ hd), fun m fm => ?_⟩
      have sE := same_new (o := .dK (idK L g)) fm
      have hm : (upd GD m (.dK (idK L g))) m = some (.dK (idK L g)) := upd_same
      have fmH := s0D.free fm
      have s0E := s0D.trans sE
      generalize upd GD m (.dK (idK L g)) = GE at sE hm s0E ⊢
      clear s0D sE fm
      refine ⟨_, rfl, t.2, _, rfl, .inr (SqT.of (s0E _ _ car0.2)), _, rfl, _, rfl, m, _, rfl, DPut.k (k := Sum.inr c.1) hm (by unfold idK; rw [List.length_map]; have := fk.ll; exact line_lt (by omega)), ?_⟩
      rw [List.length_map, id_put]
      have nm0 : ∀ {b : Addr} {o : HO}, H b = some o → b ≠ m := fun e => ne_of_none e fmH
      have s0F : Same H (upd GE m (.dK (idK (addI L c.1) (setI g c.1 (c.2.length : Nat))))) := fun b o e => by
        rw [upd_ne (nm0 e)]
        exact s0E _ _ e
      have hmF : (upd GE m (.dK (idK (addI L c.1) (setI g c.1 (c.2.length : Nat))))) m = some (.dK (idK (addI L c.1) (setI g c.1 (c.2.length : Nat)))) := upd_same
      generalize upd GE m (.dK (idK (addI L c.1) (setI g c.1 (c.2.length : Nat)))) = GF at s0F hmF ⊢
      clear s0E hm
      have cF : Cars GF l cs := ⟨ts, s0F _ _ hl, pd_mono pd fun x y h => h.keep s0F⟩
      refine ⟨_, rfl, _, rfl, _, rfl, a, m, l, F, addI L c.1, setI g c.1 (c.2.length : Nat), cs, rfl, s0F _ _ ha, hmF, cF, by omega, (okt cs fun _ h => h).1, (okt cs fun _ h => h).2, fk.fn, by omega, fun GG sG2 => ⟨_, rfl, ?_⟩⟩
      rw [Sit.full hc]
      refine iteF ?_
      have s0G := s0F.trans sG2
      clear s0F cF hmF sG2
      -- turned about
      have lG2 := s0G _ _ hl
      refine ⟨_, rfl, _, rfl, _, rfl, _, rfl, _, rfl, l, _, rfl, SqL.of lG2, fun q7 f7 => ?_⟩
      rw [cd]
      have sH := same_new (o := .lst (trf (ts.drop k))) f7
      have h7 : (upd GG q7 (.lst (trf (ts.drop k)))) q7 = some (.lst (trf (ts.drop k))) := upd_same
      have s0H := s0G.trans sH
      generalize upd GG q7 (.lst (trf (ts.drop k))) = GH at h7 s0H ⊢
      clear s0G sH
      refine ⟨_, rfl, _, rfl, _, rfl, l, _, rfl, SqL.of (s0H _ _ hl), fun q8 f8 => ?_⟩
      rw [ct]
      have sI := same_new (o := .lst (trf (ts.take k))) f8
      have h8 : (upd GH q8 (.lst (trf (ts.take k)))) q8 = some (.lst (trf (ts.take k))) := upd_same
      have h7I := sI _ _ h7
      have s0I := s0H.trans sI
      generalize upd GH q8 (.lst (trf (ts.take k))) = GI at h8 h7I s0I ⊢
      clear s0H sI h7
      refine ⟨q7, q8, _, _, rfl, rfl, h7I, h8, by have := lensum k k; omega, fun lr flr => ?_⟩
      rw [trA]
      have sJ := same_new (o := .lst (trf (ts.drop k ++ ts.take k))) flr
      have hlr : (upd GI lr (.lst (trf (ts.drop k ++ ts.take k)))) lr = some (.lst (trf (ts.drop k ++ ts.take k))) := upd_same
      have s0J := s0I.trans sJ
      generalize upd GI lr (.lst (trf (ts.drop k ++ ts.take k))) = GJ at hlr s0J ⊢
      clear s0I sJ h7I h8
      have pdJ : Paired (Car GJ) ts cs := pd_mono pd fun x y h => h.keep s0J
      have cR : Cars GJ lr (cs.drop k ++ cs.take k) := ⟨_, hlr, pd_app (pd_drop k pdJ) (pd_take k pdJ)⟩
      have subr : ∀ x ∈ cs.drop k ++ cs.take k, x ∈ cs := fun x hx => by
        rcases List.mem_append.mp hx with h | h
        · exact List.mem_of_mem_drop h
        · exact List.mem_of_mem_take h
      refine ⟨a, d, lr, F, L, g, _, rfl, s0J _ _ ha, s0J _ _ hd, cR, by rw [List.length_append, List.length_take, List.length_drop]; omega, (okt _ subr).1, (okt _ subr).2, fk.fn, by omega, fun GK sK => ⟨_, rfl, ?_⟩⟩
      rw [(sit.rot k).car]
      exact iteF ⟨_, _, _, _, _, _, rfl, s0J.trans sK⟩
    · rintro σ G ⟨v3, v4, v5, v6, v7, v8, rfl, sG⟩
      exact hQ G sG
end
end K20
set_option Elab.async false
set_option linter.all false
set_option maxRecDepth 100000
set_option maxHeartbeats 4000000
namespace K20
open PySem PySem.Spec PyProof.Rows L2
open C8 (Cal Mak Met pe_c pe_mk pe_mt pe_mt0)
open KW1 (dscI)
open KM (pr Sz)
theorem le_same {ρ : Str → Rat} {l m : List Str} (h1 : l.Pairwise (IO.le ρ)) (h2 : m.Pairwise (IO.le ρ)) (p : l.Perm m) : l = m :=
  p.eq_of_pairwise (fun a b _ _ h g => by
    rcases h with h | ⟨h, h'⟩
    · rcases g with g | ⟨g, g'⟩
      · grind
      · grind
    · rcases g with g | ⟨g, g'⟩
      · grind
      · exact IO.slt_antisymm h' g') h1 h2
theorem lac_le {F L : List Str} {g : Str → Int} (h : lac F L g ≤ 0) : (F.length : Int) ≤ (F.map (rm L g)).sum := by
  unfold lac at h
  have e : (sts F L g).sum = (F.map (rm L g)).sum := rfl
  rw [e] at h
  split at h <;> omega
/-- who is chosen, sorted -/
noncomputable def cho (F L : List Str) (g : Str → Int) (Z : List Str) : List Str := sortS (gr (rm L g) Z (cnt (F.length : Int) (dscI (sts F L g))) (F.length : Int))
theorem cho_ok {F L : List Str} {g : Str → Int} {Z : List Str} (fk : Fk F L g) (lc : lac F L g ≤ 0) (pz : Z.Perm F) : Few F L g (cho F L g Z) ∧ Swp F L g (cho F L g Z) Z ∧ (cho F L g Z).length = cnt (F.length : Int) (dscI (sts F L g)) ∧ lk F (cho F L g Z) L g ≤ 0 := by
  have nn : ∀ x, 0 ≤ rm L g x := fun x => (fk.rm0 x).1
  have pm : (Z.map (rm L g)).Perm (F.map (rm L g)) := pz.map _
  have zn : Z.Nodup := pz.nodup_iff.mpr fk.nd
  have e0 : dscI (Z.map (rm L g)) = dscI (sts F L g) := dsc_eq pm
  have hn : (F.length : Int) ≤ (Z.map (rm L g)).sum := by
    rw [perm_sum pm]
    exact lac_le lc
  have ch := chs_gr nn zn hn
  rw [e0] at ch
  obtain ⟨D, eD⟩ : ∃ D, D = gr (rm L g) Z (cnt (F.length : Int) (dscI (sts F L g))) (F.length : Int) := ⟨_, rfl⟩
  have ec : cho F L g Z = sortS D := by rw [eD]; rfl
  rw [← eD] at ch
  rw [ec]
  have pE := (sortS_at D).2.1
  have sE : ((sortS D).map (rm L g)).sum = (D.map (rm L g)).sum := perm_sum (pE.map _)
  have lE : (sortS D).length = D.length := sortS_len D
  have mem : ∀ x, x ∈ sortS D ↔ x ∈ D := fun x => pE.mem_iff
  refine ⟨⟨⟨pE.nodup_iff.mpr (zn.sublist ch.sub), fun x hx => ?_⟩, ?_, fun x hx => ?_, fun j hj => ?_⟩, fun e no hp hg => ?_, by rw [lE]; exact ch.len, ?_⟩
  · have hx := (mem x).mp hx
    have := ch.pos nn hx
    obtain ⟨h1, h2⟩ := rm_able (L := L) (g := g) (x := x) (by omega)
    exact ⟨pz.subset (ch.sub.subset hx), h1, h2⟩
  · rw [sE]
    exact ch.sum
  · rw [sE]
    exact ch.less nn ((mem x).mp hx)
  · have := ch.few j (by rw [lE, ch.len] at hj; exact hj)
    rw [best_perm pm] at this
    exact this
  · rw [sE]
    exact ch.swap e (fun z => no ((mem _).mpr z)) hp ((mem _).mp hg)
  · have h1 := ch.sum
    have h2 : lk F (sortS D) L g = (F.length : Int) - ((sortS D).map (rm L g)).sum := rfl
    rw [h2, sE]
    omega
theorem sum_pos {s : Str → Int} (nn : ∀ x, 0 ≤ s x) : ∀ F : List Str, ((F.filter fun x => decide (0 < s x)).map s).sum = (F.map s).sum
  | [] => rfl
  | x :: F => by
    have ih := sum_pos nn F
    by_cases h : 0 < s x
    · rw [List.filter_cons_of_pos (by simpa using h), List.map_cons, List.sum_cons, ih, List.map_cons, List.sum_cons]
    · rw [List.filter_cons_of_neg (by simpa using h), ih, List.map_cons, List.sum_cons]
      have := nn x
      omega
section
variable {P : Program} {w : World} {K : PySem.W.Frag} {mg : Str → Option Value} {base : Heap} {f N C : Addr} {fd : FuncData}
def spRi (C : Addr) : Sp := fun vs H Q _ => ∃ (a d hd : Addr) (F L : List Str) (g : Str → Int) (kvs : List (Key × V)) (ρ : Str → Rat) (n : Nat), vs = [.ref a, .ref d, .ref hd] ∧ Fk F L g ∧ H a = some (.lst (F.map V.str)) ∧ H d = some (.dK (idK L g)) ∧ K20.Q.ShD C H hd kvs ρ ∧ (∀ x, Sz n (ρ x)) ∧ 0 < n ∧ n ≤ 4000 ∧ lac F L g ≤ 0 ∧ ∀ H', Same H H' → Q (.bl true) H'
theorem ok_ri (Fd : Dn K d_l_right f fd) (b : Bl mg) (cCh : Cal P w K mg base 5 "choose" (spCho C) []) (cI : Cal P w K mg base 4 "in_order" (K20.Q.spInOrder K C) []) (cF : Cal P w K mg base 4 "fewest" (fun vs H Q _ => spFe N vs H Q E0) []) (cW : Cal P w K mg base 4 "crews" (fun vs H Q _ => spCw N vs H Q E0) []) (cC : Cal P w K mg base 2 "carries" spCar [])
    (cL : Cal P w K mg base 6 "_law_less_right" spLs []) (cR : Cal P w K mg base 3 "_law_changed_right" spCh []) (cP : Cal P w K mg base 6 "_law_put_right" spPu []) : FnOk P w K mg base CX0 7 f fd ["_law_folk", "_law_rooms", "_law_handed"] (spRi C) := by
  refine Fd.ok sc_l_right (fun vs H Q E h => ?_) (fun cdv A outer s H vs Q E hr h => ?_)
  · obtain ⟨_, _, _, _, _, _, _, _, _, rfl, _⟩ := h
    rfl
  · obtain ⟨a, d, hd, F, L, g, kvs, ρ, n, rfl, fk, ha, hdd, sh, sz, n0, n4, lc, hQ⟩ := h
    have hu := hu_of hr
    refine ⟨_, PSs.nox (pss_cons (ps_par (i := 3) (j := 4) rfl sc_l_right.nd rfl rfl (by decide) rfl rfl (pa_cons (pe_c cCh hr (by decide) rfl (pa_cons (pv 0) (pa_cons (pv 1) (pa_cons (pv 2) pa_nil)))) (pa_cons (pe_c cI hr (by decide) rfl (pa_cons (pv 0) (pa_cons (pv 2) pa_nil))) pa_nil)) rfl)
      (pss_cons (ps_set (i := 5) sc_l_right.nd rfl (.inl rfl) (pe_c cW hr (by decide) rfl (pa_cons (pv 0) (pa_cons (pv 3) (pa_cons (pv 1) pa_nil)))))
      (pss_cons (ps_if (PW.pt (pw_or (pt_cmpR op_ne (pe_callB call_len_seq rfl b.len boot_len (pa_cons (pv 3) pa_nil)) (pe_c cF hr (by decide) rfl (pa_cons (pv 0) (pa_cons (pv 1) pa_nil))) (nomark _)) (pw_or1 (pt_not (pt_val (pe_c cC hr (by decide) rfl (pa_cons (pv 0) (pa_cons (pv 1) (pa_cons (pv 5) pa_nil))))))))) pss_never pss_nil)
      (pss_cons (ps_setLc (i := 6) (own := [("_law_called", 7)]) (g := gName 7) rfl sc_l_right.nd rfl rfl (sw_true rfl rfl rfl (by decide +kernel)) (pi_list (pv 0)) (blkOk_by (N := N_l_right) (sc := defScope s_l_right) (by decide +kernel))
          (fun _ _ _ _ _ => pg_name (i := 7) sc_l_right.nd rfl (Or.inl rfl)) (fun _ _ _ _ _ => pts_one (pt_cmpR op_gt (pe_dget2 hu (pv 1) (pv 7) pe_int ⟨rfl, rfl, rfl, rfl⟩) pe_int (nomark _))) (fun _ _ _ _ _ => pv 7))
      (pss_cons (ps_if (PW.pt (pw_or (pt_not (pt_val (pe_c cC hr (by decide) rfl (pa_cons (pv 0) (pa_cons (pv 1) (pa_cons (pe_c cW hr (by decide) rfl (pa_cons (pv 0) (pa_cons (pv 6) (pa_cons (pv 1) pa_nil)))) pa_nil)))))) (pw_or1 (pt_not (pt_val (pe_c cL hr (by decide) rfl (pa_cons (pv 0) (pa_cons (pv 1) (pa_cons (pv 3) pa_nil))))))))) pss_never pss_nil)
      (pss_one (ps_ret (pe_and (pe_c cR hr (by decide) rfl (pa_cons (pv 0) (pa_cons (pv 1) (pa_cons (pv 5) pa_nil)))) (pe_one (pe_c cP hr (by decide) rfl (pa_cons (pv 0) (pa_cons (pv 1) (pa_cons (pv 3) (pa_cons (pv 4) pa_nil)))))))))))))), ?_⟩
    have fl := fk.fl
    refine ⟨_, rfl, _, rfl, _, rfl, a, d, hd, F, L, g, kvs, ρ, n, rfl, fk, ha, hdd, sh, sz, n0, n4, lc, fun o Z H1 s1 fo pz pwz ho => ?_⟩
    obtain ⟨fw, sw, lE, lkE⟩ := cho_ok fk lc pz
    obtain ⟨D, eD⟩ : ∃ D, D = cho F L g Z := ⟨_, rfl⟩
    have hoD : H1 o = some (.lst (D.map V.str)) := by rw [eD]; exact ho
    clear ho
    rw [← eD] at fw sw lE lkE
    clear eD
    refine ⟨_, rfl, _, rfl, a, hd, F, kvs, ρ, n, rfl, SqL.of (s1 _ _ ha), by omega, sh.keep s1, sz, n0, n4, fun o2 Z2 H2 s2 fo2 ho2 pz2 pwz2 => ⟨_, _, rfl, ?_⟩⟩
    obtain rfl := le_same pwz2 pwz (pz2.trans pz.symm)
    have s02 := s1.trans s2
    have hoE := s2 _ _ hoD
    have l12 := fw.ab.len
    -- the cars
    refine ⟨_, rfl, _, rfl, _, rfl, a, o, d, F, D, L, g, rfl, fk, fw.ab, by omega, s02 _ _ ha, hoE, s02 _ _ hdd, fun _ l H3 s3 fl3 hl3 => ?_, fun z => absurd lkE (by omega)⟩
    obtain ⟨sit, lcr, okc⟩ := sit_crew fk.nd fw.ab lkE
    have s03 := s02.trans s3
    have ho3 := s3 _ _ hoE
    have ha3 := s03 _ _ ha
    have hd3 := s03 _ _ hdd
    have hr3 := s3 _ _ ho2
    have okc2 : ∀ c ∈ crD F D g, c.2.length ≤ 12 ∧ Nm c.1 ∧ ∀ y ∈ c.2, Nm y := fun c hc => by
      obtain ⟨h1, h2, h3⟩ := okc c hc
      exact ⟨by omega, fk.fn _ (fw.ab.2 _ h1).1, fun y hy => fk.fn y (h3 y hy)⟩
    refine ⟨_, rfl, o, _, rfl, .inl (SqL.of ho3), _, rfl, _, rfl, a, d, F, L, g, rfl, ha3, hd3, by omega, fun _ H4 s4 => ?_, fun z => absurd lc (by omega)⟩
    refine ⟨rfl, _, rfl, ?_⟩
    refine ite2 (fun c => absurd c (by rw [List.length_map, lE]; simp)) (fun _ => ?_)
    have car4 : Cars H4 l (crD F D g) := by
      obtain ⟨ts, e1, e2⟩ := hl3
      exact ⟨ts, s4 _ _ e1, pd_mono e2 fun x y h => h.keep s4⟩
    refine ⟨_, rfl, _, rfl, _, rfl, a, d, l, F, L, g, _, rfl, s4 _ _ ha3, s4 _ _ hd3, car4, by omega, fun c hc => by have := (okc2 c hc).1; omega, fun c hc => (okc2 c hc).2, fk.fn, by omega, fun H5 s5 => ⟨_, rfl, ?_⟩⟩
    rw [sit.car]
    refine iteF ?_
    have s35 := s4.trans s5
    have s05 := s03.trans s35
    have ho5 := s35 _ _ ho3
    have hr5 := s35 _ _ hr3
    have car5 : Cars H5 l (crD F D g) := by
      obtain ⟨ts, e1, e2⟩ := car4
      exact ⟨ts, s5 _ _ e1, pd_mono e2 fun x y h => h.keep s5⟩
    clear car4 hl3 s4 s5 s35 ho3 ha3 hd3 hr3 s3 s02 s03
    -- all who can
    have ha5 := s05 _ _ ha
    refine ⟨_, rfl, a, rfl, ⟨_, SqL.of ha5⟩, fun q fq => ?_⟩
    refine lc_list (K := K) (xs := F.map V.str) (fun j G => G q = some (.lst (((F.take j).filter fun x => decide (0 < rm L g x)).map V.str)) ∧ Same H5 G) ⟨upd_same, same_new fq⟩ (fun j G _ z => SqL.of (z.2 _ _ ha5)) ?_ ?_
    · rintro j v G hv ⟨hq, sG⟩
      obtain ⟨y, hy, rfl⟩ := strs_at hv
      obtain ⟨ov, o1, o2⟩ := id_rm (sG _ _ (s05 _ _ hdd)) y
      refine ⟨rfl, _, rfl, d, rfl, .inl ⟨_, .inl (sG _ _ (s05 _ _ hdd))⟩, _, rfl, ov, o1, _, _, o2, rfl, _, rfl, ?_⟩
      rw [flt_one hy]
      have ln : (((F.take j).filter fun x => decide (0 < rm L g x)).map V.str).length ≤ 12 := by
        rw [List.length_map]
        have h1 := List.length_filter_le (fun x => decide (0 < rm L g x)) (F.take j)
        rw [List.length_take] at h1
        omega
      refine ite2 (fun c => ?_) (fun c => ?_)
      · refine ⟨_, rfl, _, hq, line_lt (by omega), ?_, fun b w e => ?_⟩
        · rw [upd_same, if_pos c, List.map_append]
          rfl
        · rw [upd_ne (ne_of_none e fq)]
          exact sG _ _ e
      · rw [if_neg c, List.append_nil]
        exact ⟨hq, sG⟩
    rintro H6 ⟨hq, s6⟩
    rw [List.length_map, List.take_length] at hq
    have ab2 : Able F L g (F.filter fun x => decide (0 < rm L g x)) := ⟨fk.nd.filter _, fun x hx => by
      obtain ⟨h1, h2⟩ := List.mem_filter.mp hx
      obtain ⟨h3, h4⟩ := rm_able (of_decide_eq_true h2)
      exact ⟨h1, h3, h4⟩⟩
    have lk2 : lk F (F.filter fun x => decide (0 < rm L g x)) L g ≤ 0 := by
      have h1 := sum_pos (s := rm L g) (fun x => (fk.rm0 x).1) F
      have h2 := lac_le lc
      have h3 : lk F (F.filter fun x => decide (0 < rm L g x)) L g = (F.length : Int) - ((F.filter fun x => decide (0 < rm L g x)).map (rm L g)).sum := rfl
      omega
    generalize (F.filter fun x => decide (0 < rm L g x)) = A2 at hq ab2 lk2
    have s06 := s05.trans s6
    have l122 := ab2.len
    refine ⟨_, rfl, _, rfl, _, rfl, _, rfl, _, rfl, a, q, d, F, A2, L, g, rfl, fk, ab2, by omega, s06 _ _ ha, hq, s06 _ _ hdd, fun _ l2 H7 s7 fl7 hl7 => ?_, fun z => absurd lk2 (by omega)⟩
    obtain ⟨sit2, lcr2, okd⟩ := sit_crew fk.nd ab2 lk2
    have s07 := s06.trans s7
    refine ⟨a, d, l2, F, L, g, _, rfl, s07 _ _ ha, s07 _ _ hdd, hl7, by omega, fun c hc => by have := (okd c hc).2.1; omega, fun c hc => ⟨fk.fn _ (ab2.2 _ (okd c hc).1).1, fun y hy => fk.fn y ((okd c hc).2.2 y hy)⟩, fk.fn, by omega, fun H8 s8 => ⟨_, rfl, ?_⟩⟩
    rw [sit2.car]
    refine iteF ?_
    have s58 := (s6.trans s7).trans s8
    have s08 := s05.trans s58
    refine ⟨_, rfl, _, rfl, _, rfl, a, o, d, F, D, L, g, rfl, fk, fw, s08 _ _ ha, s58 _ _ ho5, s08 _ _ hdd, fun H9 s9 => ⟨_, rfl, iteF ?_⟩⟩
    have s59 := s58.trans s9
    have s09 := s05.trans s59
    have car9 : Cars H9 l (crD F D g) := by
      obtain ⟨ts, e1, e2⟩ := car5
      exact ⟨ts, s59 _ _ e1, pd_mono e2 fun x y h => h.keep s59⟩
    refine ⟨_, rfl, _, rfl, _, rfl, a, d, l, F, L, g, _, rfl, fk, s09 _ _ ha, s09 _ _ hdd, car9, sit, by omega, okc2, fun H10 s10 => ⟨_, rfl, iteT ?_⟩⟩
    have s0A := s09.trans s10
    have s5A := s59.trans s10
    exact ⟨_, rfl, _, rfl, _, rfl, _, rfl, a, o, d, o2, F, D, L, Z2, g, rfl, fk, fw, pz2, sw, s0A _ _ ha, s5A _ _ ho5, s5A _ _ hr5, s0A _ _ hdd, fun H11 s11 => hQ H11 (s0A.trans s11)⟩
end
end K20
set_option Elab.async false
set_option linter.all false
set_option maxRecDepth 100000
set_option maxHeartbeats 4000000
namespace K20
open PySem PySem.Spec PyProof.Rows L2
open C8 (Cal Mak Met pe_c pe_mk pe_mt pe_mt0)
open KM (pr Sz)
/-- what each is worth: a name, where its pair stands, the pair -/
abbrev Wt := Str × Addr × Int × Int
def kvW (ws : List Wt) : List (Key × V) := ws.map fun w => ((Sum.inr w.1 : Key), V.ref w.2.1)
structure Wk (H : Hp) (ws : List Wt) : Prop where
  nd : (ws.map (·.1)).Nodup
  tp : ∀ w ∈ ws, H w.2.1 = some (.tup [.int w.2.2.1, .int w.2.2.2])
  bt : ∀ w ∈ ws, -4 ≤ w.2.2.1 ∧ w.2.2.1 ≤ 4
  bb : ∀ w ∈ ws, 1 ≤ w.2.2.2 ∧ w.2.2.2 ≤ 60
theorem kvW_none {ws : List Wt} {x : Str} (h : x ∉ ws.map (·.1)) : valV (kvW ws) (Sum.inr x) = none := by
  induction ws with
  | nil => rfl
  | cons w ws ih =>
    rw [List.map_cons, List.mem_cons, not_or] at h
    show valV (((Sum.inr w.1 : Key), V.ref w.2.1) :: kvW ws) (Sum.inr x) = none
    rw [valV_neg (fun e => h.1 (Sum.inr.inj e).symm)]
    exact ih h.2
theorem kvW_at {ws : List Wt} {w : Wt} (nd : (ws.map (·.1)).Nodup) (h : w ∈ ws) : valV (kvW ws) (Sum.inr w.1) = some (.ref w.2.1) := by
  induction ws with
  | nil => cases h
  | cons u ws ih =>
    obtain ⟨n1, n2⟩ := List.nodup_cons.mp nd
    show valV (((Sum.inr u.1 : Key), V.ref u.2.1) :: kvW ws) (Sum.inr w.1) = _
    rcases List.mem_cons.mp h with rfl | h
    · exact valV_pos rfl
    · rw [valV_neg (fun e => n1 (List.mem_map.mpr ⟨w, h, (Sum.inr.inj e : u.1 = w.1).symm⟩))]
      exact ih n2 h
section
variable {P : Program} {w : World} {K : PySem.W.Frag} {mg : Str → Option Value} {base : Heap} {f : Addr} {fd : FuncData}
def spWo : Sp := fun vs H Q _ => ∃ (p a : Addr) (c : Nat) (F : List Str), vs = [.ref p, .ref a] ∧ Pen H p (c + 60) ∧ H a = some (.lst (F.map V.str)) ∧ Off p a H ∧ F.length ≤ 12 ∧ F.Nodup ∧
  ∀ (o : Addr) (ws : List Wt) (H' : Hp), Pen H' p c → Kp p H H' → H' o = some (.dK (kvW ws)) → Off p o H' → H o = none → Wk H' ws → ws.length ≤ 12 → Q (.ref o) H'
theorem ok_wo (Fd : Dn K d_l_worths f fd) (b : Bl mg) (cD : Cal P w K mg base 1 "_law_draw" spDraw []) : FnOk P w K mg base CX0 2 f fd ["_law_pen_here", "_law_known"] spWo := by
  refine Fd.ok sc_l_worths (fun vs H Q E h => ?_) (fun cdv A outer s H vs Q E hr h => ?_)
  · obtain ⟨_, _, _, _, rfl, _⟩ := h
    rfl
  · obtain ⟨p, a, c, F, rfl, pen, ha, oa, fl, nd, hQ⟩ := h
    have hu := hu_of hr
    refine ⟨_, PSs.nox (pss_cons (ps_set (i := 2) sc_l_worths.nd rfl (.inl rfl) pe_dnewK)
      (pss_cons (ps_for PassesOwn.never rfl (pi_list (pv 1)) (pg_name (i := 3) sc_l_worths.nd rfl (.inl rfl))
        (pss_cons (ps_set (i := 4) sc_l_worths.nd rfl (.inl rfl) (pe_c cD hr (by decide) rfl (pa_cons (pv 0) (pa_cons pe_int pa_nil))))
        (pss_one (ps_if (pt_cmpR op_gt (pv 4) pe_int (nomark _))
          (pss_one (ps_dput hu (pv 2) (pv 3) (pe_tup (pa_cons (pe_op op_sub (pe_c cD hr (by decide) rfl (pa_cons (pv 0) (pa_cons pe_int pa_nil))) pe_int)
            (pa_cons (pe_op op_add pe_int (pe_ix ix_list (pe_lst (pa_cons (pe_c cD hr (by decide) rfl (pa_cons (pv 0) (pa_cons pe_int pa_nil))) (pa_cons (pe_c cD hr (by decide) rfl (pa_cons (pv 0) (pa_cons pe_int pa_nil))) (pa_cons pe_int pa_nil)))) (pe_op op_sub (pv 4) pe_int) (fun _ _ => rfl))) pa_nil))) rfl)) pss_nil))))
      (pss_one (ps_ret (pv 2))))), ?_⟩
    intro d fd0
    have s1 := same_new (o := .dK []) fd0
    have hd1 : (upd H d (.dK [])) d = some (.dK []) := upd_same
    have od1 : Off p d (upd H d (.dK [])) := (Off.of pen fd0).kp (Kp.same s1)
    have nad : a ≠ d := ne_of_none ha fd0
    have pen1 := pen.same s1
    have ha1 := s1 _ _ ha
    have oa1 := oa.kp (Kp.same s1)
    generalize upd H d (.dK []) = H1 at s1 hd1 od1 pen1 ha1 oa1 ⊢
    refine ⟨_, rfl, a, rfl, ⟨_, SqL.of ha1⟩, for_list (K := K) (xs := F.map V.str) (fun i σ G => ∃ (v3 v4 : Option V) (ws : List Wt), σ = [some (.ref p), some (.ref a), some (.ref d), v3, v4] ∧ Pen G p (c + 59 - 4 * i) ∧ Kp p H G ∧ G a = some (.lst (F.map V.str)) ∧ Off p a G ∧ G d = some (.dK (kvW ws)) ∧ Off p d G ∧ Wk G ws ∧ ws.length ≤ i ∧ ∀ x ∈ ws, x.1 ∈ F.take i)
      ⟨_, _, [], rfl, pen1.weak (by omega), Kp.same s1, ha1, oa1, hd1, od1, ⟨List.nodup_nil, fun x hx => (nomatch hx), fun x hx => (nomatch hx), fun x hx => (nomatch hx)⟩, Nat.le_refl _, fun x hx => (nomatch hx)⟩ (fun i σ G _ z => by obtain ⟨_, _, _, _, _, _, z, _⟩ := z; exact SqL.of z) ?_ ?_⟩
    · rintro i v σ G hv ⟨v3, v4, ws, rfl, pG, kG, aG, oG, dG, odG, wk, lw, sub⟩
      obtain ⟨x, hx, rfl⟩ := strs_at hv
      have il := (List.getElem?_eq_some_iff.mp hx).1
      refine ⟨_, rfl, p, c + 59 - 4 * i - 1, 4, rfl, pG.weak (by omega), by decide, by decide, fun lot G1 l0 l4 p1 k1 => ?_⟩
      obtain ⟨lot, rfl⟩ := Int.eq_ofNat_of_zero_le l0
      have a1 := k1.1 _ _ aG oG.ne
      have oa2 := oG.kp k1
      have d1 := k1.1 _ _ dG odG.ne
      have od2 := odG.kp k1
      have pt : ∀ {G : Hp} {n : Nat} {b : Addr} {vs : List V}, Pen G p n → G b = some (.tup vs) → b ≠ p := fun pn e => by
        obtain ⟨l, ns, n, m, hp, _⟩ := pn
        exact ne_of e hp (by intro z; cases z)
      have wk1 : Wk G1 ws := ⟨wk.nd, fun w hw => k1.1 _ _ (wk.tp w hw) (pt pG (wk.tp w hw)), wk.bt, wk.bb⟩
      refine ⟨_, rfl, _, _, rfl, rfl, _, rfl, ?_⟩
      have et : F.take (i + 1) = F.take i ++ [x] := take_one hx
      refine ite2 (fun c1 => ?_) (fun c1 => ⟨_, _, ws, rfl, p1.weak (by omega), kG.trans k1, a1, oa2, d1, od2, wk1, by omega, fun y hy => by rw [et]; exact List.mem_append_left _ (sub y hy)⟩)
      have lp : 0 < lot := by have := of_decide_eq_true c1; omega
      refine ⟨_, rfl, p, c + 59 - 4 * i - 2, 9, rfl, p1.weak (by omega), by decide, by decide, fun q1 G2 b1 b2 p2 k2 => ⟨_, _, rfl, rfl, ?_⟩⟩
      refine ⟨_, rfl, p, c + 59 - 4 * i - 3, 3, rfl, p2.weak (by omega), by decide, by decide, fun q2 G3 b3 b4 p3 k3 => ?_⟩
      refine ⟨_, rfl, p, c + 59 - 4 * i - 4, 60, rfl, p3.weak (by omega), by decide, by decide, fun q3 G4 b5 b6 p4 k4 => ?_⟩
      refine ⟨by show 3 ≤ sizeLine; decide, fun e fe => ?_⟩
      have se := same_new (o := .lst [V.int q2, V.int q3, V.int 0]) fe
      have he : (upd G4 e (.lst [V.int q2, V.int q3, V.int 0])) e = some (.lst [V.int q2, V.int q3, V.int 0]) := upd_same
      have p5 := p4.same se
      have k5 := ((k2.trans k3).trans k4).trans (Kp.same se)
      generalize upd G4 e (.lst [V.int q2, V.int q3, V.int 0]) = G5 at he p5 k5 ⊢
      obtain ⟨y, y0, y9, ey⟩ : ∃ y : Int, 0 ≤ y ∧ y ≤ 59 ∧ ([V.int q2, V.int q3, V.int 0] : List V)[lot - 1]? = some (V.int y) := by
        match lot, lp, l4 with
        | 1, _, _ => exact ⟨q2, by omega, by omega, rfl⟩
        | 2, _, _ => exact ⟨q3, by omega, by omega, rfl⟩
        | 3, _, _ => exact ⟨0, by omega, by omega, rfl⟩
        | k + 4, _, hk => exact absurd hk (by omega)
      have ea : atI ([V.int q2, V.int q3, V.int 0] : List V) ((lot : Int) - 1) = some (V.int y) := by
        rw [show (lot : Int) - 1 = ((lot - 1 : Nat) : Int) by omega]
        exact atI_nat ey
      refine ⟨_, rfl, _, _, rfl, rfl, e, _, _, _, rfl, rfl, SqL.of he, ea, _, _, rfl, rfl, ?_⟩
      refine ⟨by show 2 ≤ sizeLine; decide, fun u fu => ?_⟩
      have su := same_new (o := .tup [V.int (q1 - 4), V.int (1 + y)]) fu
      have hu6 : (upd G5 u (.tup [V.int (q1 - 4), V.int (1 + y)])) u = some (.tup [V.int (q1 - 4), V.int (1 + y)]) := upd_same
      have p6 := p5.same su
      have k6 := k5.trans (Kp.same su)
      generalize upd G5 u (.tup [V.int (q1 - 4), V.int (1 + y)]) = G6 at hu6 p6 k6 ⊢
      have a6 := k6.1 _ _ a1 oa2.ne
      have oa6 := oa2.kp k6
      have d6 := k6.1 _ _ d1 od2.ne
      have od6 := od2.kp k6
      have wk6 : Wk G6 ws := ⟨wk.nd, fun w hw => k6.1 _ _ (wk1.tp w hw) (pt p1 (wk1.tp w hw)), wk.bt, wk.bb⟩
      have nx : x ∉ ws.map (·.1) := fun h => by
        obtain ⟨w0, hw, e⟩ := List.mem_map.mp h
        have h1 := sub w0 hw
        have e : w0.1 = x := e
        rw [e] at h1
        have n2 := nd.sublist (List.take_sublist (i + 1) F)
        rw [et, List.nodup_append] at n2
        exact n2.2.2 x h1 x (by simp) rfl
      refine ⟨_, rfl, _, rfl, d, _, rfl, DPut.k (k := Sum.inr x) d6 (by unfold kvW; rw [List.length_map]; exact line_lt (by omega)), ?_⟩
      rw [putK_new _ (kvW_none nx)]
      have e7 : kvW ws ++ [((Sum.inr x : Key), V.ref u)] = kvW (ws ++ [(x, u, q1 - 4, 1 + y)]) := by
        unfold kvW
        rw [List.map_append]
        rfl
      rw [e7]
      have opd : p ≠ d := od6.ne.symm
      have tup7 : ∀ {b : Addr} {vs : List V}, G6 b = some (.tup vs) → (upd G6 d (.dK (kvW (ws ++ [(x, u, q1 - 4, 1 + y)])))) b = some (.tup vs) := fun e => by
        rw [upd_ne (ne_of e d6 (by intro z; cases z))]
        exact e
      refine ⟨_, _, ws ++ [(x, u, q1 - 4, 1 + y)], rfl, (p6.put od6).weak (by omega), ((kG.trans k1).trans k6).new fd0, by rw [upd_ne nad]; exact a6, oa6.put opd, upd_same, od6.put opd, ⟨?_, fun w hw => ?_, fun w hw => ?_, fun w hw => ?_⟩, by rw [List.length_append]; show _ + 1 ≤ _; omega, fun z hz => ?_⟩
      · rw [List.map_append, List.nodup_append]
        refine ⟨wk.nd, by simp, fun z hz y hy e => nx ?_⟩
        rw [List.mem_singleton.mp hy] at e
        have e : z = x := e
        rw [← e]
        exact hz
      · rcases List.mem_append.mp hw with h | h
        · exact tup7 (wk6.tp w h)
        · rw [List.mem_singleton.mp h]
          exact tup7 hu6
      · rcases List.mem_append.mp hw with h | h
        · exact wk.bt w h
        · rw [List.mem_singleton.mp h]
          show -4 ≤ q1 - 4 ∧ q1 - 4 ≤ 4
          omega
      · rcases List.mem_append.mp hw with h | h
        · exact wk.bb w h
        · rw [List.mem_singleton.mp h]
          show 1 ≤ 1 + y ∧ 1 + y ≤ 60
          omega
      · rw [et]
        rcases List.mem_append.mp hz with h | h
        · exact List.mem_append_left _ (sub z h)
        · rw [List.mem_singleton.mp h]
          simp
    · rintro σ G ⟨v3, v4, ws, rfl, pG, kG, aG, oG, dG, odG, wk, lw, sub⟩
      rw [List.length_map] at pG lw
      exact ⟨_, rfl, hQ d ws G (pG.weak (by omega)) kG dG odG fd0 wk (by omega)⟩
end
end K20
set_option Elab.async false
set_option linter.all false
set_option maxRecDepth 100000
set_option maxHeartbeats 4000000
namespace K20
open PySem PySem.Spec PyProof.Rows L2
open C8 (Cal Mak Met pe_c pe_mk pe_mt pe_mt0)
open KM (pr Sz)
theorem wk_fun : ∀ {ws : List Wt}, (ws.map (·.1)).Nodup → ∃ (ad : Str → Addr) (t b : Str → Int), ∀ w ∈ ws, ad w.1 = w.2.1 ∧ t w.1 = w.2.2.1 ∧ b w.1 = w.2.2.2
  | [], _ => ⟨fun _ => 0, fun _ => 0, fun _ => 0, fun x hx => by cases hx⟩
  | y :: r, h => by
    obtain ⟨h1, h2⟩ := List.nodup_cons.mp h
    obtain ⟨ad, t, b, hg⟩ := wk_fun h2
    refine ⟨fun s => if s = y.1 then y.2.1 else ad s, fun s => if s = y.1 then y.2.2.1 else t s, fun s => if s = y.1 then y.2.2.2 else b s, fun x hx => ?_⟩
    rcases List.mem_cons.mp hx with rfl | hx
    · exact ⟨if_pos rfl, if_pos rfl, if_pos rfl⟩
    · have n : ¬ x.1 = y.1 := fun e => h1 (List.mem_map.mpr ⟨x, hx, e⟩)
      dsimp only
      rw [if_neg n, if_neg n, if_neg n]
      exact hg x hx
theorem paired_map {α : Type} {R : Addr → Key × V → Prop} {g : α → Addr} {k : α → Key × V} : ∀ {l : List α}, (∀ x ∈ l, R (g x) (k x)) → Paired R (l.map g) (l.map k)
  | [], _ => .nil
  | x :: l, h => .cons (h x List.mem_cons_self) (paired_map fun y hy => h y (List.mem_cons_of_mem _ hy))
theorem nin_take {xs : List Str} (nd : xs.Nodup) {i : Nat} {z : Str} (h : xs[i]? = some z) : z ∉ xs.take i := fun hm => by
  obtain ⟨j, hj, e⟩ := List.mem_iff_getElem.mp hm
  rw [List.getElem_take] at e
  rw [List.length_take] at hj
  have e3 : xs[j]? = xs[i]? := by rw [h, List.getElem?_eq_getElem (by omega), e]
  have := (List.getElem?_inj (by omega) nd).mp e3
  omega
/-- names to what stands at their cells -/
abbrev adK (L : List Str) (ad : Str → Addr) : List (Key × V) := L.map fun x => ((Sum.inr x : Key), V.ref (ad x))
/-- the dict of what each is worth, by the names -/
structure Wf (H : Hp) (d : Addr) (L : List Str) (ad : Str → Addr) (t b : Str → Int) : Prop where
  hd : H d = some (.dK (adK L ad))
  tp : ∀ x ∈ L, H (ad x) = some (.tup [.int (t x), .int (b x)])
  bt : ∀ x ∈ L, -4 ≤ t x ∧ t x ≤ 4
  bb : ∀ x ∈ L, 1 ≤ b x ∧ b x ≤ 60
theorem Wk.wf {H : Hp} {d : Addr} {ws : List Wt} (wk : Wk H ws) (hd : H d = some (.dK (kvW ws))) : ∃ ad t b, Wf H d (ws.map (·.1)) ad t b := by
  obtain ⟨ad, t, b, h⟩ := wk_fun wk.nd
  refine ⟨ad, t, b, ?_, fun x hx => ?_, fun x hx => ?_, fun x hx => ?_⟩
  · rw [hd]
    unfold kvW adK
    rw [List.map_map]
    exact congrArg (fun z => some (HO.dK z)) (List.map_congr_left fun w hw => by show (_, V.ref _) = (_, V.ref _); rw [(h w hw).1])
  · obtain ⟨w, hw, rfl⟩ := List.mem_map.mp hx
    rw [(h w hw).1, (h w hw).2.1, (h w hw).2.2]
    exact wk.tp w hw
  · obtain ⟨w, hw, rfl⟩ := List.mem_map.mp hx
    rw [(h w hw).2.1]
    exact wk.bt w hw
  · obtain ⟨w, hw, rfl⟩ := List.mem_map.mp hx
    rw [(h w hw).2.2]
    exact wk.bb w hw
/-- what each has been handed -/
def wor (L : List Str) (t b : Str → Int) (x : Str) : Rat := if x ∈ L then Rat.divInt (t x) (b x) else 0
theorem Wf.sz {H : Hp} {d : Addr} {L : List Str} {ad : Str → Addr} {t b : Str → Int} (h : Wf H d L ad t b) (x : Str) : Sz 10 (wor L t b x) := by
  unfold wor
  split
  · rename_i hx
    have h1 := h.bt x hx
    have h2 := h.bb x hx
    exact KM.sz_of_low (by omega) (by show _ < 1024; omega) (by show _ < 1024; omega)
  · exact ⟨by decide, by decide⟩
theorem lockA {H : Hp} {d : Addr} {L : List Str} {ad : Str → Addr} (hd : H d = some (.dK (adK L ad))) (od : Obj) :
    (upd H d (.frz od (.dK (adK L ad)))) d = some (.frz od (.dK (adK L ad))) ∧
    (∀ b o, H b = some o → b ≠ d → (upd H d (.frz od (.dK (adK L ad)))) b = some o) ∧
    (∀ b, (upd H d (.frz od (.dK (adK L ad)))) b = none → H b = none ∧ b ≠ d) ∧
    (∀ H', Same (upd H d (.frz od (.dK (adK L ad)))) H' → Same H (upd H' d (.dK (adK L ad)))) := by
  refine ⟨upd_same, fun b o e n => by rw [upd_ne n]; exact e, fun b e => ?_, fun H' s b o e => ?_⟩
  · by_cases z : b = d
    · subst z
      rw [upd_same] at e
      cases e
    · rw [upd_ne z] at e
      exact ⟨e, z⟩
  · by_cases z : b = d
    · subst z
      rw [upd_same, ← e, hd]
    · rw [upd_ne z]
      exact s _ _ (by rw [upd_ne z]; exact e)
theorem Sh_un {C : Addr} {H : Hp} {p d : Addr} {q : Int × Int} {o : HO} (h : K20.Q.Sh C H p q) (n : p ≠ d) : K20.Q.Sh C (upd H d o) p q := by
  obtain ⟨dx, e⟩ := h
  exact ⟨dx, by rw [upd_ne n]; exact e⟩
theorem Sh_ne {C : Addr} {H : Hp} {p d : Addr} {q : Int × Int} {u : HO} (h : K20.Q.Sh C H p q) (hd : H d = some u) (hu : ∀ C dx fs, u ≠ .ins C dx fs) : p ≠ d := fun z => by
  obtain ⟨dx, e⟩ := h
  rw [z, hd] at e
  exact hu _ _ _ (Option.some.inj e)
theorem ShD_put {C : Addr} {H : Hp} {hd d : Addr} {kvs kvd : List (Key × V)} {ρ : Str → Rat} {o : HO} (h : K20.Q.ShD C H hd kvs ρ) (ne : hd ≠ d) (e : H d = some (.dK kvd)) : K20.Q.ShD C (upd H d o) hd kvs ρ :=
  ⟨by rw [upd_ne ne]; exact h.1, fun x v hv => let ⟨p, e1, e2⟩ := h.2.1 x v hv; ⟨p, e1, Sh_un e2 (Sh_ne e2 e (by intro _ _ _ z; cases z))⟩, h.2.2⟩
theorem Fk.more {F L : List Str} {g : Str → Int} (k : Fk F L g) {x : Str} {v : Int} (hx : x ∈ F) (ll : L.length ≤ 39) (h0 : 0 ≤ v) (h1 : v ≤ 9) : Fk F (addI L x) (setI g x v) :=
  ⟨k.fl, k.nd, k.fn, by have := addI_len L x; omega, fun y hy => by
    rcases addI_sub hy with h | rfl
    · exact k.ln y h
    · exact k.fn y hx, fun y hy => by
    unfold setI
    by_cases e : y = x
    · rw [if_pos e]
      exact ⟨h0, h1⟩
    · rw [if_neg e]
      exact k.gv y ((addI_sub hy).elim id fun h => absurd h e)⟩
theorem rm_set {L : List Str} {g : Str → Int} {x : Str} {v : Int} (y : Str) : rm (addI L x) (setI g x v) y = if y = x then v else rm L g y := by
  have mx : ∀ z, z ∈ addI L x ↔ z ∈ L ∨ z = x := fun z => by
    unfold addI
    split
    · rename_i h
      exact ⟨fun q => .inl q, fun q => q.elim id fun e => e ▸ h⟩
    · simp
  unfold rm setI
  by_cases e : y = x
  · rw [if_pos ((mx y).mpr (.inr e)), if_pos e, if_pos e]
  · rw [if_neg e, if_neg e]
    by_cases h : y ∈ L
    · rw [if_pos ((mx y).mpr (.inl h)), if_pos h]
    · rw [if_neg (fun z => ((mx y).mp z).elim h e), if_neg h]
theorem lac_0 (F L : List Str) (g : Str → Int) : 0 ≤ lac F L g := by
  unfold lac
  split <;> omega
theorem nines {F : List Str} {s : Str → Int} (h : ∀ x ∈ F, s x = 9) : (F.map s).sum = 9 * F.length := by
  induction F with
  | nil => rfl
  | cons x F ih =>
    rw [List.map_cons, List.sum_cons, h x List.mem_cons_self, ih fun y hy => h y (List.mem_cons_of_mem _ hy), List.length_cons]
    omega
theorem lac_nines {F L : List Str} {g : Str → Int} (h : 0 < lac F L g → ∀ x ∈ F, rm L g x = 9) : lac F L g ≤ 0 := by
  by_cases c : 0 < lac F L g
  · have e : (sts F L g).sum = 9 * F.length := nines (h c)
    unfold lac at c ⊢
    rw [e] at c ⊢
    split <;> omega
  · omega
section
variable {P : Program} {w : World} {K : PySem.W.Frag} {mg : Str → Option Value} {base : Heap} {f C : Addr} {fd : FuncData}
def spLaw (K : PySem.W.Frag) : Sp := fun vs H Q _ => ∃ (a : Addr) (ns : List Int), vs = [.ref a] ∧ SqL K H a (ns.map V.int) ∧ ns.length ≤ 63 ∧ ∀ H', Q (.bl true) H'
theorem ok_law (Fl : Dn K d_law f fd) (b : Bl mg) (bd : mg "dict" = none) (MS : K20.Q.MakS P w K mg base C)
    (cP : Cal P w K mg base 1 "_law_pen" (spPen K) []) (cDr : Cal P w K mg base 3 "_law_drawn" spDr []) (cWo : Cal P w K mg base 2 "_law_worths" spWo []) (cL : Cal P w K mg base 2 "lacking" spLa []) (cR : Cal P w K mg base 7 "_law_right" (spRi C) []) :
    FnOk P w K mg base CX0 8 f fd ["_law_script"] (spLaw K) := by
  refine Fl.ok sc_law (fun vs H Q E h => ?_) (fun cdv A outer s H vs Q E hr h => ?_)
  · obtain ⟨a, ns, rfl, _⟩ := h
    rfl
  · obtain ⟨s0, ns, rfl, hS, hlen, hQ⟩ := h
    have hu := hu_of hr
    refine ⟨_, PSs.nox (pss_cons (ps_set (i := 1) sc_law.nd rfl (.inl rfl) (pe_c cP hr (by decide) rfl (pa_cons (pv 0) pa_nil)))
      (pss_cons (ps_for PassesOwn.never rfl (pi_range1 rfl b.range (pa_cons pe_int pa_nil)) (pg_name (i := 2) sc_law.nd rfl (.inl rfl))
        (pss_cons (ps_asg (pe_c cDr hr (by decide) rfl (pa_cons (pv 1) pa_nil)) (pg_tup rfl (pgs_cons (pg_name (i := 3) sc_law.nd rfl (.inl rfl)) (pgs_cons (pg_name (i := 4) sc_law.nd rfl (.inl rfl)) pgs_nil))))
        (pss_cons (ps_set (i := 5) sc_law.nd rfl (.inr rfl) (pe_c cWo hr (by decide) rfl (pa_cons (pv 1) (pa_cons (pv 3) pa_nil))))
        (pss_cons (ps_set (i := 7) sc_law.nd rfl (.inl rfl) (pe_callTy (call_dictP rfl) rfl bd boot_dict (pa_cons (pe_lock (pe_lc (own := [("_law_called", 6)]) (g := gName 6) (tt := tYes) rfl sc_law.nd (pi_keys (pv 5)) (blkOk_by (N := N_law) (sc := defScope s_law) (by decide +kernel))
            (fun _ _ _ _ _ => pg_name (i := 6) sc_law.nd rfl (Or.inl rfl)) (fun _ _ _ _ _ => pts_nil)
            (fun _ _ _ _ _ => pe_tup (pa_cons (pv 6) (pa_cons (pe_mk MS hr (by decide) rfl (pa_cons (pe_ix (r := rIxT K) ix_tup (pe_dget hu (pv 5) (pv 6) (fun _ _ => rfl)) pe_int (fun _ _ => rfl)) (pa_cons (pe_ix (r := rIxT K) ix_tup (pe_dget hu (pv 5) (pv 6) (fun _ _ => rfl)) pe_int (fun _ _ => rfl)) pa_nil))) pa_nil))))) pa_nil)))
        (pss_cons (ps_for PassesOwn.never rfl (pi_list (pv 3)) (pg_name (i := 6) sc_law.nd rfl (.inl rfl))
          (pss_one (ps_if (pt_cmpR op_gt (pe_c cL hr (by decide) rfl (pa_cons (pv 3) (pa_cons (pv 4) pa_nil))) pe_int (nomark _)) (pss_one (ps_dput hu (pv 4) (pv 6) pe_int rfl)) pss_nil)))
        (pss_one (ps_if (PW.pt (pw_or (pt_cmpR op_ne (pe_c cL hr (by decide) rfl (pa_cons (pv 3) (pa_cons (pv 4) pa_nil))) pe_int (nomark _)) (pw_or1 (pt_not (pt_val (pe_c cR hr (by decide) rfl (pa_cons (pv 3) (pa_cons (pv 4) (pa_cons (pv 7) pa_nil))))))))) pss_never pss_nil)))))))
      (pss_one (ps_ret pe_bl)))), ?_⟩
    refine ⟨_, rfl, s0, ns, rfl, hS, hlen, fun p H1 s1 f1 pen1 => ?_⟩
    refine ⟨6, rfl, by decide, by decide, for_range (n := 6) (fun i σ H3 => (∃ v2 v3 v4 v5 v6 v7 : Option V, σ = [some (.ref s0), some (.ref p), v2, v3, v4, v5, v6, v7]) ∧ Pen H3 p (300 * (6 - i))) ⟨⟨_, _, _, _, _, _, rfl⟩, pen1.weak (by decide)⟩ ?_ ?_⟩
    · rintro i σ H3 hi ⟨⟨v2, v3, v4, v5, v6, v7, rfl⟩, pen3⟩
      refine ⟨_, rfl, p, 300 * (6 - i) - 110, rfl, pen3.weak (by omega), fun t a d F L g H4 fk l12 pen4 k4 ht ha hd oa od => ?_⟩
      refine ⟨t, _, rfl, SqT.of ht, rfl, _, _, rfl, _, _, rfl, rfl, ?_⟩
      have fl := fk.fl
      refine ⟨_, rfl, _, rfl, p, a, 300 * (6 - i) - 170, F, rfl, pen4.weak (by omega), ha, oa, fl, fk.nd, fun wd ws H5 pen5 k5 hw ow fw wk lw => ?_⟩
      have ha5 := k5.1 _ _ ha oa.ne
      have hd5 := k5.1 _ _ hd od.ne
      have oa5 := oa.kp k5
      have od5 := od.kp k5
      obtain ⟨ad, tt, bb, wf⟩ := wk.wf hw
      have nd := wk.nd
      have ll : (ws.map (·.1)).length ≤ 12 := by rw [List.length_map]; exact lw
      generalize ws.map (·.1) = W at wf nd ll
      -- what is handed
      refine ⟨wd, _, wf.hd, trivial, fun ob => ?_⟩
      obtain ⟨hd1, kp1, new1, back1⟩ := lockA wf.hd ob
      have hv1 : ∀ x ∈ W, (upd H5 wd (.frz ob (.dK (adK W ad)))) (ad x) = some (.tup [.int (tt x), .int (bb x)]) := fun x hx => kp1 _ _ (wf.tp x hx) fun z => by have := wf.tp x hx; rw [z, wf.hd] at this; cases this
      generalize upd H5 wd (.frz ob (.dK (adK W ad))) = G1 at hd1 kp1 new1 back1 hv1
      refine ⟨_, rfl, wd, ob, rfl, .inl ⟨_, hd1, fun D hD => lc_it walk_keys (fun i H2 => ∃ (pa sa : Str → Addr), H2 D = some (.lst ((W.take i).map fun x => V.ref (pa x))) ∧ (∀ x ∈ W.take i, H2 (pa x) = some (.tup [.str x, .ref (sa x)]) ∧ K20.Q.Sh C H2 (sa x) (pr (wor W tt bb x))) ∧ Same G1 H2)
        ⟨fun _ => 0, fun _ => 0, upd_same, fun x hx => by simp at hx, same_new hD⟩ (fun i H2 _ z => by obtain ⟨_, _, _, _, sm⟩ := z; exact sm _ _ hd1) ?_ ?_⟩⟩
      · rintro j x H2 H3 hi ⟨pa, sa, hdd, hval, sm⟩ ⟨eH, kk, v, hkk, rfl⟩
        have eH := eH.symm
        subst eH
        rw [List.length_map] at hi
        rw [List.getElem?_map] at hkk
        obtain ⟨z, hz0, e0⟩ := Option.map_eq_some_iff.mp hkk
        cases e0
        have hzL := List.mem_of_getElem? hz0
        have nz := nin_take nd hz0
        refine ⟨rfl, ?_⟩
        have dg : DGet H2 wd (.str z) (some (.ref (ad z))) := .inl ⟨_, Sum.inr z, .inr ⟨ob, sm _ _ hd1⟩, rfl, (DQ.val_map (fun y => V.ref (ad y)) hzL).symm⟩
        have hvz := sm _ _ (hv1 z hzL)
        have z1 := wf.bt z hzL
        have z2 := wf.bb z hzL
        refine ⟨_, rfl, _, rfl, _, rfl, wd, _, rfl, dg, ad z, _, _, _, rfl, rfl, SqT.of hvz, atI_nat (j := 0) rfl, _, rfl, _, rfl, wd, _, rfl, dg, ad z, _, _, _, rfl, rfl, SqT.of hvz, atI_nat (j := 1) rfl, ?_⟩
        intro t dt nt ndt ne
        refine K20.Q.mk_in (n := 10) nt ndt (by omega) (by show _ < 1024; omega) (by decide) (by decide) fun H4 s4 ht => ⟨rfl, ?_⟩
        have ht : K20.Q.Sh C H4 t (pr (wor W tt bb z)) := by
          unfold wor
          rw [if_pos hzL]
          exact ht
        refine ⟨by show 2 ≤ sizeLine; decide, fun q fq => ?_⟩
        have sq := same_new (o := .tup [.str z, .ref t]) fq
        have s24 := s4.trans sq
        have hD4 := s24 _ _ hdd
        refine ⟨_, hD4, by rw [List.length_map, List.length_take]; exact line_lt (by omega), fun x => if x = z then q else pa x, fun x => if x = z then t else sa x, ?_, fun x hx => ?_, fun b o e => ?_⟩
        · rw [upd_same, take_one hz0, List.map_append]
          have e1 : (W.take j).map (fun x => V.ref (pa x)) = (W.take j).map fun x => V.ref (if x = z then q else pa x) := List.map_congr_left fun x hx => by rw [if_neg (show ¬ x = z from fun e => nz (e ▸ hx))]
          rw [e1]
          simp
        · have nD : ∀ {p : Addr} {o : HO}, (upd H4 q (.tup [.str z, .ref t])) p = some o → (∀ ys, o ≠ .lst ys) → p ≠ D := fun {p o} e n zz => by
            rw [zz, hD4] at e
            exact n _ (Option.some.inj e).symm
          rw [take_one hz0] at hx
          by_cases e : x = z
          · subst e
            dsimp only
            rw [if_pos rfl, if_pos rfl]
            refine ⟨?_, ?_⟩
            · rw [upd_ne (nD upd_same (fun ys e => by cases e))]
              exact upd_same
            · obtain ⟨dx, e⟩ := ht
              have e2 := sq _ _ e
              exact ⟨dx, by rw [upd_ne (nD e2 (fun ys e => by cases e))]; exact e2⟩
          · have hx' : x ∈ W.take j := by
              rcases List.mem_append.mp hx with q' | q'
              · exact q'
              · exact absurd (List.mem_singleton.mp q') e
            obtain ⟨h1, dx, h2⟩ := hval x hx'
            dsimp only
            rw [if_neg e, if_neg e]
            have g1 := s24 _ _ h1
            have g2 := s24 _ _ h2
            exact ⟨by rw [upd_ne (nD g1 (fun ys e => by cases e))]; exact g1, dx, by rw [upd_ne (nD g2 (fun ys e => by cases e))]; exact g2⟩
        · rw [upd_ne (ne_of_none e hD)]
          exact s24 _ _ (sm _ _ e)
      rintro H2 ⟨pa, sa, hdd, hval, sm⟩
      rw [List.length_map, List.take_length] at hdd hval
      obtain ⟨nD, nDd⟩ := new1 D hD
      have hd2 := sm _ _ hd1
      have s02 := back1 H2 sm
      refine ⟨hd2, ?_⟩
      have g0 : (upd H2 wd (.dK (adK W ad))) D = some (.lst (W.map fun x => V.ref (pa x))) := by rw [upd_ne nDd]; exact hdd
      have g1 : ∀ x ∈ W, (upd H2 wd (.dK (adK W ad))) (pa x) = some (.tup [.str x, .ref (sa x)]) ∧ K20.Q.Sh C (upd H2 wd (.dK (adK W ad))) (sa x) (pr (wor W tt bb x)) := fun x hx => by
        obtain ⟨h1, h2⟩ := hval x hx
        exact ⟨by rw [upd_ne fun z => by rw [z, hd2] at h1; cases h1]; exact h1, Sh_un h2 (Sh_ne h2 hd2 (by intro _ _ _ z; cases z))⟩
      generalize upd H2 wd (.dK (adK W ad)) = G2 at s02 g0 g1
      refine ⟨D, W.map pa, W.map fun x => ((Sum.inr x : Key), V.ref (sa x)), rfl, by rw [List.map_map]; exact SqL.of g0, paired_map fun x hx => SqT.of (g1 x hx).1, fun q fq => ?_⟩
      have em : mergeK [] (W.map fun x => ((Sum.inr x : Key), V.ref (sa x))) = adK W sa := DQ.merge_map (fun x => V.ref (sa x)) (l := W) (m := []) nd
      rw [em]
      have sq := same_new (o := .dK (adK W sa)) fq
      have s6 := s02.trans sq
      have shd : K20.Q.ShD C (upd G2 q (.dK (adK W sa))) q (adK W sa) (wor W tt bb) := by
        refine ⟨upd_same, fun x v hv => ?_, fun x hv => ?_⟩
        · by_cases h : x ∈ W
          · rw [DQ.val_map (fun y => V.ref (sa y)) h] at hv
            exact ⟨sa x, (Option.some.inj hv).symm, (g1 x h).2.keep sq⟩
          · rw [DQ.val_none (fun y => V.ref (sa y)) h] at hv
            cases hv
        · by_cases h : x ∈ W
          · rw [DQ.val_map (fun y => V.ref (sa y)) h] at hv
            cases hv
          · exact if_neg h
      have nqd : q ≠ d := (ne_of_none (s02 _ _ hd5) fq).symm
      have sz := wf.sz
      have pen6 := pen5.same s6
      have ha6 := s6 _ _ ha5
      have hd6 := s6 _ _ hd5
      have od6 := od5.kp (Kp.same s6)
      have nad : a ≠ d := ne_of ha5 hd5 (by intro z; cases z)
      generalize upd G2 q (.dK (adK W sa)) = H6 at shd pen6 ha6 hd6 od6 ⊢
      clear g0 g1 em sq s6 s02 hd2 hval hdd sm
      generalize adK W sa = kvs at shd
      generalize wor W tt bb = ρ at shd sz
      -- enough seats
      refine ⟨_, rfl, a, rfl, ⟨_, SqL.of ha6⟩, for_list (K := K) (xs := F.map V.str) (fun j σ H' => ∃ (v6 : Option V) (L : List Str) (g : Str → Int), σ = [some (.ref s0), some (.ref p), some (.int (0 + (i : Int))), some (.ref a), some (.ref d), some (.ref wd), v6, some (.ref q)] ∧ Fk F L g ∧ L.length ≤ 12 + j ∧ (0 < lac F L g → ∀ x ∈ F.take j, rm L g x = 9) ∧
        H' a = some (.lst (F.map V.str)) ∧ H' d = some (.dK (idK L g)) ∧ Off p d H' ∧ Pen H' p (300 * (6 - i) - 170) ∧ K20.Q.ShD C H' q kvs ρ)
        ⟨_, L, g, rfl, fk, l12, fun _ x hx => by simp at hx, ha6, hd6, od6, pen6, shd⟩ (fun j σ H' _ z => by obtain ⟨_, _, _, _, _, _, _, z, _⟩ := z; exact SqL.of z) ?_ ?_⟩
      · rintro j v σ H' hv ⟨v6, L, g, rfl, fk, ll, ni, ha', hd', od', pen', sh'⟩
        obtain ⟨x, hx, rfl⟩ := strs_at hv
        have jl := (List.getElem?_eq_some_iff.mp hx).1
        have et : F.take (j + 1) = F.take j ++ [x] := take_one hx
        refine ⟨_, rfl, _, rfl, a, d, F, L, g, rfl, ha', hd', by omega, fun H'' s7 => ⟨_, _, rfl, rfl, _, rfl, ?_⟩⟩
        have ha7 := s7 _ _ ha'
        have hd7 := s7 _ _ hd'
        have od7 := od'.kp (Kp.same s7)
        have pen7 := pen'.same s7
        have sh7 := sh'.keep s7
        refine ite2 (fun c => ?_) (fun c => ?_)
        · have c0 : 0 < lac F L g := of_decide_eq_true c
          refine ⟨_, rfl, _, rfl, d, _, rfl, DPut.k (k := Sum.inr x) hd7 (by rw [List.length_map]; exact line_lt (by omega)), ?_⟩
          rw [id_put]
          refine ⟨_, addI L x, setI g x 9, rfl, fk.more (List.mem_of_getElem? hx) (by omega) (by omega) (by omega), by have := addI_len L x; omega, fun _ y hy => ?_, by rw [upd_ne nad]; exact ha7, upd_same, od7.put od7.ne.symm, pen7.put od7, ShD_put sh7 nqd hd7⟩
          rw [rm_set]
          rw [et] at hy
          rcases List.mem_append.mp hy with h | h
          · split
            · rfl
            · exact ni c0 y h
          · rw [if_pos (List.mem_singleton.mp h)]
        · exact ⟨_, L, g, rfl, fk, by omega, fun z => absurd z (fun z => c (decide_eq_true z)), ha7, hd7, od7, pen7, sh7⟩
      · rintro σ H' ⟨v6, L, g, rfl, fk, ll, ni, ha', hd', od', pen', sh'⟩
        rw [List.length_map, List.take_length] at ni
        have lc := lac_nines ni
        have l0 := lac_0 F L g
        refine ⟨_, rfl, _, rfl, a, d, F, L, g, rfl, ha', hd', by omega, fun H'' s7 => ⟨rfl, _, rfl, ?_⟩⟩
        have e0 : lac F L g = 0 := by omega
        rw [e0]
        refine ⟨_, rfl, _, rfl, _, rfl, a, d, q, F, L, g, kvs, ρ, 10, rfl, fk, s7 _ _ ha', s7 _ _ hd', sh'.keep s7, sz, by decide, by decide, lc, fun H8 s8 => ?_⟩
        exact ⟨_, rfl, ⟨_, _, _, _, _, _, rfl⟩, ((pen'.same s7).same s8).weak (by omega)⟩
    · rintro σ H3 ⟨⟨v2, v3, v4, v5, v6, v7, rfl⟩, pen3⟩
      exact hQ _
end
end K20
set_option Elab.async false
set_option linter.all false
set_option maxRecDepth 100000
set_option maxHeartbeats 4000000
namespace K20
open PySem PySem.Spec PyProof.Rows L2
def xk1 (K : PySem.W.Frag) : Bool := GX.gxB K (He.ga K "NoSeats") [.type "IndexError", .type "LookupError", .type "Exception", .type "BaseException", .type "object"] "IndexError.__new__" && (GX.vvB K "IndexError" "IndexError.__init__" && decide (PySem.W.exmOne K (.ref (He.ga K "NoSeats")) (.ref (He.ga K "NoSeats")) = some true))
theorem xk_ok {K : PySem.W.Frag} (h : xk1 K = true) : GX.Gx K (He.ga K "NoSeats") ieT "IndexError.__new__" ∧ PySem.W.findCls K (.type "IndexError") (.type "type") "__init__" = some (.val (.builtin "IndexError.__init__")) ∧ PySem.W.exmOne K (.ref (He.ga K "NoSeats")) (.ref (He.ga K "NoSeats")) = some true := by
  unfold xk1 at h
  obtain ⟨h1, h⟩ := Bool.and_eq_true_iff.mp h
  obtain ⟨h2, h3⟩ := Bool.and_eq_true_iff.mp h
  exact ⟨GX.gxB_ok h1, GX.vvB_ok h2, of_decide_eq_true h3⟩
end K20
set_option Elab.async false
set_option linter.all false
set_option maxRecDepth 100000
set_option maxHeartbeats 0
namespace K20
open PySem PySem.Spec PyProof.Rows L2
open C8 (Cal Mak Met pe_c pe_mk pe_mt pe_mt0)
def fa : List He.Fa := [.glo "is_whole", .glo "common_part", .glo "in_order", .glo "seats_of", .glo "lacking", .glo "fewest", .glo "best_sum", .glo "choose", .glo "crews", .glo "is_car", .glo "carries", .glo "_law_pen", .glo "_law_draw", .glo "_law_names", .glo "_law_drawn", .glo "_law_worths", .glo "_law_seats_lack", .glo "_law_less_right", .glo "_law_changed_right", .glo "_law_put_right", .glo "_law_right", .glo "law", .free "isinstance", .free "int", .free "bool", .free "str", .free "list", .free "range", .free "len", .free "all", .free "any", .free "max", .free "min", .free "abs", .free "sum", .free "sorted", .free "tuple", .free "dict", .free "enumerate", .free "repr", .free "IndexError", .glo "Share", .cls "Share", .mkr "Share", .glo "NoSeats", .noat "Share" "top", .noat "Share" "bottom", .noat "NoSeats" "lack", .meth "Share" "below", .meth "NoSeats" "__init__"]
def xk (K : PySem.W.Frag) : Bool := (xk1) K
abbrev R : PySem.W.OpenRow := PySem.W.OpenLaw.row PySem.Challenge.rw_rideturns_k20_whole_all_are_carried
abbrev hk : PySem.W.Hook := He.hookX 6 fa fn [] [] xk
def ob (s : PySem.W.SharedT) : He.AlX := He.obsX 6 fa fn [] [] xk (HandSHeadRun.getT s)
theorem ob_eq (s : PySem.W.SharedT) : ob s = hk.obs s.abs := He.obsX_eq (HandSHeadRun.getT_eq s)
abbrev loose : List Str := [("_wall" : Str), ("NoKind" : Str), ("Nought" : Str), ("NoName" : Str), ("NoSeats" : Str), ("is_whole" : Str), ("common_part" : Str), ("Share" : Str), ("in_order" : Str), ("seats_of" : Str), ("lacking" : Str), ("fewest" : Str), ("best_sum" : Str), ("choose" : Str), ("crews" : Str), ("is_car" : Str), ("carries" : Str), ("_law_pen" : Str), ("_law_draw" : Str), ("_law_names" : Str), ("_law_drawn" : Str), ("_law_worths" : Str), ("_law_seats_lack" : Str), ("_law_less_right" : Str), ("_law_changed_right" : Str), ("_law_put_right" : Str), ("_law_right" : Str)]
theorem run_ (w : World) : HandSHeadRun.RunEq R (PySem.W.view R.prog [32]) hk ob 8000 loose w := by
  intro os
  kernel_rfl
theorem cal_of {P : Program} {w : World} {K : PySem.W.Frag} {mg : Str → Option Value} {base : Heap} {f : Addr} {fd : FuncData} {ps : List Str} {k : Nat} {x : Str} {sp : Sp} (F : FnOk P w K mg base CX0 k f fd ps sp) (g : mg x = some (.ref f)) (kp : PySem.W.keepIn K (.ref f) = true) (b : Binds K fd ps []) : Cal P w K mg base k x sp [] :=
  ⟨f, fd, ps, [], F, g, kp, b, .nil⟩
theorem met_of {P : Program} {w : World} {K : PySem.W.Frag} {mg : Str → Option Value} {base : Heap} {f C : Addr} {fd : FuncData} {ps : List Str} {k : Nat} {m : Str} {sp : Sp} (c : Cls K C) (h : Meth K C m f) (F : FnOk P w K mg base CX0 k f fd ps sp) (b : Binds K fd ps []) : Met P w K mg base k C m sp [] :=
  ⟨f, fd, ps, [], c, h, F, b, .nil⟩
theorem facts {P : Program} {w : World} {K : PySem.W.Frag} {h h0 : Heap} {mg : Str → Option Value} {f : Addr} (X : K.In h) (G : h.Ns mainGlobals mg) (hfa : mg ("law" : Str) = some (.ref f)) (c : He.SaysX fa fn [] [] xk w h0 K) :
    ∃ fd : FuncData, (∀ (s : Shared) (v : Value), BindsTo s fd ⟨[v], []⟩ [("_law_script", v)]) ∧ ∀ base : Heap, K.In base → base.Ns mainGlobals mg → FnOk P w K mg base CX0 8 f fd ["_law_script"] (spLaw K) := by
  have d := c.t.d
  have x := c.more
  have gl : ∀ (i : Nat) (x : Str), fa[i]? = some (.glo x) → mg x = some (.ref (He.ga K x)) := fun i x e => He.glo_ok X G (d.fact i e)
  have fr : ∀ (i : Nat) (x : Str), fa[i]? = some (.free x) → mg x = none := fun i x e => He.free_ok X G (d.fact i e)
  have me : ∀ (i : Nat) (C m : Str), fa[i]? = some (.meth C m) → Meth K (He.ga K C) m (He.ma K (He.ga K C) m) := fun i C m e => He.meth_ok (d.fact i e)
  have gl_is_whole := gl 0 "is_whole" rfl
  have gl_common_part := gl 1 "common_part" rfl
  have gl_in_order := gl 2 "in_order" rfl
  have gl_seats_of := gl 3 "seats_of" rfl
  have gl_lacking := gl 4 "lacking" rfl
  have gl_fewest := gl 5 "fewest" rfl
  have gl_best_sum := gl 6 "best_sum" rfl
  have gl_choose := gl 7 "choose" rfl
  have gl_crews := gl 8 "crews" rfl
  have gl_is_car := gl 9 "is_car" rfl
  have gl_carries := gl 10 "carries" rfl
  have gl__law_pen := gl 11 "_law_pen" rfl
  have gl__law_draw := gl 12 "_law_draw" rfl
  have gl__law_names := gl 13 "_law_names" rfl
  have gl__law_drawn := gl 14 "_law_drawn" rfl
  have gl__law_worths := gl 15 "_law_worths" rfl
  have gl__law_seats_lack := gl 16 "_law_seats_lack" rfl
  have gl__law_less_right := gl 17 "_law_less_right" rfl
  have gl__law_changed_right := gl 18 "_law_changed_right" rfl
  have gl__law_put_right := gl 19 "_law_put_right" rfl
  have gl__law_right := gl 20 "_law_right" rfl
  have gl_law := gl 21 "law" rfl
  have fr_isinstance := fr 22 "isinstance" rfl
  have fr_int := fr 23 "int" rfl
  have fr_bool := fr 24 "bool" rfl
  have fr_str := fr 25 "str" rfl
  have fr_list := fr 26 "list" rfl
  have fr_range := fr 27 "range" rfl
  have fr_len := fr 28 "len" rfl
  have fr_all := fr 29 "all" rfl
  have fr_any := fr 30 "any" rfl
  have fr_max := fr 31 "max" rfl
  have fr_min := fr 32 "min" rfl
  have fr_abs := fr 33 "abs" rfl
  have fr_sum := fr 34 "sum" rfl
  have fr_sorted := fr 35 "sorted" rfl
  have fr_tuple := fr 36 "tuple" rfl
  have fr_dict := fr 37 "dict" rfl
  have fr_enumerate := fr 38 "enumerate" rfl
  have fr_repr := fr 39 "repr" rfl
  have fr_IndexError := fr 40 "IndexError" rfl
  have gl_Share := gl 41 "Share" rfl
  have cls_Share := He.cls_ok (d.fact 42 (f := .cls "Share") rfl)
  have mk_Share := He.mkr_ok (d.fact 43 (f := .mkr "Share") rfl)
  have gl_NoSeats := gl 44 "NoSeats" rfl
  have no_Share_top := He.noat_ok (d.fact 45 (f := .noat "Share" "top") rfl)
  have no_Share_bottom := He.noat_ok (d.fact 46 (f := .noat "Share" "bottom") rfl)
  have no_NoSeats_lack := He.noat_ok (d.fact 47 (f := .noat "NoSeats" "lack") rfl)
  have me_Share_below := me 48 "Share" "below" rfl
  have me_NoSeats_init := me 49 "NoSeats" "__init__" rfl
  obtain ⟨fd_NoSeats_init, D_NoSeats_init⟩ := d.def_ 4 (d := d_NoSeats_init) rfl
  obtain ⟨fd_is_whole, D_is_whole⟩ := d.def_ 5 (d := d_is_whole) rfl
  obtain ⟨fd_common_part, D_common_part⟩ := d.def_ 6 (d := d_common_part) rfl
  obtain ⟨fd_Share_init, D_Share_init⟩ := d.def_ 7 (d := d_Share_init) rfl
  obtain ⟨fd_Share_below, D_Share_below⟩ := d.def_ 15 (d := d_Share_below) rfl
  obtain ⟨fd_in_order, D_in_order⟩ := d.def_ 17 (d := d_in_order) rfl
  obtain ⟨fd_seats_of, D_seats_of⟩ := d.def_ 18 (d := d_seats_of) rfl
  obtain ⟨fd_lacking, D_lacking⟩ := d.def_ 19 (d := d_lacking) rfl
  obtain ⟨fd_fewest, D_fewest⟩ := d.def_ 20 (d := d_fewest) rfl
  obtain ⟨fd_best_sum, D_best_sum⟩ := d.def_ 21 (d := d_best_sum) rfl
  obtain ⟨fd_choose, D_choose⟩ := d.def_ 22 (d := d_choose) rfl
  obtain ⟨fd_crews, D_crews⟩ := d.def_ 23 (d := d_crews) rfl
  obtain ⟨fd_is_car, D_is_car⟩ := d.def_ 24 (d := d_is_car) rfl
  obtain ⟨fd_carries, D_carries⟩ := d.def_ 25 (d := d_carries) rfl
  obtain ⟨fd_l_pen, D_l_pen⟩ := d.def_ 26 (d := d_l_pen) rfl
  obtain ⟨fd_l_draw, D_l_draw⟩ := d.def_ 27 (d := d_l_draw) rfl
  obtain ⟨fd_l_names, D_l_names⟩ := d.def_ 28 (d := d_l_names) rfl
  obtain ⟨fd_l_drawn, D_l_drawn⟩ := d.def_ 29 (d := d_l_drawn) rfl
  obtain ⟨fd_l_worths, D_l_worths⟩ := d.def_ 30 (d := d_l_worths) rfl
  obtain ⟨fd_l_seats_lack, D_l_seats_lack⟩ := d.def_ 31 (d := d_l_seats_lack) rfl
  obtain ⟨fd_l_less_right, D_l_less_right⟩ := d.def_ 32 (d := d_l_less_right) rfl
  obtain ⟨fd_l_changed_right, D_l_changed_right⟩ := d.def_ 33 (d := d_l_changed_right) rfl
  obtain ⟨fd_l_put_right, D_l_put_right⟩ := d.def_ 34 (d := d_l_put_right) rfl
  obtain ⟨fd_l_right, D_l_right⟩ := d.def_ 35 (d := d_l_right) rfl
  obtain ⟨fd_law, D_law⟩ := d.def_ 36 (d := d_law) rfl
  have e := hfa.symm.trans gl_law
  cases e
  have bL := FunD.bindsA (ps := ["_law_script"]) D_law fun _ _ _ _ _ _ us hl => match us, hl with | [_], _ => rfl
  refine ⟨fd_law, fun s v => bL s [v] rfl, fun base _ _ => ?_⟩
  have b_NoSeats_init : Binds K fd_NoSeats_init ["self", "lack"] [] := D_NoSeats_init.bindsN fun _ _ _ _ _ _ us hl => match us, hl with | [_, _], _ => rfl
  have b_is_whole : Binds K fd_is_whole ["thing"] [] := D_is_whole.bindsN fun _ _ _ _ _ _ us hl => match us, hl with | [_], _ => rfl
  have b_common_part : Binds K fd_common_part ["one", "other"] [] := D_common_part.bindsN fun _ _ _ _ _ _ us hl => match us, hl with | [_, _], _ => rfl
  have b_Share_init : Binds K fd_Share_init ["self", "top", "bottom"] [] := by
    obtain ⟨ds, h1, h2⟩ := D_Share_init.binds1 (ps := ["self", "top", "bottom"]) 3 1 (List.cons_ne_nil _ _) rfl (fun T kV doc pm an cdv ct us its hl h1 => match us, hl, its, h1 with | [_, _, _], _, [_], _ => ⟨_, rfl, rfl⟩)
    cases h1
    exact h2
  obtain ⟨ds1_Share_init, v1_Share_init, b1_Share_init⟩ := D_Share_init.binds1 (ps := ["self", "top", "bottom"]) 2 0 (List.cons_ne_nil _ _) rfl (fun T kV doc pm an cdv ct us its hl h1 => match us, hl, its, h1 with | [_, _], _, [_], _ => ⟨_, rfl, rfl⟩)
  have b_Share_below : Binds K fd_Share_below ["self", "other"] [] := D_Share_below.bindsN fun _ _ _ _ _ _ us hl => match us, hl with | [_, _], _ => rfl
  have b_in_order : Binds K fd_in_order ["names", "shares"] [] := D_in_order.bindsN fun _ _ _ _ _ _ us hl => match us, hl with | [_, _], _ => rfl
  have b_seats_of : Binds K fd_seats_of ["names", "seats"] [] := D_seats_of.bindsN fun _ _ _ _ _ _ us hl => match us, hl with | [_, _], _ => rfl
  have b_lacking : Binds K fd_lacking ["riders", "seats"] [] := D_lacking.bindsN fun _ _ _ _ _ _ us hl => match us, hl with | [_, _], _ => rfl
  have b_fewest : Binds K fd_fewest ["riders", "seats"] [] := D_fewest.bindsN fun _ _ _ _ _ _ us hl => match us, hl with | [_, _], _ => rfl
  have b_best_sum : Binds K fd_best_sum ["numbers", "many"] [] := D_best_sum.bindsN fun _ _ _ _ _ _ us hl => match us, hl with | [_, _], _ => rfl
  have b_choose : Binds K fd_choose ["riders", "seats", "standing"] [] := by
    obtain ⟨ds, h1, h2⟩ := D_choose.binds1 (ps := ["riders", "seats", "standing"]) 3 1 (List.cons_ne_nil _ _) rfl (fun T kV doc pm an cdv ct us its hl h1 => match us, hl, its, h1 with | [_, _, _], _, [_], _ => ⟨_, rfl, rfl⟩)
    cases h1
    exact h2
  obtain ⟨ds1_choose, v1_choose, b1_choose⟩ := D_choose.binds1 (ps := ["riders", "seats", "standing"]) 2 0 (List.cons_ne_nil _ _) rfl (fun T kV doc pm an cdv ct us its hl h1 => match us, hl, its, h1 with | [_, _], _, [_], _ => ⟨_, rfl, rfl⟩)
  have b_crews : Binds K fd_crews ["riders", "drivers", "seats"] [] := D_crews.bindsN fun _ _ _ _ _ _ us hl => match us, hl with | [_, _, _], _ => rfl
  have b_is_car : Binds K fd_is_car ["thing", "seats"] [] := D_is_car.bindsN fun _ _ _ _ _ _ us hl => match us, hl with | [_, _], _ => rfl
  have b_carries : Binds K fd_carries ["riders", "seats", "thing"] [] := D_carries.bindsN fun _ _ _ _ _ _ us hl => match us, hl with | [_, _, _], _ => rfl
  have b_l_pen : Binds K fd_l_pen ["_law_script"] [] := D_l_pen.bindsN fun _ _ _ _ _ _ us hl => match us, hl with | [_], _ => rfl
  have b_l_draw : Binds K fd_l_draw ["_law_pen_here", "_law_many"] [] := D_l_draw.bindsN fun _ _ _ _ _ _ us hl => match us, hl with | [_, _], _ => rfl
  have b_l_names : Binds K fd_l_names ["_law_pen_here", "_law_many"] [] := D_l_names.bindsN fun _ _ _ _ _ _ us hl => match us, hl with | [_, _], _ => rfl
  have b_l_drawn : Binds K fd_l_drawn ["_law_pen_here"] [] := D_l_drawn.bindsN fun _ _ _ _ _ _ us hl => match us, hl with | [_], _ => rfl
  have b_l_worths : Binds K fd_l_worths ["_law_pen_here", "_law_known"] [] := D_l_worths.bindsN fun _ _ _ _ _ _ us hl => match us, hl with | [_, _], _ => rfl
  have b_l_seats_lack : Binds K fd_l_seats_lack ["_law_folk", "_law_some", "_law_rooms"] [] := D_l_seats_lack.bindsN fun _ _ _ _ _ _ us hl => match us, hl with | [_, _, _], _ => rfl
  have b_l_less_right : Binds K fd_l_less_right ["_law_folk", "_law_rooms", "_law_some"] [] := D_l_less_right.bindsN fun _ _ _ _ _ _ us hl => match us, hl with | [_, _, _], _ => rfl
  have b_l_changed_right : Binds K fd_l_changed_right ["_law_folk", "_law_rooms", "_law_cars"] [] := D_l_changed_right.bindsN fun _ _ _ _ _ _ us hl => match us, hl with | [_, _, _], _ => rfl
  have b_l_put_right : Binds K fd_l_put_right ["_law_folk", "_law_rooms", "_law_some", "_law_row"] [] := D_l_put_right.bindsN fun _ _ _ _ _ _ us hl => match us, hl with | [_, _, _, _], _ => rfl
  have b_l_right : Binds K fd_l_right ["_law_folk", "_law_rooms", "_law_handed"] [] := D_l_right.bindsN fun _ _ _ _ _ _ us hl => match us, hl with | [_, _, _], _ => rfl
  have b_law : Binds K fd_law ["_law_script"] [] := D_law.bindsN fun _ _ _ _ _ _ us hl => match us, hl with | [_], _ => rfl
  obtain ⟨xG, xV, xE⟩ := xk_ok x
  have B : Bl mg := ⟨fr_isinstance, fr_int, fr_bool, fr_str, fr_list, fr_range, fr_len, fr_all, fr_any, fr_max, fr_min⟩
  have BQ : K20.Q.Bl mg := ⟨fr_isinstance, fr_int, fr_bool, fr_abs, fr_list, fr_range, fr_len⟩
  have BB : B2 mg := ⟨fr_sum, fr_sorted, fr_tuple, fr_repr⟩
  have T : K20.Q.Cl K mg (He.ga K "Share") := ⟨cls_Share, no_Share_top, no_Share_bottom, gl_Share⟩
  have cW : K20.Q.CalW P w K mg base := cal_of (K20.Q.ok_whole D_is_whole BQ) gl_is_whole D_is_whole.kp b_is_whole
  have cG : K20.Q.CalG P w K mg base := cal_of (K20.Q.ok_gcd D_common_part BQ) gl_common_part D_common_part.kp b_common_part
  have FI := K20.Q.ok_init D_Share_init cW cG T
  have MS : K20.Q.MakS P w K mg base (He.ga K "Share") := ⟨_, _, _, _, mk_Share, FI, T.g, b_Share_init, .nil⟩
  have M1 : K20.Q.MakS1 P w K mg base (He.ga K "Share") := ⟨_, _, _, _, mk_Share, FI, T.g, b1_Share_init, v1_Share_init⟩
  have mB : Met P w K mg base 1 (He.ga K "Share") "below" (K20.Q.spLt (He.ga K "Share")) [] := met_of T.cl me_Share_below ((K20.Q.ok_below D_Share_below T).imp fun _ _ _ _ => K20.Q.belowR) b_Share_below
  have cIO := cal_of (P := P) (w := w) (base := base) (K20.Q.ok_in_order D_in_order BQ fr_sorted M1 mB) gl_in_order D_in_order.kp b_in_order
  have KE : KnS K mg (He.ga K "NoSeats") (He.ma K (He.ga K "NoSeats") "__init__") := ⟨xG, me_NoSeats_init.1, eq_of_beq me_NoSeats_init.2, xV, no_NoSeats_lack, gl_NoSeats, fr_IndexError⟩
  have FN := ok_Ns (P := P) (w := w) (base := base) D_NoSeats_init KE
  have cSo := cal_of (P := P) (w := w) (base := base) (ok_so D_seats_of) gl_seats_of D_seats_of.kp b_seats_of
  have cLa := cal_of (P := P) (w := w) (base := base) (ok_la D_lacking B BB cSo) gl_lacking D_lacking.kp b_lacking
  have FF := ok_fe D_fewest B BB KE cSo cLa FN b_NoSeats_init
  have cF := cal_of (QT.quiet FF) gl_fewest D_fewest.kp b_fewest
  have FC := ok_cw D_crews B BB KE cSo FN b_NoSeats_init
  have cCw := cal_of (QT.quiet FC) gl_crews D_crews.kp b_crews
  have cBs := cal_of (P := P) (w := w) (base := base) (ok_bs D_best_sum BB) gl_best_sum D_best_sum.kp b_best_sum
  have cCh := cal_of (P := P) (w := w) (base := base) (ok_cho D_choose B BB fr_enumerate cF cSo cBs cIO) gl_choose D_choose.kp b_choose
  have cIc := cal_of (P := P) (w := w) (base := base) (ok_ic D_is_car B BB) gl_is_car D_is_car.kp b_is_car
  have cCa := cal_of (P := P) (w := w) (base := base) (ok_car D_carries B BB cIc) gl_carries D_carries.kp b_carries
  have cP := cal_of (P := P) (w := w) (base := base) (ok_pen D_l_pen B) gl__law_pen D_l_pen.kp b_l_pen
  have cD : CalD P w K mg base := cal_of (ok_draw D_l_draw B) gl__law_draw D_l_draw.kp b_l_draw
  have cN := cal_of (P := P) (w := w) (base := base) (ok_names D_l_names B cD) gl__law_names D_l_names.kp b_l_names
  have cDr := cal_of (P := P) (w := w) (base := base) (ok_dr D_l_drawn B cD cN) gl__law_drawn D_l_drawn.kp b_l_drawn
  have cWo := cal_of (P := P) (w := w) (base := base) (ok_wo D_l_worths B cD) gl__law_worths D_l_worths.kp b_l_worths
  have cSl := cal_of (P := P) (w := w) (base := base) (ok_sl D_l_seats_lack KE xE FC gl_crews D_crews.kp b_crews) gl__law_seats_lack D_l_seats_lack.kp b_l_seats_lack
  have cLs := cal_of (P := P) (w := w) (base := base) (ok_ls D_l_less_right B BB cSl) gl__law_less_right D_l_less_right.kp b_l_less_right
  have cCr := cal_of (P := P) (w := w) (base := base) (ok_ch D_l_changed_right B fr_dict cCa) gl__law_changed_right D_l_changed_right.kp b_l_changed_right
  have cPu := cal_of (P := P) (w := w) (base := base) (ok_pu D_l_put_right B cSl) gl__law_put_right D_l_put_right.kp b_l_put_right
  have cR := cal_of (P := P) (w := w) (base := base) (ok_ri D_l_right B cCh cIO cF cCw cCa cLs cCr cPu) gl__law_right D_l_right.kp b_l_right
  exact ok_law D_law B fr_dict MS cP cDr cWo cLa cR
end K20
open PySem PySem.W PySem.Calls PyProof.Rows
set_option maxRecDepth 100000 in
set_option maxHeartbeats 0 in
theorem PySem.Challenge.cw_rideturns_k20_whole_all_are_carried_holds : PySem.Challenge.rw_rideturns_k20_whole_all_are_carried.Holds := by
  w_on; o_law
  refine HandSHeadRun.head_any (r := OpenLaw.row PySem.Challenge.rw_rideturns_k20_whole_all_are_carried) (q := view (OpenLaw.row PySem.Challenge.rw_rideturns_k20_whole_all_are_carried).prog [32]) (H := K20.hk) (ob := K20.ob) (M := 8000) (loose := K20.loose) (d := HandSHeadRun.topDef (OpenLaw.row PySem.Challenge.rw_rideturns_k20_whole_all_are_carried).prog 32) (kwd := []) K20.ob_eq
    (by kernel_rfl) (fun s => by kernel_rfl) K20.run_ (by kernel_rfl) (by kernel_rfl) (by kernel_rfl) (by rfl) (by first | assumption | decide +kernel) (by decide +kernel) ⟨rfl, rfl, rfl, rfl, rfl, by decide +kernel⟩ ?hw ?hc
  case hw => w_witness2
  case hc =>
    refine L2.walk_ofE (l := PySem.Challenge.rw_rideturns_k20_whole_all_are_carried) (n := 63) (k := 8) (x := "_law_script") (CX := L2.CX0) rfl (by decide) (by kernel_rfl) ⟨rfl, by decide, by decide⟩ ?F (fun _ _ _ _ z => z)
    intro w mg fa h Y G hmg0
    obtain ⟨K, KX, c⟩ := Y
    have hmg : mg ("law" : PySem.Str) = some (.ref fa) := by
      have e : (HandSHeadRun.topDef (OpenLaw.row PySem.Challenge.rw_rideturns_k20_whole_all_are_carried).prog 32).name = ("law" : PySem.Str) := by kernel_rfl
      rw [← e]
      exact hmg0
    obtain ⟨fd, hb, hF⟩ := K20.facts (P := (PySem.Challenge.rw_rideturns_k20_whole_all_are_carried).prog) (w := w) KX G hmg c
    exact ⟨K, fd, K20.spLaw K, KX, hb, fun H a ns hl _ hS => ⟨a, ns, rfl, hS, hl, fun _ => rfl⟩, hF⟩
