import PyProof.Rows.All
import Wide.All
import OpenK.AllK
import Wide.FinOn
import HandS.ForMost
import HandS.ForExc
import HandS.Defaults
import HandS.Codes
import HandS.IsInst
import HandS.Wide
import HandS.Flow
import HandS.Evl
import HandS.Steps
import HandS.ExcField
import HandS.Head0
import HandS.Head1
import HandS.Head2
import HandS.HeadEnd
import HandS.HeadHook1
import HandS.HeadHook2
import HandS.HeadHook3
import HandS.HeadHook4
import KE.KExcInit
import HandS.ExcInit
import HandS.HeadWalk
import HandS.NestedK
import HandS.Style
import HandS.Comp
import HandS.Text
import HandS.More
import PyProof.StrOps2
import HandS.List
import HandS.Call
import KE.SortCalls
import KE.SortKeyed
import KE.KCallOwn
import PyProof.ReprRoads
import PyProof.ReprDict
import HandS.Iter
import HandS.OwnEq
import HandS.DictTup
import KE.SortData
import HandS.Deep
import HandS.Dict
import KE.LtData
import KE.DataMinMax
import PyProof.Rows.CallKwBuiltin
import HandS.Words
import HandS.MakeKw
import HandS.MakeKwOnly
import HandS.ExcOwn
import HandS.Walk
import HandS.RevRange
import KE.KIndexOf
import PyProof.EqKinds
import PyProof.NeKinds
import PyProof.FactsAll.dict_1
import HandS.ListEq
import KE.KEqNest
import KE.KIsAll
import KE.KTryMore
import HandS.ExcIs
import HandS.ExcValue
import KE.KDictZip
import KE.KTurns
import HandS.Lambda
import HandS.EndTab
import PyProof.OldK
import PyProof.ReprLen
import PySem.Challenge.RW_rideturns_k16_who_drives
set_option Elab.async false
set_option linter.all false
set_option maxRecDepth 100000
set_option maxHeartbeats 4000000
namespace K16
open PySem PySem.Spec PyProof.Rows L2
def top (i : Nat) : Stmt := PySem.Challenge.pw_rideturns_k16_who_drives.main.body.getD i (.Pass ⟨0, 0, 0, 0⟩)
abbrev s__wall : Stmt := top 0
abbrev N__wall : List Str := ["k"]
theorem sc__wall : FnScope N__wall ["k"] (defScope s__wall) := ⟨rfl, rfl, rfl, by decide +kernel, rfl, by decide +kernel, by decide +kernel⟩
def d__wall : He.DefD := ⟨("_wall", none), "_wall", "_wall", defArgs s__wall, defBody s__wall, defScope s__wall, [], []⟩
abbrev s_NoKind_init : Stmt := inClass (top 2) 0
abbrev N_NoKind_init : List Str := ["self", "thing"]
theorem sc_NoKind_init : FnScope N_NoKind_init ["self", "thing"] (defScope s_NoKind_init) := ⟨rfl, rfl, rfl, by decide +kernel, rfl, by decide +kernel, by decide +kernel⟩
def d_NoKind_init : He.DefD := ⟨("NoKind", some "__init__"), "__init__", "NoKind.__init__", defArgs s_NoKind_init, defBody s_NoKind_init, defScope s_NoKind_init, [], []⟩
abbrev s_Nought_init : Stmt := inClass (top 3) 0
abbrev N_Nought_init : List Str := ["self", "top"]
theorem sc_Nought_init : FnScope N_Nought_init ["self", "top"] (defScope s_Nought_init) := ⟨rfl, rfl, rfl, by decide +kernel, rfl, by decide +kernel, by decide +kernel⟩
def d_Nought_init : He.DefD := ⟨("Nought", some "__init__"), "__init__", "Nought.__init__", defArgs s_Nought_init, defBody s_Nought_init, defScope s_Nought_init, [], []⟩
abbrev s_NoShare_init : Stmt := inClass (top 4) 0
abbrev N_NoShare_init : List Str := ["self", "text"]
theorem sc_NoShare_init : FnScope N_NoShare_init ["self", "text"] (defScope s_NoShare_init) := ⟨rfl, rfl, rfl, by decide +kernel, rfl, by decide +kernel, by decide +kernel⟩
def d_NoShare_init : He.DefD := ⟨("NoShare", some "__init__"), "__init__", "NoShare.__init__", defArgs s_NoShare_init, defBody s_NoShare_init, defScope s_NoShare_init, [], []⟩
abbrev s_Uneven_init : Stmt := inClass (top 5) 0
abbrev N_Uneven_init : List Str := ["self", "rest"]
theorem sc_Uneven_init : FnScope N_Uneven_init ["self", "rest"] (defScope s_Uneven_init) := ⟨rfl, rfl, rfl, by decide +kernel, rfl, by decide +kernel, by decide +kernel⟩
def d_Uneven_init : He.DefD := ⟨("Uneven", some "__init__"), "__init__", "Uneven.__init__", defArgs s_Uneven_init, defBody s_Uneven_init, defScope s_Uneven_init, [], []⟩
abbrev s_BadName_init : Stmt := inClass (top 6) 0
abbrev N_BadName_init : List Str := ["self", "name"]
theorem sc_BadName_init : FnScope N_BadName_init ["self", "name"] (defScope s_BadName_init) := ⟨rfl, rfl, rfl, by decide +kernel, rfl, by decide +kernel, by decide +kernel⟩
def d_BadName_init : He.DefD := ⟨("BadName", some "__init__"), "__init__", "BadName.__init__", defArgs s_BadName_init, defBody s_BadName_init, defScope s_BadName_init, [], []⟩
abbrev s_NoNumber_init : Stmt := inClass (top 7) 0
abbrev N_NoNumber_init : List Str := ["self", "thing"]
theorem sc_NoNumber_init : FnScope N_NoNumber_init ["self", "thing"] (defScope s_NoNumber_init) := ⟨rfl, rfl, rfl, by decide +kernel, rfl, by decide +kernel, by decide +kernel⟩
def d_NoNumber_init : He.DefD := ⟨("NoNumber", some "__init__"), "__init__", "NoNumber.__init__", defArgs s_NoNumber_init, defBody s_NoNumber_init, defScope s_NoNumber_init, [], []⟩
abbrev s_NoRide_init : Stmt := inClass (top 8) 0
abbrev N_NoRide_init : List Str := ["self", "reason"]
theorem sc_NoRide_init : FnScope N_NoRide_init ["self", "reason"] (defScope s_NoRide_init) := ⟨rfl, rfl, rfl, by decide +kernel, rfl, by decide +kernel, by decide +kernel⟩
def d_NoRide_init : He.DefD := ⟨("NoRide", some "__init__"), "__init__", "NoRide.__init__", defArgs s_NoRide_init, defBody s_NoRide_init, defScope s_NoRide_init, [], []⟩
abbrev s_NoText_init : Stmt := inClass (top 9) 0
abbrev N_NoText_init : List Str := ["self", "row"]
theorem sc_NoText_init : FnScope N_NoText_init ["self", "row"] (defScope s_NoText_init) := ⟨rfl, rfl, rfl, by decide +kernel, rfl, by decide +kernel, by decide +kernel⟩
def d_NoText_init : He.DefD := ⟨("NoText", some "__init__"), "__init__", "NoText.__init__", defArgs s_NoText_init, defBody s_NoText_init, defScope s_NoText_init, [], []⟩
abbrev s_NoName_init : Stmt := inClass (top 10) 0
abbrev N_NoName_init : List Str := ["self", "name"]
theorem sc_NoName_init : FnScope N_NoName_init ["self", "name"] (defScope s_NoName_init) := ⟨rfl, rfl, rfl, by decide +kernel, rfl, by decide +kernel, by decide +kernel⟩
def d_NoName_init : He.DefD := ⟨("NoName", some "__init__"), "__init__", "NoName.__init__", defArgs s_NoName_init, defBody s_NoName_init, defScope s_NoName_init, [], []⟩
abbrev s_NoDay_init : Stmt := inClass (top 11) 0
abbrev N_NoDay_init : List Str := ["self", "day"]
theorem sc_NoDay_init : FnScope N_NoDay_init ["self", "day"] (defScope s_NoDay_init) := ⟨rfl, rfl, rfl, by decide +kernel, rfl, by decide +kernel, by decide +kernel⟩
def d_NoDay_init : He.DefD := ⟨("NoDay", some "__init__"), "__init__", "NoDay.__init__", defArgs s_NoDay_init, defBody s_NoDay_init, defScope s_NoDay_init, [], []⟩
abbrev s_NoSeats_init : Stmt := inClass (top 12) 0
abbrev N_NoSeats_init : List Str := ["self", "lack"]
theorem sc_NoSeats_init : FnScope N_NoSeats_init ["self", "lack"] (defScope s_NoSeats_init) := ⟨rfl, rfl, rfl, by decide +kernel, rfl, by decide +kernel, by decide +kernel⟩
def d_NoSeats_init : He.DefD := ⟨("NoSeats", some "__init__"), "__init__", "NoSeats.__init__", defArgs s_NoSeats_init, defBody s_NoSeats_init, defScope s_NoSeats_init, [], []⟩
abbrev s_TooMany_init : Stmt := inClass (top 13) 0
abbrev N_TooMany_init : List Str := ["self", "most"]
theorem sc_TooMany_init : FnScope N_TooMany_init ["self", "most"] (defScope s_TooMany_init) := ⟨rfl, rfl, rfl, by decide +kernel, rfl, by decide +kernel, by decide +kernel⟩
def d_TooMany_init : He.DefD := ⟨("TooMany", some "__init__"), "__init__", "TooMany.__init__", defArgs s_TooMany_init, defBody s_TooMany_init, defScope s_TooMany_init, [], []⟩
abbrev s_Taken_init : Stmt := inClass (top 14) 0
abbrev N_Taken_init : List Str := ["self", "name"]
theorem sc_Taken_init : FnScope N_Taken_init ["self", "name"] (defScope s_Taken_init) := ⟨rfl, rfl, rfl, by decide +kernel, rfl, by decide +kernel, by decide +kernel⟩
def d_Taken_init : He.DefD := ⟨("Taken", some "__init__"), "__init__", "Taken.__init__", defArgs s_Taken_init, defBody s_Taken_init, defScope s_Taken_init, [], []⟩
abbrev s_NoRule_init : Stmt := inClass (top 15) 0
abbrev N_NoRule_init : List Str := ["self", "thing"]
theorem sc_NoRule_init : FnScope N_NoRule_init ["self", "thing"] (defScope s_NoRule_init) := ⟨rfl, rfl, rfl, by decide +kernel, rfl, by decide +kernel, by decide +kernel⟩
def d_NoRule_init : He.DefD := ⟨("NoRule", some "__init__"), "__init__", "NoRule.__init__", defArgs s_NoRule_init, defBody s_NoRule_init, defScope s_NoRule_init, [], []⟩
abbrev s_NothingDone_init : Stmt := inClass (top 16) 0
abbrev N_NothingDone_init : List Str := ["self", "text"]
theorem sc_NothingDone_init : FnScope N_NothingDone_init ["self", "text"] (defScope s_NothingDone_init) := ⟨rfl, rfl, rfl, by decide +kernel, rfl, by decide +kernel, by decide +kernel⟩
def d_NothingDone_init : He.DefD := ⟨("NothingDone", some "__init__"), "__init__", "NothingDone.__init__", defArgs s_NothingDone_init, defBody s_NothingDone_init, defScope s_NothingDone_init, [], []⟩
abbrev s_NoRow_init : Stmt := inClass (top 17) 0
abbrev N_NoRow_init : List Str := ["self", "text"]
theorem sc_NoRow_init : FnScope N_NoRow_init ["self", "text"] (defScope s_NoRow_init) := ⟨rfl, rfl, rfl, by decide +kernel, rfl, by decide +kernel, by decide +kernel⟩
def d_NoRow_init : He.DefD := ⟨("NoRow", some "__init__"), "__init__", "NoRow.__init__", defArgs s_NoRow_init, defBody s_NoRow_init, defScope s_NoRow_init, [], []⟩
abbrev s_is_whole : Stmt := top 19
abbrev N_is_whole : List Str := ["thing"]
theorem sc_is_whole : FnScope N_is_whole ["thing"] (defScope s_is_whole) := ⟨rfl, rfl, rfl, by decide +kernel, rfl, by decide +kernel, by decide +kernel⟩
def d_is_whole : He.DefD := ⟨("is_whole", none), "is_whole", "is_whole", defArgs s_is_whole, defBody s_is_whole, defScope s_is_whole, [], []⟩
abbrev s_common_part : Stmt := top 21
abbrev N_common_part : List Str := ["one", "other"]
theorem sc_common_part : FnScope N_common_part ["one", "other"] (defScope s_common_part) := ⟨rfl, rfl, rfl, by decide +kernel, rfl, by decide +kernel, by decide +kernel⟩
def d_common_part : He.DefD := ⟨("common_part", none), "common_part", "common_part", defArgs s_common_part, defBody s_common_part, defScope s_common_part, [], []⟩
abbrev s_Share_init : Stmt := inClass (top 22) 0
abbrev N_Share_init : List Str := ["self", "top", "bottom", "thing", "common"]
theorem sc_Share_init : FnScope N_Share_init ["self", "top", "bottom"] (defScope s_Share_init) := ⟨rfl, rfl, rfl, by decide +kernel, rfl, by decide +kernel, by decide +kernel⟩
def d_Share_init : He.DefD := ⟨("Share", some "__init__"), "__init__", "Share.__init__", defArgs s_Share_init, defBody s_Share_init, defScope s_Share_init, [.int 1], []⟩
abbrev s_Share_eq : Stmt := inClass (top 22) 1
abbrev N_Share_eq : List Str := ["self", "other"]
theorem sc_Share_eq : FnScope N_Share_eq ["self", "other"] (defScope s_Share_eq) := ⟨rfl, rfl, rfl, by decide +kernel, rfl, by decide +kernel, by decide +kernel⟩
def d_Share_eq : He.DefD := ⟨("Share", some "__eq__"), "__eq__", "Share.__eq__", defArgs s_Share_eq, defBody s_Share_eq, defScope s_Share_eq, [], []⟩
abbrev s_Share_str : Stmt := inClass (top 22) 2
abbrev N_Share_str : List Str := ["self"]
theorem sc_Share_str : FnScope N_Share_str ["self"] (defScope s_Share_str) := ⟨rfl, rfl, rfl, by decide +kernel, rfl, by decide +kernel, by decide +kernel⟩
def d_Share_str : He.DefD := ⟨("Share", some "__str__"), "__str__", "Share.__str__", defArgs s_Share_str, defBody s_Share_str, defScope s_Share_str, [], []⟩
abbrev s_Share_repr : Stmt := inClass (top 22) 3
abbrev N_Share_repr : List Str := ["self"]
theorem sc_Share_repr : FnScope N_Share_repr ["self"] (defScope s_Share_repr) := ⟨rfl, rfl, rfl, by decide +kernel, rfl, by decide +kernel, by decide +kernel⟩
def d_Share_repr : He.DefD := ⟨("Share", some "__repr__"), "__repr__", "Share.__repr__", defArgs s_Share_repr, defBody s_Share_repr, defScope s_Share_repr, [], []⟩
abbrev s_Share_plus : Stmt := inClass (top 22) 4
abbrev N_Share_plus : List Str := ["self", "other"]
theorem sc_Share_plus : FnScope N_Share_plus ["self", "other"] (defScope s_Share_plus) := ⟨rfl, rfl, rfl, by decide +kernel, rfl, by decide +kernel, by decide +kernel⟩
def d_Share_plus : He.DefD := ⟨("Share", some "plus"), "plus", "Share.plus", defArgs s_Share_plus, defBody s_Share_plus, defScope s_Share_plus, [], []⟩
abbrev s_Share_less : Stmt := inClass (top 22) 5
abbrev N_Share_less : List Str := ["self", "other"]
theorem sc_Share_less : FnScope N_Share_less ["self", "other"] (defScope s_Share_less) := ⟨rfl, rfl, rfl, by decide +kernel, rfl, by decide +kernel, by decide +kernel⟩
def d_Share_less : He.DefD := ⟨("Share", some "less"), "less", "Share.less", defArgs s_Share_less, defBody s_Share_less, defScope s_Share_less, [], []⟩
abbrev s_Share_times : Stmt := inClass (top 22) 6
abbrev N_Share_times : List Str := ["self", "many"]
theorem sc_Share_times : FnScope N_Share_times ["self", "many"] (defScope s_Share_times) := ⟨rfl, rfl, rfl, by decide +kernel, rfl, by decide +kernel, by decide +kernel⟩
def d_Share_times : He.DefD := ⟨("Share", some "times"), "times", "Share.times", defArgs s_Share_times, defBody s_Share_times, defScope s_Share_times, [], []⟩
abbrev s_Share_over : Stmt := inClass (top 22) 7
abbrev N_Share_over : List Str := ["self", "many"]
theorem sc_Share_over : FnScope N_Share_over ["self", "many"] (defScope s_Share_over) := ⟨rfl, rfl, rfl, by decide +kernel, rfl, by decide +kernel, by decide +kernel⟩
def d_Share_over : He.DefD := ⟨("Share", some "over"), "over", "Share.over", defArgs s_Share_over, defBody s_Share_over, defScope s_Share_over, [], []⟩
abbrev s_Share_below : Stmt := inClass (top 22) 8
abbrev N_Share_below : List Str := ["self", "other"]
theorem sc_Share_below : FnScope N_Share_below ["self", "other"] (defScope s_Share_below) := ⟨rfl, rfl, rfl, by decide +kernel, rfl, by decide +kernel, by decide +kernel⟩
def d_Share_below : He.DefD := ⟨("Share", some "below"), "below", "Share.below", defArgs s_Share_below, defBody s_Share_below, defScope s_Share_below, [], []⟩
abbrev s_Share_whole : Stmt := inClass (top 22) 9
abbrev N_Share_whole : List Str := ["self"]
theorem sc_Share_whole : FnScope N_Share_whole ["self"] (defScope s_Share_whole) := ⟨rfl, rfl, rfl, by decide +kernel, rfl, by decide +kernel, by decide +kernel⟩
def d_Share_whole : He.DefD := ⟨("Share", some "whole"), "whole", "Share.whole", defArgs s_Share_whole, defBody s_Share_whole, defScope s_Share_whole, [], []⟩
abbrev s_in_order : Stmt := top 23
abbrev N_in_order : List Str := ["names", "shares", "nought", "ordered", "name", "share", "at"]
theorem sc_in_order : FnScope N_in_order ["names", "shares"] (defScope s_in_order) := ⟨rfl, rfl, rfl, by decide +kernel, rfl, by decide +kernel, by decide +kernel⟩
def d_in_order : He.DefD := ⟨("in_order", none), "in_order", "in_order", defArgs s_in_order, defBody s_in_order, defScope s_in_order, [], []⟩
abbrev s_seats_of : Stmt := top 25
abbrev N_seats_of : List Str := ["names", "seats", "name"]
theorem sc_seats_of : FnScope N_seats_of ["names", "seats"] (defScope s_seats_of) := ⟨rfl, rfl, rfl, by decide +kernel, rfl, by decide +kernel, by decide +kernel⟩
def d_seats_of : He.DefD := ⟨("seats_of", none), "seats_of", "seats_of", defArgs s_seats_of, defBody s_seats_of, defScope s_seats_of, [], []⟩
abbrev s_lacking : Stmt := top 26
abbrev N_lacking : List Str := ["riders", "seats"]
theorem sc_lacking : FnScope N_lacking ["riders", "seats"] (defScope s_lacking) := ⟨rfl, rfl, rfl, by decide +kernel, rfl, by decide +kernel, by decide +kernel⟩
def d_lacking : He.DefD := ⟨("lacking", none), "lacking", "lacking", defArgs s_lacking, defBody s_lacking, defScope s_lacking, [], []⟩
abbrev s_fewest : Stmt := top 27
abbrev N_fewest : List Str := ["riders", "seats", "lack", "drivers", "left", "many"]
theorem sc_fewest : FnScope N_fewest ["riders", "seats"] (defScope s_fewest) := ⟨rfl, rfl, rfl, by decide +kernel, rfl, by decide +kernel, by decide +kernel⟩
def d_fewest : He.DefD := ⟨("fewest", none), "fewest", "fewest", defArgs s_fewest, defBody s_fewest, defScope s_fewest, [], []⟩
abbrev s_best_sum : Stmt := top 28
abbrev N_best_sum : List Str := ["numbers", "many"]
theorem sc_best_sum : FnScope N_best_sum ["numbers", "many"] (defScope s_best_sum) := ⟨rfl, rfl, rfl, by decide +kernel, rfl, by decide +kernel, by decide +kernel⟩
def d_best_sum : He.DefD := ⟨("best_sum", none), "best_sum", "best_sum", defArgs s_best_sum, defBody s_best_sum, defScope s_best_sum, [], []⟩
abbrev s_choose : Stmt := top 29
abbrev N_choose : List Str := ["riders", "seats", "standing", "more", "left", "ordered", "room", "drivers", "at", "name"]
theorem sc_choose : FnScope N_choose ["riders", "seats", "standing"] (defScope s_choose) := ⟨rfl, rfl, rfl, by decide +kernel, rfl, by decide +kernel, by decide +kernel⟩
def d_choose : He.DefD := ⟨("choose", none), "choose", "choose", defArgs s_choose, defBody s_choose, defScope s_choose, [.non], []⟩
abbrev s_l_pen : Stmt := top 31
abbrev N_l_pen : List Str := ["_law_script"]
theorem sc_l_pen : FnScope N_l_pen ["_law_script"] (defScope s_l_pen) := ⟨rfl, rfl, rfl, by decide +kernel, rfl, by decide +kernel, by decide +kernel⟩
def d_l_pen : He.DefD := ⟨("_law_pen", none), "_law_pen", "_law_pen", defArgs s_l_pen, defBody s_l_pen, defScope s_l_pen, [], []⟩
abbrev s_l_draw : Stmt := top 32
abbrev N_l_draw : List Str := ["_law_pen_here", "_law_many", "_law_found", "_law_at", "_law_cell", "_law_number"]
theorem sc_l_draw : FnScope N_l_draw ["_law_pen_here", "_law_many"] (defScope s_l_draw) := ⟨rfl, rfl, rfl, by decide +kernel, rfl, by decide +kernel, by decide +kernel⟩
def d_l_draw : He.DefD := ⟨("_law_draw", none), "_law_draw", "_law_draw", defArgs s_l_draw, defBody s_l_draw, defScope s_l_draw, [], []⟩
abbrev s_l_names : Stmt := top 33
abbrev N_l_names : List Str := ["_law_pen_here", "_law_many", "_law_letters", "_law_words", "_law_size", "_law_k", "_law_base", "_law_at", "_law_spot", "_law_way", "_law_found", "_law_word_here"]
theorem sc_l_names : FnScope N_l_names ["_law_pen_here", "_law_many"] (defScope s_l_names) := ⟨rfl, rfl, rfl, by decide +kernel, rfl, by decide +kernel, by decide +kernel⟩
def d_l_names : He.DefD := ⟨("_law_names", none), "_law_names", "_law_names", defArgs s_l_names, defBody s_l_names, defScope s_l_names, [], []⟩
abbrev s_l_word : Stmt := top 34
abbrev N_l_word : List Str := ["_law_e", "_law_flags", "_law_above", "_law_words", "_law_must", "_law_said", "_law_seen", "_law_k"]
theorem sc_l_word : FnScope N_l_word ["_law_e"] (defScope s_l_word) := ⟨rfl, rfl, rfl, by decide +kernel, rfl, by decide +kernel, by decide +kernel⟩
def d_l_word : He.DefD := ⟨("_law_word", none), "_law_word", "_law_word", defArgs s_l_word, defBody s_l_word, defScope s_l_word, [], []⟩
abbrev s_l_field : Stmt := top 35
abbrev N_l_field : List Str := ["_law_e"]
theorem sc_l_field : FnScope N_l_field ["_law_e"] (defScope s_l_field) := ⟨rfl, rfl, rfl, by decide +kernel, rfl, by decide +kernel, by decide +kernel⟩
def d_l_field : He.DefD := ⟨("_law_field", none), "_law_field", "_law_field", defArgs s_l_field, defBody s_l_field, defScope s_l_field, [], []⟩
abbrev s_l_got : Stmt := top 36
abbrev N_l_got : List Str := ["_law_deed", "_law_caught", "_law_found", "_law_e"]
theorem sc_l_got : FnScope N_l_got ["_law_deed"] (defScope s_l_got) := ⟨rfl, rfl, rfl, by decide +kernel, rfl, by decide +kernel, by decide +kernel⟩
def d_l_got : He.DefD := ⟨("_law_got", none), "_law_got", "_law_got", defArgs s_l_got, defBody s_l_got, defScope s_l_got, [], []⟩
abbrev s_l_drawn : Stmt := top 37
abbrev N_l_drawn : List Str := ["_law_pen_here", "_law_known", "_law_many", "_law_folk", "_law_rooms", "_law_most", "_law_called", "_law_lot"]
theorem sc_l_drawn : FnScope N_l_drawn ["_law_pen_here"] (defScope s_l_drawn) := ⟨rfl, rfl, rfl, by decide +kernel, rfl, by decide +kernel, by decide +kernel⟩
def d_l_drawn : He.DefD := ⟨("_law_drawn", none), "_law_drawn", "_law_drawn", defArgs s_l_drawn, defBody s_l_drawn, defScope s_l_drawn, [], []⟩
abbrev s_l_best : Stmt := top 38
abbrev N_l_best : List Str := ["_law_folk", "_law_rooms", "_law_found", "_law_called", "_law_k"]
theorem sc_l_best : FnScope N_l_best ["_law_folk", "_law_rooms"] (defScope s_l_best) := ⟨rfl, rfl, rfl, by decide +kernel, rfl, by decide +kernel, by decide +kernel⟩
def d_l_best : He.DefD := ⟨("_law_best", none), "_law_best", "_law_best", defArgs s_l_best, defBody s_l_best, defScope s_l_best, [], []⟩
abbrev s_l_fewest : Stmt := top 39
abbrev N_l_fewest : List Str := ["_law_folk", "_law_rooms", "_law_some", "_law_k", "_law_most"]
theorem sc_l_fewest : FnScope N_l_fewest ["_law_folk", "_law_rooms"] (defScope s_l_fewest) := ⟨rfl, rfl, rfl, by decide +kernel, rfl, by decide +kernel, by decide +kernel⟩
def d_l_fewest : He.DefD := ⟨("_law_fewest", none), "_law_fewest", "_law_fewest", defArgs s_l_fewest, defBody s_l_fewest, defScope s_l_fewest, [], []⟩
abbrev s_l_sets : Stmt := top 40
abbrev N_l_sets : List Str := ["_law_many", "_law_size", "_law_found", "_law_turn", "_law_longer", "_law_some", "_law_begin", "_law_k"]
theorem sc_l_sets : FnScope N_l_sets ["_law_many", "_law_size"] (defScope s_l_sets) := ⟨rfl, rfl, rfl, by decide +kernel, rfl, by decide +kernel, by decide +kernel⟩
def d_l_sets : He.DefD := ⟨("_law_sets", none), "_law_sets", "_law_sets", defArgs s_l_sets, defBody s_l_sets, defScope s_l_sets, [], []⟩
abbrev s_l_worths : Stmt := top 41
abbrev N_l_worths : List Str := ["_law_pen_here", "_law_known", "_law_found", "_law_called", "_law_lot"]
theorem sc_l_worths : FnScope N_l_worths ["_law_pen_here", "_law_known"] (defScope s_l_worths) := ⟨rfl, rfl, rfl, by decide +kernel, rfl, by decide +kernel, by decide +kernel⟩
def d_l_worths : He.DefD := ⟨("_law_worths", none), "_law_worths", "_law_worths", defArgs s_l_worths, defBody s_l_worths, defScope s_l_worths, [], []⟩
abbrev s_l_order : Stmt := top 42
abbrev N_l_order : List Str := ["_law_folk", "_law_worths_here", "_law_found", "_law_called", "_law_top", "_law_bottom", "_law_at", "_law_one"]
theorem sc_l_order : FnScope N_l_order ["_law_folk", "_law_worths_here"] (defScope s_l_order) := ⟨rfl, rfl, rfl, by decide +kernel, rfl, by decide +kernel, by decide +kernel⟩
def d_l_order : He.DefD := ⟨("_law_order", none), "_law_order", "_law_order", defArgs s_l_order, defBody s_l_order, defScope s_l_order, [], []⟩
abbrev s_l_due : Stmt := top 43
abbrev N_l_due : List Str := ["_law_folk", "_law_rooms", "_law_worths_here", "_law_many", "_law_row", "_law_some", "_law_k", "_law_called"]
theorem sc_l_due : FnScope N_l_due ["_law_folk", "_law_rooms", "_law_worths_here"] (defScope s_l_due) := ⟨rfl, rfl, rfl, by decide +kernel, rfl, by decide +kernel, by decide +kernel⟩
def d_l_due : He.DefD := ⟨("_law_due", none), "_law_due", "_law_due", defArgs s_l_due, defBody s_l_due, defScope s_l_due, [], []⟩
abbrev s_l_right : Stmt := top 44
abbrev N_l_right : List Str := ["_law_folk", "_law_rooms", "_law_worths_here", "_law_due_here", "_law_kept", "_law_first", "_law_handed", "_law_called"]
theorem sc_l_right : FnScope N_l_right ["_law_folk", "_law_rooms", "_law_worths_here"] (defScope s_l_right) := ⟨rfl, rfl, rfl, by decide +kernel, rfl, by decide +kernel, by decide +kernel⟩
def d_l_right : He.DefD := ⟨("_law_right", none), "_law_right", "_law_right", defArgs s_l_right, defBody s_l_right, defScope s_l_right, [], []⟩
abbrev s_law : Stmt := top 45
abbrev N_law : List Str := ["_law_script", "_law_pen_here", "_law_turn", "_law_worths_here", "_law_due_here", "_law_called", "_law_other", "_law_folk", "_law_rooms", "_law_standing_told"]
theorem sc_law : FnScope N_law ["_law_script"] (defScope s_law) := ⟨rfl, rfl, rfl, by decide +kernel, rfl, by decide +kernel, by decide +kernel⟩
def d_law : He.DefD := ⟨("law", none), "law", "law", defArgs s_law, defBody s_law, defScope s_law, [], []⟩
def fn : List He.DefD := [d__wall, d_NoKind_init, d_Nought_init, d_NoShare_init, d_Uneven_init, d_BadName_init, d_NoNumber_init, d_NoRide_init, d_NoText_init, d_NoName_init, d_NoDay_init, d_NoSeats_init, d_TooMany_init, d_Taken_init, d_NoRule_init, d_NothingDone_init, d_NoRow_init, d_is_whole, d_common_part, d_Share_init, d_Share_eq, d_Share_str, d_Share_repr, d_Share_plus, d_Share_less, d_Share_times, d_Share_over, d_Share_below, d_Share_whole, d_in_order, d_seats_of, d_lacking, d_fewest, d_best_sum, d_choose, d_l_pen, d_l_draw, d_l_names, d_l_word, d_l_field, d_l_got, d_l_drawn, d_l_best, d_l_fewest, d_l_sets, d_l_worths, d_l_order, d_l_due, d_l_right, d_law]
end K16
set_option Elab.async false
set_option linter.all false
set_option maxRecDepth 100000
set_option maxHeartbeats 4000000
/-! GX: own exceptions over any built-in base, whose own __init__ calls the base's and stores a field. -/
namespace GX
open PySem PySem.Spec PyProof.Rows L2

/-- what the written part tells of the class -/
structure Gx (K : PySem.W.Frag) (C : Addr) (bmB : List Value) (nid : String) : Prop where
  over : PySem.W.excOver K C bmB = true
  made : PySem.W.excInitIn K C bmB nid = true
  hasd : ∃ cd, PySem.W.clsIn K C = some cd ∧ cd.hasDict = true
  sets : PySem.W.findIn K (.ref C) "__setattr__" = some (some (.builtin "object.__setattr__"))
  base : PySem.W.subIn K (.ref C) (.type "BaseException") = some true
  typ : PySem.W.typeIn K (.ref C) = some (.type "type")
  keep : PySem.W.keepIn K (.ref C) = true

section
open Builtin Builtin.ObjectAttr
variable {prog : Program} {w : World} {A : Around} {R : Result → Shared → Prop} {hp : Heap} {g : Array GenState} {d : Drawn} {t : Nat} {os : OsState} {B : String} {bmB : List Value}
theorem first_store {K : PySem.W.Frag} {name : Str} {tk : Tok} {v : Value} {x C : Addr} {fv : Array Value} {cd : ClassData} (SF : StoreFacts B bmB "object.__setattr__" "object")
    (X : K.In hp) (hx : hp.get? x = some { cls := .ref C, data := .fields fv }) (ho : PySem.W.excOver K C bmB = true) (hc : PySem.W.clsIn K C = some cd) (hd : cd.hasDict = true)
    (hf : PySem.W.findIn K (.ref C) name = some none)
    (post : ∀ h' tk' dx, (∀ b o, b ≠ x → hp.get? b = some o → h'.get? b = some o) → hp.objs.size ≤ dx → dx ≠ x →
      h'.get? x = some { cls := .ref C, dict := some dx, data := .fields fv } → h'.Ns1 dx (fun y => if y = name then some v else none) → R (.ok (.ret .none)) ⟨h', g, d, tk', os⟩) :
    codeAny (model prog w) A (.call (.builtin "object.__setattr__") ⟨[.ref x, .str name tk, v], []⟩) R ⟨hp, g, d, t, os⟩ := by
  have inst : PySem.W.InstAt hp x { cls := .ref C, data := .fields fv } C none := ⟨hx, rfl, rfl, trivial⟩
  have far : x ≠ hp.objs.size := Nat.ne_of_lt (Heap.lt_size hx)
  have lc : PySem.W.Looks (model prog w) hp (classData C) cd := PySem.W.looks_clsIn X hc
  refine PySem.W.osa_openX (r := none) SF X inst ho (by unfold PySem.W.takerIn; rw [hf]; rfl) fun b => ?_
  dsimp only
  obtain ⟨n1, n2, n3, n4, n5, n6, n7, n8, n9, n10, n11⟩ := cd
  dsimp only at hd
  subst hd
  unfold storeInOwnDict ownDictForStores
  repeat (first | with_reducible refine PySem.HandSPX.store_in_new ?_ ?_ | with_reducible refine wpAny_loadPart_at hx ?_ | with_reducible refine lc.at ?_ | wp_step)
  · exact ⟨_, #[], _, (Heap.get?_update_ne _ _ _ _ far.symm).trans (Heap.get?_push_at rfl rfl), rfl, fun e he => absurd he (by simp), fun _ => rfl⟩
  · intro h' tk' hn hs
    have hx1 : (hp.push { cls := .type "dict", data := .dict #[] }).get? x = some { cls := .ref C, data := .fields fv } := Heap.get?_push_of_some _ hx
    refine post h' tk' hp.objs.size (fun b o hb hob => ?_) (Nat.le_refl _) far.symm ?_ hn
    · have e1 := hs.2 b (Nat.ne_of_lt (Heap.lt_size hob))
      rw [e1, Heap.get?_update_ne _ _ _ _ hb]
      exact Heap.get?_push_of_some _ hob
    · rw [hs.2 x far]
      exact Heap.get?_update_self _ hx1 rfl
end

section
variable {X : Cx} {pins : List (Addr × Obj)} {σ : L2.St} {H : Hp} {s : Shared} {a C dx : Addr} {f : Str} {y : V} {u : Value} {Q : Unit → Shared → Prop} {E : Value → Shared → Prop} {A : Around} {B : String} {bmB : List Value} {nid iid : String}
/-- self.f = y, the first store -/
theorem put_first (SF : StoreFacts B bmB "object.__setattr__" "object") (T : Gx X.K C bmB nid) (I : Inv X pins σ H s) (e : H a = some (exo a C none)) (hno : PySem.W.findIn X.K (.ref C) f = some none) (ry : RelV y u)
    (post : ∀ dx s', H dx = none → dx ≠ a → Inv X pins σ (upd (upd H dx (exd dx [(f, y)])) a (exo a C (some dx))) s' → Q () s') : wpAny (model X.prog X.w) A (setAttr (.ref a) f u) Q E s := by
  obtain ⟨cd, hcd, hdd⟩ := T.hasd
  obtain ⟨t1, at1⟩ := exo_at I.hok e
  obtain ⟨hp, g, d, t, os⟩ := s
  refine PySem.W.set_plain I.kIn (ox := { cls := .ref C, dict := none, data := .fields #[.ref t1, .none, .none, .none, .bool false, .none] }) (od := none) ⟨at1, rfl, rfl, trivial⟩ T.sets ?_
  refine first_store SF I.kIn at1 T.over hcd hdd hno (fun h' tk' dx kp dn dne hx hn => ?_)
  have fresh : H dx = none := I.hok.fresh dn
  have old : ∀ {b : Addr} {o : Obj}, hp.get? b = some o → b ≠ dx := fun {b o} q => Nat.ne_of_lt (Nat.lt_of_lt_of_le (Heap.lt_size q) dn)
  have other : ∀ {b : Addr}, H b = none → b ≠ a := fun {b} n z => by
    rw [z, e] at n
    cases n
  have un : Un X.fs [] H (upd (upd H dx (exd dx [(f, y)])) a (exo a C (some dx))) hp h' := {
    keep := fun b o q n _ _ => kp b o (other n) q
    slot := fun b o q n _ _ => ⟨o.slots, kp b o (other n) q⟩
    free := fun b o q n _ => by rw [upd_ne (other n), upd_ne (old q)]; exact n
    there := fun b o q _ => by
      by_cases hb : b = a
      · exact ⟨_, hb ▸ hx⟩
      · exact ⟨o, kp b o hb q⟩
    tups := fun b xs q => by rw [upd_ne (at_ne e q exo_tup), upd_ne (ne_of_none q fresh)]; exact q
    frzs := fun b o v q => by rw [upd_ne (at_ne e q exo_frz), upd_ne (ne_of_none q fresh)]; exact q
    tbls := fun b ps q => ⟨#[], by rw [upd_ne (at_ne e q exo_tbl), upd_ne (ne_of_none q fresh), q]; simp⟩ }
  refine post dx _ fresh dne (I.un (t' := tk') un fun b o q => ?_)
  by_cases hb : b = a
  · subst hb
    rw [upd_same] at q
    cases q
    exact exo_ok hx
  · rw [upd_ne hb] at q
    by_cases hd : b = dx
    · subst hd
      rw [upd_same] at q
      cases q
      exact exd_ok hn (relO_put (fs := []) ry fun g => True.intro)
    · rw [upd_ne hd] at q
      refine (I.hok b o q).stay (fun c v hc z => kp c v ?_ z) (fun c hc => ?_) (fun c xs hc => ?_)
      · rcases hc with hc | hc
        · exact hc ▸ hb
        · exact at_ne e hc exo_own
      · rw [upd_ne (at_ne e hc exo_own), upd_ne (ne_of_none hc fresh)]; exact hc
      · rw [upd_ne (at_ne e hc exo_tup), upd_ne (ne_of_none hc fresh)]; exact hc
/-- Base.__init__(self, ..) -/
theorem base_init {us : List Value} {Q : Value → Shared → Prop} (FB : ExcBaseFacts B nid iid bmB) (T : Gx X.K C bmB nid) (I : Inv X pins σ H s) (e : H a = some (exo a C none)) (hl : us.length ≤ sizeLine) (post : ∀ s', Inv X pins σ H s' → Q .none s') :
    wpAny (model X.prog X.w) A (call (.builtin iid) (.ref a :: us)) Q E s := by
  obtain ⟨nm, N, qn, bs, bm, hdct, sn, sub, ab, col, dd, k0, k1, k2, k3, k5, hC, hT⟩ := PySem.W.excInit_of I.kIn T.made
  obtain ⟨t1, at1⟩ := exo_at I.hok e
  obtain ⟨hp, g, d, t, os⟩ := s
  refine wpAny_call (PySem.HandSPX.init_base FB hT hC at1 hl fun h' t2 kp hx => ?_)
  have J := I.write (t' := t) (x := a) (e := a) (o := exo a C none) (by rw [e]; exact True.intro) (.inl rfl) kp ⟨_, hx⟩ (exo_ok hx)
  have same : upd H a (exo a C none) = H := funext fun b => by
    by_cases hb : b = a
    · rw [hb, upd_same, e]
    · rw [upd_ne hb]
  rw [same] at J
  exact post _ J
end

/-! ### readings and rules -/
/-- Base.__init__(self, ..) -/
def tBi (K : PySem.W.Frag) (bmB : List Value) (nid : String) (ta : TA) : TE := fun σ H Q => ta σ H fun vs H1 => ∃ (a C : Addr) (ws : List V), vs = .ref a :: ws ∧ ws.length ≤ 1000 ∧ Gx K C bmB nid ∧ H1 a = some (exo a C none) ∧ Q .non H1
/-- self.f = e, the first one -/
def tPf (K : PySem.W.Frag) (bmB : List Value) (nid : String) (f : Str) (to te : TE) : TS := fun D σ H => te σ H fun y H1 => to σ H1 fun x H2 => ∃ a C : Addr, x = .ref a ∧ Gx K C bmB nid ∧ PySem.W.findIn K (.ref C) f = some none ∧
  H2 a = some (exo a C none) ∧ ∀ dx, H2 dx = none → dx ≠ a → D.nx σ (upd (upd H2 dx (exd dx [(f, y)])) a (exo a C (some dx)))
section
variable {X : Cx} {o e : Expr} {es : List Expr} {to te : TE} {ta : TA} {f : Str} {p p' p1 p2 pos : Pos} {B nid iid : String} {bmB : List Value} {x : Str}
theorem pe_bi {pl : Sem Bool} (FB : ExcBaseFacts B nid iid bmB) (hg : Gl X x) (hm : X.mg x = none) (hv : bootBuiltins x = some (.type B)) (ty : typeOf (.type B) = pure (.type "type"))
    (vV : PySem.W.findCls X.K (.type B) (.type "type") "__init__" = some (.val (.builtin iid))) (hb : PySem.W.handedIn (.builtin iid) = true) (hst : Manifest.isStub B = false) (ha : PA X (e :: es) ta)
    (hc : eval (.Call (.Attribute (.Name x p1) "__init__" p2) (e :: es) [] pos) X.env = (do
      let ov ← eval (.Name x p1) X.env
      standAt p2.atName
      let (f, first) ← holding [ov] (getMethod ov "__init__" pl)
      callWith pos f first (backTo pos (starEach (e :: es) X.env)) (backToKw pos (keywordEach [] X.env))) := by rfl)
    (hn : x ≠ "__name__" := by decide) (hd : (x == ("__debug__" : Str)) = false := by decide)
    (he : starEach (e :: es) X.env = (false, eval e X.env) :: starEach es X.env := by rfl) (hpl : (backTo pos (starEach es X.env)).any (·.1) = false := by rfl) :
    PE X (.Call (.Attribute (.Name x p1) "__init__" p2) (e :: es) [] pos) (tBi X.K bmB nid ta) := by
  refine ⟨fun pins s σ H Q I h => ?_⟩
  refine PySem.W.methodCall_KW (ld_blt I hg hm hv ?_ hn hd) hc
  obtain ⟨m, fr⟩ := I.fr
  refine PySem.W.method_type fr I.ok.mod.kin ty hst vV hb ?_
  show wpAny _ _ (callWith pos (Value.builtin iid) [] (backTo pos (starEach (e :: es) X.env)) []) _ _ _
  refine PyProof.Rows.callWith_method1 (thn (ha.run pos pins _ σ H _ (I.tok _) h) fun us s1 hh => ?_) he hpl
  obtain ⟨vs, H1, I1, r1, a, C, ws, ev, hl, T, ea, q⟩ := hh
  subst ev
  cases r1 with
  | @cons _ u0 _ ur ra rw' =>
    obtain rfl : u0 = Value.ref a := ra
    have hlen : ur.length ≤ sizeLine := by
      have := Paired.length rw'
      rw [sizeLine_eq]
      omega
    exact base_init FB T I1 ea hlen fun s' J => ⟨.non, H1, J, rfl, q⟩
theorem ps_pf (SF : StoreFacts B bmB "object.__setattr__" "object") (ho : PE X o to) (he : PE X e te) (hs : swapsWith e (some (.Attribute o f p')) pos.line X.env = pure false := by rfl) : PS X (.Assign [.Attribute o f p'] e pos) (tPf X.K bmB nid f to te) := by
  refine ⟨fun pins s σ H D I h => ?_⟩
  refine plainObj_wpAny_Assign_Attribute (thn (he.run pins s σ H _ I h) fun v s1 h1 => ?_) hs
  obtain ⟨y, H1, I1, r1, q1⟩ := h1
  refine thn (ho.run pins s1 σ H1 _ I1 q1) fun u s2 h2 => ?_
  obtain ⟨z, H2, I2, r2, a, C, ex, T, hno, ea, q⟩ := h2
  subst ex
  obtain rfl : u = Value.ref a := r2
  exact put_first SF T I2 ea hno r1 fun dx s' n ne J => ⟨σ, _, J, q dx n ne⟩
/-- C(e, ..) as what is raised, C's own __init__ keeping sp -/
theorem pmk_gx {CX : CXT} {C fI : Addr} {k : Nat} {fd : FuncData} {ps : List Str} {sp : Sp} {ds : List Value} {dvs : List V} (FB : ExcBaseFacts B nid iid bmB) (T : Gx X.K C bmB nid) (iC : PySem.W.findIn X.K (.ref C) "__init__" = some (some (.ref fI)))
    (tI : PySem.W.typeIn X.K (.ref fI) = some (.type "function"))
    (F1 : FnOk X.prog X.w X.K X.mg X.base CX k fI fd ps sp) (hr : Room (k + 1) X.A) (hb : Binds X.K fd ps ds) (hd : Vals dvs ds) (hx : Passes CX X (fun _ _ _ => False)) (hg : Gl X x) (hm : X.mg x = some (.ref C)) (ha : PA X (e :: es) ta)
    (hdb : (x == ("__debug__" : Str)) = false := by decide) (he : starEach (e :: es) X.env = (false, eval e X.env) :: starEach es X.env := by rfl) (hpl : (backTo pos (starEach es X.env)).any (·.1) = false := by rfl) :
    PMk X (.Call (.Name x p) (e :: es) [] pos) (tMkO C sp dvs ta) := by
  intro pins s σ H Q I h
  refine wpAny_Call_Name_kw (ld_glob I hg hm ?_ hdb)
  refine PySem.W.callWith_K (h₀ := X.base) I.ok.mod.kin T.keep (thn (ha.run pos pins s σ H _ I h) fun us s1 hh => ?_) he hpl
  obtain ⟨vs, H1, I1, r1, hz, q1⟩ := hh
  refine ⟨I1.kIn, ?_⟩
  show wpAny _ _ (call (.ref C) us) _ _ _
  obtain ⟨nm, N, qn, bs, bm, hdct, sn, sub, ab, col, dd, k0, k1, k2, k3, k5, hC, hT⟩ := PySem.W.excInit_of I1.kIn T.made
  obtain ⟨hp, g, dr, tk, os⟩ := s1
  have big : hp.objs.size ≤ hp.objs.size + 1 := Nat.le_succ _
  have hq := q1 (hp.objs.size + 1) (I1.hok.fresh big)
  have kk : ∀ b o, hp.get? b = some o → ((hp.push (PySem.W.kdv_tup us)).push (PySem.HandSPX.excO C hp.objs.size)).get? b = some o := fun b o z =>
    Heap.get?_push_of_some _ (Heap.get?_push_of_some _ z)
  have there : ((hp.push (PySem.W.kdv_tup us)).push (PySem.HandSPX.excO C hp.objs.size)).get? (hp.objs.size + 1) = some (PySem.HandSPX.excO C hp.objs.size) := by heap_get
  have I2 := I1.laid (t' := tk) (a := hp.objs.size + 1) (o := exo (hp.objs.size + 1) C none) (h' := (hp.push (PySem.W.kdv_tup us)).push (PySem.HandSPX.excO C hp.objs.size)) kk big (exo_ok there)
  have r2 : Vals (V.ref (hp.objs.size + 1) :: (vs ++ dvs)) (Value.ref (hp.objs.size + 1) :: (us ++ ds)) := .cons rfl (r1.append hd)
  have hl : (Value.ref (hp.objs.size + 1) :: us ++ ds).length = ps.length := by
    have e1 := r2.length
    rw [F1.len _ _ _ _ hq] at e1
    exact e1.symm
  have few : us.length ≤ sizeLine := by
    have := Paired.length r1
    rw [sizeLine_eq]
    omega
  refine wpAny_call (PySem.HandSPX.call_own FB hT hC (PySem.W.looks_findIn I1.kIn iC) (fun self => PySem.W.bind_fn I1.kIn self tI) few (codeAny_mono
    (F1.run _ X.stack _ _ ⟨Value.ref (hp.objs.size + 1) :: us, []⟩ (Value.ref (hp.objs.size + 1) :: (us ++ ds)) _ _ (fun _ _ _ => False) (hr.make C us []) (I2.env0.make C us []) (hb _ (Value.ref (hp.objs.size + 1) :: us) I2.kIn hl) r2 hq) fun r s' hq' => ?_))
  cases r with
  | error er => exact hx pins σ _ _ er s' I2 hq'
  | ok fl =>
    cases fl with
    | ret u =>
      obtain ⟨v, H2, os2, bare2, un2, hok2, rv, ev, d, fs, ea, ed, hd1, q2⟩ := hq'
      subst ev
      obtain ⟨h2, g2, d2, t2, os'⟩ := s'
      exact ⟨rv, mk_end (raises_own T.base T.typ) I1 big kk un2 hok2 os2 bare2 ea ed hd1 q2⟩
    | next => exact False.elim hq'
    | brk => exact False.elim hq'
    | cont => exact False.elim hq'
end
/-! ### the head's look at such a class -/
def hasDB (K : PySem.W.Frag) (C : Addr) : Bool := match PySem.W.clsIn K C with
  | some cd => cd.hasDict
  | none => false
/-- Base.__init__, read off the class Base -/
def vvB (K : PySem.W.Frag) (B iid : String) : Bool := match PySem.W.findCls K (.type B) (.type "type") "__init__" with
  | some (.val (.builtin n)) => n == iid
  | _ => false
theorem vvB_ok {K : PySem.W.Frag} {B iid : String} (h : vvB K B iid = true) : PySem.W.findCls K (.type B) (.type "type") "__init__" = some (.val (.builtin iid)) := by
  unfold vvB at h
  split at h
  · rename_i n e
    rw [e, eq_of_beq h]
  · cases h
/-- what isinstance asks of an own class -/
def isB (K : PySem.W.Frag) (C : Addr) : Bool := He.eqO (PySem.W.findIn K (.ref C) "__class__") (some (some (.builtin "object.__class__"))) && (He.eqO (PySem.W.specialIn K (.builtin "object.__class__") "__get__") (some (some (.builtin "getset_descriptor.__get__"))) &&
  (decide (PySem.W.takesIn K (.builtin "object.__class__") = some true) && decide (PySem.W.mroIn K C (.type "object") = some true)))
def gxB (K : PySem.W.Frag) (C : Addr) (bmB : List Value) (nid : String) : Bool := PySem.W.excOver K C bmB && (PySem.W.excInitIn K C bmB nid && (hasDB K C &&
  (He.eqO (PySem.W.findIn K (.ref C) "__setattr__") (some (some (.builtin "object.__setattr__"))) && (decide (PySem.W.subIn K (.ref C) (.type "BaseException") = some true) &&
  (decide (PySem.W.typeIn K (.ref C) = some (.type "type")) && PySem.W.keepIn K (.ref C))))))
theorem gxB_ok {K : PySem.W.Frag} {C : Addr} {bmB : List Value} {nid : String} (h : gxB K C bmB nid = true) : Gx K C bmB nid := by
  unfold gxB at h
  simp only [Bool.and_eq_true, decide_eq_true_eq] at h
  obtain ⟨h1, h2, h3, h4, h5, h6, h7⟩ := h
  refine ⟨h1, h2, ?_, He.eqO_ok h4, h5, h6, h7⟩
  unfold hasDB at h3
  split at h3
  · rename_i cd e
    exact ⟨cd, e, h3⟩
  · cases h3
end GX
set_option Elab.async false
set_option linter.all false
set_option maxRecDepth 100000
set_option maxHeartbeats 0
namespace K16
open PySem PySem.Spec PyProof.Rows L2
def fa : List He.Fa := [.glo "is_whole", .glo "common_part", .glo "in_order", .glo "seats_of", .glo "lacking", .glo "fewest", .glo "best_sum", .glo "choose", .glo "_law_pen", .glo "_law_draw", .glo "_law_names", .glo "_law_word", .glo "_law_field", .glo "_law_got", .glo "_law_drawn", .glo "_law_best", .glo "_law_fewest", .glo "_law_sets", .glo "_law_worths", .glo "_law_order", .glo "_law_due", .glo "_law_right", .glo "law", .free "isinstance", .free "int", .free "bool", .free "abs", .free "str", .free "list", .free "range", .free "len", .free "all", .free "any", .free "max", .free "min", .free "repr", .free "sum", .free "sorted", .free "tuple", .free "dict", .free "enumerate", .free "reversed", .free "ValueError", .free "KeyError", .free "IndexError", .free "LookupError", .free "ArithmeticError", .free "RuntimeError", .free "TypeError", .glo "Share", .cls "Share", .mkr "Share", .glo "NoKind", .glo "Nought", .glo "NoShare", .glo "Uneven", .glo "BadName", .glo "NoNumber", .glo "NoRide", .glo "NoText", .glo "NoName", .glo "NoDay", .glo "NoSeats", .glo "TooMany", .glo "Taken", .glo "NoRule", .glo "NothingDone", .glo "NoRow", .noat "Share" "top", .noat "Share" "bottom", .noat "NoSeats" "lack", .meth "Share" "below", .meth "NoSeats" "__init__"]
abbrev R : PySem.W.OpenRow := PySem.W.OpenLaw.row PySem.Challenge.rw_rideturns_k16_who_drives
abbrev loose : List Str := [("_wall" : Str), ("NoKind" : Str), ("Nought" : Str), ("NoShare" : Str), ("Uneven" : Str), ("BadName" : Str), ("NoNumber" : Str), ("NoRide" : Str), ("NoText" : Str), ("NoName" : Str), ("NoDay" : Str), ("NoSeats" : Str), ("TooMany" : Str), ("Taken" : Str), ("NoRule" : Str), ("NothingDone" : Str), ("NoRow" : Str), ("is_whole" : Str), ("common_part" : Str), ("Share" : Str), ("in_order" : Str), ("seats_of" : Str), ("lacking" : Str), ("fewest" : Str), ("best_sum" : Str), ("choose" : Str), ("_law_pen" : Str), ("_law_draw" : Str), ("_law_names" : Str), ("_law_word" : Str), ("_law_field" : Str), ("_law_got" : Str), ("_law_drawn" : Str), ("_law_best" : Str), ("_law_fewest" : Str), ("_law_sets" : Str), ("_law_worths" : Str), ("_law_order" : Str), ("_law_due" : Str), ("_law_right" : Str)]
def tf : List He.Defn := [("_law_right", none), ("law", none)]
abbrev qe16 : List Str := [("NoKind" : Str), ("Nought" : Str), ("NoShare" : Str), ("Uneven" : Str), ("BadName" : Str), ("NoNumber" : Str), ("NoRide" : Str), ("NoText" : Str), ("NoName" : Str), ("NoDay" : Str), ("NoSeats" : Str), ("TooMany" : Str), ("Taken" : Str), ("NoRule" : Str), ("NothingDone" : Str), ("NoRow" : Str)]
abbrev qe7 : List String := ["ValueError", "KeyError", "IndexError", "LookupError", "ArithmeticError", "RuntimeError", "TypeError"]
abbrev qie : List Value := [.type "IndexError", .type "LookupError", .type "Exception", .type "BaseException", .type "object"]
def owN : Str → Bool := fun x => decide (x = "NoSeats")
def abN : String → Bool := fun x => x == "IndexError" || x == "LookupError"
def xkC (K : PySem.W.Frag) (C : Addr) (bs : List Value) (nid vi : String) (ty : String) (ow : Str → Bool) (ab : String → Bool) : Bool := GX.gxB K C bs nid && (GX.vvB K ty vi && (xfB K C && (GX.isB K C && (qe16.all (fun x => decide (PySem.W.exmOne K (.ref C) (.ref (He.ga K x)) = some (ow x))) &&
  (qe16.all (fun x => decide (PySem.W.kitOne K (.ref C) (.ref (He.ga K x)) = some (ow x))) && qe7.all (fun x => decide (PySem.W.kitOne K (.ref C) (.type x) = some (ab x))))))))
def xk1 (K : PySem.W.Frag) : Bool := xkC K (He.ga K "NoSeats") qie "IndexError.__new__" "IndexError.__init__" "IndexError" owN abN && decide ((He.cT K ("law", none)).2 ≠ (He.cT K ("_law_right", none)).2)
def xk (K : PySem.W.Frag) : Bool := (xk1) K
noncomputable def eN (w : World) (os : PySem.OsState) : Option PySem.W.SharedT := HandSHeadRun.endF (HandSHeadRun.stepQ (HandSHeadRun.denQ HandSHeadRun.tabQ) R.prog w) 8000 R.prog w os
abbrev Kf (s : PySem.W.SharedT) : PySem.W.Frag := He.frT (HandSHeadRun.getT s) (He.asD (HandSHeadRun.getT s) 6)
theorem runB (w : World) (os : PySem.OsState) : (eN w os).map (fun s => fa.all fun f => f.ok (Kf s)) = some true := by
  kernel_rfl
section
open PySem.W PySem.Calls
theorem runL (w : World) (os : PySem.OsState) : (eN w os).map (fun s => HandSHeadRun.looksF R.prog (boot_heap w.params) s.abs) = some true := by
  kernel_rfl
end
section
open PySem.W PySem.Calls
theorem runS (w : World) (os : PySem.OsState) : (eN w os).map (fun s => HandSHeadRun.seenQ (PySem.W.view R.prog [45]) loose (importedModules R.prog.main.body) (fun s => xlAt (PySem.W.view R.prog [45]) [] s && recOk R.toRowW.records s) s.abs) = some (openGood (PySem.W.view R.prog [45]) loose) := by
  kernel_rfl
end
theorem runC (w : World) (os : PySem.OsState) : (eN w os).map (fun s => (fn.all fun d => d.ok (Kf s), (xk (Kf s) && He.tabsB (HandSHeadRun.getT s) tf (Kf s)), fn.map fun d => He.fnW (Kf s) d.at_)) = some (true, true, fn.map He.DefD.val) := by
  kernel_rfl
end K16
set_option Elab.async false
set_option linter.all false
set_option maxRecDepth 100000
set_option maxHeartbeats 4000000
namespace K16
open PySem PySem.Spec PyProof.Rows L2
open C8 (Cal Mak Met pe_c pe_mk pe_mt pe_mt0)
/-- a def of the text -/
abbrev Dn (K : PySem.W.Frag) (d : He.DefD) (f : Addr) (fd : FuncData) : Prop := FunD K d.name d.qual d.params d.body d.scope (d.dvs K) (d.kws K) f fd
/-- what the module's names are -/
structure Bl (mg : Str → Option Value) : Prop where
  isi : mg "isinstance" = none
  int : mg "int" = none
  bool : mg "bool" = none
  str : mg "str" = none
  list : mg "list" = none
  range : mg "range" = none
  len : mg "len" = none
  all : mg "all" = none
  any : mg "any" = none
  max : mg "max" = none
  min : mg "min" = none
theorem same_new {H : Hp} {p : Addr} {o : HO} (h : H p = none) : Same H (upd H p o) := fun a u e => by
  rw [upd_ne (ne_of_none e h)]
  exact e
theorem dpInts {K : PySem.W.Frag} {H : Hp} : ∀ ns : List Int, DpAll K H (ns.map V.int) (ns.map PyData.int)
  | [] => .nil
  | n :: ns => .cons (.int n) (dpInts ns)
theorem cb_l {i j : Int} (h1 : -(2 ^ 64) < i) (h2 : i < 2 ^ 64) : CMul i j := .inl ⟨h1, h2⟩
theorem cb_r {i j : Int} (h1 : -(2 ^ 64) < j) (h2 : j < 2 ^ 64) : CMul i j := .inr ⟨h1, h2⟩
/-- the pen at p, good for c draws more -/
def penL (l : Addr) (n m : Int) : List V := [.ref l, .int n, .int m]
def Pen (H : Hp) (p : Addr) (c : Nat) : Prop := ∃ (l : Addr) (ns : List Int) (n m : Int), H p = some (.lst (penL l n m)) ∧ H l = some (.lst (ns.map V.int)) ∧ l ≠ p ∧ 0 ≤ n ∧ n + c ≤ 1000000000
theorem Pen.weak {H : Hp} {p : Addr} {c c' : Nat} (hc : c' ≤ c) (x : Pen H p c) : Pen H p c' := by
  obtain ⟨l, ns, n, m, h1, h2, h3, h4, h5⟩ := x
  exact ⟨l, ns, n, m, h1, h2, h3, h4, by omega⟩
theorem Pen.same {H H' : Hp} {p : Addr} {c : Nat} (s : Same H H') (x : Pen H p c) : Pen H' p c := by
  obtain ⟨l, ns, n, m, h1, h2, h3⟩ := x
  exact ⟨l, ns, n, m, s _ _ h1, s _ _ h2, h3⟩
/-- all but the pen is kept, its cells stay where they are -/
def Kp (p : Addr) (H H' : Hp) : Prop := (∀ b o, H b = some o → b ≠ p → H' b = some o) ∧ ∀ l n m, H p = some (.lst (penL l n m)) → ∃ n' m', H' p = some (.lst (penL l n' m'))
theorem Kp.refl (p : Addr) (H : Hp) : Kp p H H := ⟨fun _ _ e _ => e, fun _ n m e => ⟨n, m, e⟩⟩
theorem Kp.trans {p : Addr} {H H1 H2 : Hp} (a : Kp p H H1) (b : Kp p H1 H2) : Kp p H H2 := ⟨fun c o e n => b.1 c o (a.1 c o e n) n, fun l n m e => let ⟨n', m', e'⟩ := a.2 l n m e; b.2 l n' m' e'⟩
theorem Kp.same {p : Addr} {H H1 : Hp} (a : Same H H1) : Kp p H H1 := ⟨fun c o e _ => a c o e, fun _ n m e => ⟨n, m, a _ _ e⟩⟩
theorem pen_inj {l l' : Addr} {n m n' m' : Int} (h : HO.lst (penL l n m) = HO.lst (penL l' n' m')) : l = l' := by
  injection h with h
  injection h with h _
  injection h
theorem Kp.put {p l : Addr} {H : Hp} {n m : Int} (n' m' : Int) (e : H p = some (.lst (penL l n m))) : Kp p H (upd H p (.lst (penL l n' m'))) := by
  refine ⟨fun c o z ne => by rw [upd_ne ne]; exact z, fun l' n1 m1 z => ⟨n', m', ?_⟩⟩
  rw [upd_same, pen_inj (Option.some.inj (z.symm.trans e))]
theorem Kp.new {p st : Addr} {H1 H2 : Hp} {o : HO} (k : Kp p H1 H2) (f : H1 st = none) : Kp p H1 (upd H2 st o) :=
  ⟨fun b u e ne => by rw [upd_ne (ne_of_none e f)]; exact k.1 b u e ne, fun l n m e => by
    obtain ⟨n', m', e'⟩ := k.2 l n m e
    exact ⟨n', m', by rw [upd_ne (ne_of_none e f)]; exact e'⟩⟩
/-- D is neither the pen nor its cells -/
def Off (p D : Addr) (H : Hp) : Prop := ∃ l n m, H p = some (.lst (penL l n m)) ∧ l ≠ D ∧ p ≠ D
theorem Off.kp {p D : Addr} {H H' : Hp} (x : Off p D H) (k : Kp p H H') : Off p D H' := by
  obtain ⟨la, n, m, e, n1, n2⟩ := x
  obtain ⟨n', m', e'⟩ := k.2 _ _ _ e
  exact ⟨la, n', m', e', n1, n2⟩
theorem Off.of {p D : Addr} {H : Hp} {c : Nat} (x : Pen H p c) (f : H D = none) : Off p D H := by
  obtain ⟨la, ns, n, m, e1, e2, _⟩ := x
  exact ⟨la, n, m, e1, ne_of_none e2 f, ne_of_none e1 f⟩
theorem Off.ne {p D : Addr} {H : Hp} (x : Off p D H) : D ≠ p := by
  obtain ⟨_, _, _, _, _, n⟩ := x
  exact n.symm
theorem Off.put {p D D' : Addr} {H : Hp} {o : HO} (x : Off p D H) (n : p ≠ D') : Off p D (upd H D' o) := by
  obtain ⟨la', n', m', e', n1, n2⟩ := x
  exact ⟨la', n', m', by rw [upd_ne n]; exact e', n1, n2⟩
theorem Pen.put {p D : Addr} {H : Hp} {o : HO} {c : Nat} (x : Pen H p c) (y : Off p D H) : Pen (upd H D o) p c := by
  obtain ⟨la, ns, n, m, e1, e2, e3⟩ := x
  obtain ⟨la', n', m', e', n1, n2⟩ := y
  cases pen_inj (Option.some.inj (e1.symm.trans e'))
  exact ⟨la, ns, n, m, by rw [upd_ne n2]; exact e1, by rw [upd_ne n1]; exact e2, e3⟩
section
variable {P : Program} {w : World} {K : PySem.W.Frag} {mg : Str → Option Value} {base : Heap} {f C : Addr} {fd : FuncData}
def spPen (K : PySem.W.Frag) : Sp := fun vs H Q _ => ∃ (a : Addr) (ns : List Int), vs = [.ref a] ∧ SqL K H a (ns.map V.int) ∧ ns.length ≤ 63 ∧ ∀ p H', Same H H' → H p = none → Pen H' p 900000000 → Q (.ref p) H'
theorem ok_pen (F : Dn K d_l_pen f fd) (b : Bl mg) : FnOk P w K mg base CX0 1 f fd ["_law_script"] (spPen K) := by
  refine F.ok sc_l_pen (fun vs H Q E h => ?_) (fun cdv A outer s H vs Q E hr h => ?_)
  · obtain ⟨a, ns, rfl, _⟩ := h
    rfl
  · obtain ⟨a, ns, rfl, hS, hlen, hQ⟩ := h
    refine ⟨_, PSs.nox (pss_one (ps_ret (pe_lst (pa_cons (pe_callTy call_list_of rfl b.list boot_list (pa_cons (pe_slice sl_list (pv 0) po_none (po_some pe_int)) pa_nil)) (pa_cons pe_int (pa_cons pe_int pa_nil)))))), ?_⟩
    refine ⟨_, rfl, 63, rfl, a, _, rfl, hS, fun q hq => ⟨q, _, rfl, Or.inl (SqL.of upd_same), fun l hl => ?_⟩⟩
    refine ⟨by show 3 ≤ sizeLine; decide, fun p hp => ?_⟩
    have e : cutV (ns.map V.int) none (some 63) = (ns.take 63).map V.int := by
      unfold cutV
      simp [HT.sIx, List.map_take]
    have s1 := same_new (o := .lst (cutV (ns.map V.int) none (some 63))) hq
    have s2 := same_new (o := .lst (cutV (ns.map V.int) none (some 63))) hl
    have s3 := same_new (o := .lst (penL l 0 0)) hp
    refine hQ p _ ((s1.trans s2).trans s3) ((s1.trans s2).free hp) ⟨l, ns.take 63, 0, 0, upd_same, ?_, ?_, by decide, by decide⟩
    · rw [← e]
      exact s3 _ _ upd_same
    · exact ne_of_none upd_same hp
def spDraw : Sp := fun vs H Q _ => ∃ (p : Addr) (c : Nat) (k : Int), vs = [.ref p, .int k] ∧ Pen H p (c + 1) ∧ 0 < k ∧ k < 1073741824 ∧
  ∀ r H', 0 ≤ r → r < k → Pen H' p c → Kp p H H' → Q (.int r) H'
theorem ok_draw (F : Dn K d_l_draw f fd) (b : Bl mg) : FnOk P w K mg base CX0 1 f fd ["_law_pen_here", "_law_many"] spDraw := by
  refine F.ok sc_l_draw (fun vs H Q E h => ?_) (fun cdv A outer s H vs Q E hr h => ?_)
  · obtain ⟨p, c, k, rfl, _⟩ := h
    rfl
  · obtain ⟨p, c, k, rfl, ⟨l, ns, n, m, hp, hl, nlp, hn, hc⟩, hk0, hk1, hQ⟩ := h
    have hu64 : (A.deeper (envOfC d_l_draw.qual d_l_draw.scope s.heap.objs.size f cdv)).units + 64 < cLine := by have := hr.un; omega
    refine ⟨_, PSs.nox (pss_cons (ps_if (pt_cmpR op_gt (pe_ix ix_list (pv 0) pe_int (fun _ _ => rfl)) pe_int (nomark _))
         (pss_cons (ps_set (i := 2) sc_l_draw.nd rfl (.inl rfl) (pe_op op_mod (pe_ix ix_list (pv 0) pe_int (fun _ _ => rfl)) (pv 1)))
         (pss_cons (ps_asg (pe_op op_fdiv (pe_ix ix_list (pv 0) pe_int (fun _ _ => rfl)) (pv 1)) (pg_sub (pv 0) pe_int set_list))
         (pss_one (ps_ret (pv 2))))) pss_nil)
      (pss_cons (ps_set (i := 3) sc_l_draw.nd rfl (.inl rfl) (pe_ix ix_list (pv 0) pe_int (fun _ _ => rfl)))
      (pss_cons (ps_asg (pe_op op_add (pv 3) pe_int) (pg_sub (pv 0) pe_int set_list))
      (pss_cons (ps_set (i := 4) sc_l_draw.nd rfl (.inl rfl) pe_int)
      (C8.pss_cut (ps_if (pt_cmpR (op_neD hu64) (pe_ix ix_list (pv 0) pe_int (fun _ _ => rfl)) (pe_lst pa_nil) (nomark _))
        (pss_one (ps_set (i := 4) sc_l_draw.nd rfl (.inl rfl) (pe_ix ix_list (pe_ix ix_list (pv 0) pe_int (fun _ _ => rfl)) (pe_op op_mod (pv 3) (pe_callB call_len_seq rfl b.len boot_len (pa_cons (pe_ix ix_list (pv 0) pe_int (fun _ _ => rfl)) pa_nil))) (fun _ _ => rfl)))) pss_nil)
      (pss_cons (ps_if (PW.pt (pw_and (pt_cmpR op_ge (pv 4) (pe_op op_pow pe_int pe_int) (nomark _)) (pw_and1 (pt_cmpR op_lt (pv 3) (pe_callB call_len_seq rfl b.len boot_len (pa_cons (pe_ix ix_list (pv 0) pe_int (fun _ _ => rfl)) pa_nil)) (nomark _)))))
         (pss_cons (ps_asg (pe_op op_fdiv (pv 4) (pv 1)) (pg_sub (pv 0) pe_int set_list))
         (pss_one (ps_ret (pe_op op_mod (pv 4) (pv 1))))) pss_nil)
      (pss_cons (ps_set (i := 5) sc_l_draw.nd rfl (.inl rfl) (pe_op op_mod (pe_op op_add (pe_op op_add (pe_op op_add (pe_op op_mul (pe_op op_mod (pv 4) pe_int) pe_int) (pe_op op_mul (pe_op op_mul pe_int (pv 3)) (pv 3))) (pe_op op_mul pe_int (pv 3))) pe_int) pe_int))
      (pss_cons (ps_set (i := 5) sc_l_draw.nd rfl (.inl rfl) (pe_op op_mod (pe_op op_mul (pv 5) (pe_op op_add (pe_op op_mod (pv 5) pe_int) pe_int)) pe_int))
      (pss_one (ps_ret (pe_op op_mod (pe_op op_fdiv (pe_op op_mod (pe_op op_add (pe_op op_mul (pv 5) pe_int) (pv 3)) pe_int) pe_int) (pv 1)))))))))))), ?_⟩
    have cM : ∀ x y : Int, 0 < y → (0 ≤ x % y ∧ x % y < y) := fun x y hy => ⟨Int.emod_nonneg _ (by omega), Int.emod_lt_of_pos _ hy⟩
    have i2 : ∀ {n m : Int}, atI (penL l n m) 2 = some (.int m) := atI_nat (j := 2) rfl
    have i1 : ∀ {n m : Int}, atI (penL l n m) 1 = some (.int n) := atI_nat (j := 1) rfl
    have i0 : ∀ {n m : Int}, atI (penL l n m) 0 = some (.ref l) := atI_nat (j := 0) rfl
    refine ⟨_, rfl, p, _, _, _, rfl, rfl, SqL.of hp, i2, _, _, rfl, rfl, _, rfl, ?_⟩
    refine ite2 (fun h1 => ?_) (fun h1 => ?_)
    · refine ⟨_, rfl, p, _, _, _, rfl, rfl, SqL.of hp, i2, _, rfl, _, _, rfl, rfl, hk0, ?_⟩
      refine ⟨_, rfl, p, _, _, _, rfl, rfl, SqL.of hp, i2, _, rfl, _, _, rfl, rfl, ⟨hk0, hk1⟩, _, rfl, p, _, _, 2, rfl, rfl, hp, rfl, ?_⟩
      refine ⟨_, rfl, hQ _ _ (cM _ _ hk0).1 (cM _ _ hk0).2 ⟨l, ns, n, m / k, upd_same, ?_, nlp, hn, by omega⟩ (Kp.put n (m / k) hp)⟩
      rw [upd_ne nlp]
      exact hl
    · refine ⟨_, rfl, p, _, _, _, rfl, rfl, SqL.of hp, i1, ?_⟩
      refine ⟨_, rfl, _, _, rfl, rfl, _, rfl, p, _, _, 1, rfl, rfl, hp, rfl, ?_⟩
      have hp1 : (upd H p (.lst (penL l (n + 1) m))) p = some (.lst (penL l (n + 1) m)) := upd_same
      have hl1 : (upd H p (.lst (penL l (n + 1) m))) l = some (.lst (ns.map V.int)) := by rw [upd_ne nlp]; exact hl
      have kp1 : Kp p H (upd H p (.lst (penL l (n + 1) m))) := Kp.put _ _ hp
      refine ⟨fun σ' H' => ∃ (cell : Int), σ' = [some (.ref p), some (.int k), none, some (.int n), some (.int cell), none] ∧ H' p = some (.lst (penL l (n + 1) m)) ∧ H' l = some (.lst (ns.map V.int)) ∧ Kp p H H', ?_, ?_⟩
      · refine ⟨_, rfl, p, _, _, _, rfl, rfl, SqL.of hp1, i0, (by show 0 ≤ sizeLine; decide), fun e he => ?_⟩
        have s2 := same_new (o := .lst []) he
        have hp2 := s2 _ _ hp1
        have hl2 := s2 _ _ hl1
        have kp2 := kp1.trans (Kp.same s2)
        refine ⟨.list (ns.map .int), .list [], Dp.lst (SqL.of hl2) (dpInts ns), Dp.lst (SqL.of upd_same) .nil, PySem.W.ke_shaped_ints ns, by decide, _, rfl, ?_⟩
        cases ns with
        | nil => exact iteF ⟨5, rfl, hp2, hl2, kp2⟩
        | cons z zs =>
          refine iteT ?_
          have hlen : (0 : Int) < (((z :: zs).map V.int).length : Int) := by simp
          refine ⟨_, rfl, p, _, _, _, rfl, rfl, SqL.of hp2, i0, _, rfl, _, rfl, p, _, _, _, rfl, rfl, SqL.of hp2, i0, l, _, rfl, Or.inl (SqL.of hl2), _, _, rfl, rfl, hlen, ?_⟩
          obtain ⟨q, hq⟩ := Int.eq_ofNat_of_zero_le (cM n _ hlen).1
          have hq2 := (cM n _ hlen).2
          rw [hq] at hq2
          have hq3 : q < (z :: zs).length := by rw [List.length_map] at hq2; omega
          refine ⟨l, _, _, .int ((z :: zs)[q]), rfl, rfl, SqL.of hl2, (by rw [hq]; exact atI_nat (by rw [List.getElem?_map, List.getElem?_eq_getElem hq3]; rfl)), ?_⟩
          exact ⟨_, rfl, hp2, hl2, kp2⟩
      · rintro σ' H' ⟨cell, rfl, hp2, hl2, kp2⟩
        have stay0 : Pen H' p c := ⟨l, ns, n + 1, m, hp2, hl2, nlp, by omega, by omega⟩
        have last : ∀ D : Ends, D.rt = Q → tSeq (tAsg (tOp (rI (fun _ j => 0 < j) fun i j => .int (i % j)) (tOp (rI0 fun i j => .int (i + j)) (tOp (rI0 fun i j => .int (i + j)) (tOp (rI0 fun i j => .int (i + j))
            (tOp (rI CMul fun i j => .int (i * j)) (tOp (rI (fun _ j => 0 < j) fun i j => .int (i % j)) (tVar 4) (tC (.int 2147483629))) (tC (.int 40503))) (tOp (rI CMul fun i j => .int (i * j)) (tOp (rI CMul fun i j => .int (i * j)) (tC (.int 7919)) (tVar 3)) (tVar 3)))
            (tOp (rI CMul fun i j => .int (i * j)) (tC (.int 104729)) (tVar 3))) (tC (.int 29))) (tC (.int 2147483647))) (gName 5))
          (tSeq (tAsg (tOp (rI (fun _ j => 0 < j) fun i j => .int (i % j)) (tOp (rI CMul fun i j => .int (i * j)) (tVar 5) (tOp (rI0 fun i j => .int (i + j)) (tOp (rI (fun _ j => 0 < j) fun i j => .int (i % j)) (tVar 5) (tC (.int 65003))) (tC (.int 3)))) (tC (.int 2147483587))) (gName 5))
          (tRet (tOp (rI (fun _ j => 0 < j) fun i j => .int (i % j)) (tOp (rI CDiv fun i j => .int (i / j)) (tOp (rI (fun _ j => 0 < j) fun i j => .int (i % j)) (tOp (rI0 fun i j => .int (i + j)) (tOp (rI CMul fun i j => .int (i * j)) (tVar 5) (tC (.int 69621))) (tVar 3)) (tC (.int 2147483563))) (tC (.int 16))) (tVar 1)))) D [some (.ref p), some (.int k), none, some (.int n), some (.int cell), none] H' := by
          intro D hD
          refine ⟨_, rfl, _, _, rfl, rfl, (by decide : (0 : Int) < 2147483629), _, _, rfl, rfl, cb_r (by decide) (by decide), _, rfl, _, _, rfl, rfl, cb_l (by decide) (by decide), _, rfl, _, _, rfl, rfl, cb_r (by omega) (by omega), _, _, rfl, rfl, ?_⟩
          refine ⟨_, rfl, _, _, rfl, rfl, cb_l (by decide) (by decide), _, _, rfl, rfl, _, _, rfl, rfl, _, _, rfl, rfl, (by decide : (0 : Int) < 2147483647), ?_⟩
          refine ⟨_, rfl, _, rfl, _, _, rfl, rfl, (by decide : (0 : Int) < 65003), _, _, rfl, rfl, _, _, rfl, rfl, ?_, _, _, rfl, rfl, (by decide : (0 : Int) < 2147483587), ?_⟩
          · refine cb_l ?_ ?_
            · exact Int.lt_of_lt_of_le (by decide) (cM _ 2147483647 (by decide)).1
            · exact Int.lt_trans (cM _ 2147483647 (by decide)).2 (by decide)
          refine ⟨_, rfl, _, _, rfl, rfl, cb_r (by decide) (by decide), _, rfl, _, _, rfl, rfl, _, _, rfl, rfl, (by decide : (0 : Int) < 2147483563), _, _, rfl, rfl, ⟨by decide, by decide⟩, _, rfl, _, _, rfl, rfl, hk0, ?_⟩
          rw [hD]
          exact hQ _ _ (cM _ _ hk0).1 (cM _ _ hk0).2 stay0 kp2
        refine ⟨_, rfl, _, _, rfl, rfl, ⟨by decide, by decide, by decide⟩, _, _, rfl, rfl, _, rfl, ?_⟩
        refine ite2 (fun g1 => ?_) (fun g1 => iteF (last _ rfl))
        refine ⟨_, rfl, _, rfl, p, _, _, _, rfl, rfl, SqL.of hp2, i0, l, _, rfl, Or.inl (SqL.of hl2), _, _, rfl, rfl, _, rfl, ?_⟩
        refine ite2 (fun g2 => ?_) (fun g2 => last _ rfl)
        refine ⟨_, rfl, _, rfl, _, _, rfl, rfl, ⟨hk0, hk1⟩, _, rfl, p, _, _, 2, rfl, rfl, hp2, rfl, ?_⟩
        refine ⟨_, rfl, _, rfl, _, _, rfl, rfl, hk0, ?_⟩
        refine hQ _ _ (cM _ _ hk0).1 (cM _ _ hk0).2 ⟨l, ns, n + 1, cell / k, upd_same, ?_, nlp, by omega, by omega⟩ (kp2.trans (Kp.put (n + 1) (cell / k) hp2))
        rw [upd_ne nlp]
        exact hl2
end
end K16
set_option Elab.async false
set_option linter.all false
set_option maxRecDepth 100000
set_option maxHeartbeats 4000000
/-! NM: the names that a law draws: words by a base, a place, a spot and a way. -/
namespace NM
open PySem PySem.Spec
def ok (l : List Nat) : Prop := 1 ≤ l.length ∧ l.length ≤ 8 ∧ ∀ c ∈ l, 97 ≤ c ∧ c ≤ 122
def words : List (List Nat) := [[108, 97, 116, 101], [105, 110], [111, 117, 116], [114, 105, 100, 101], [104, 97, 110, 100], [108, 97, 99, 107], [121, 101, 115], [110, 111], [110, 97, 109, 101, 115], [103, 111, 110, 101], [116, 101, 120, 116], [112, 108, 97, 110], [117, 110, 100, 111], [117, 115, 117, 97, 108], [98, 97, 99, 107], [108, 101, 97, 118, 101]]
def lets : List Nat := (List.range 26).map (97 + ·)
def w0 (bs : List Nat) (at_ spot k : Nat) : List Nat := bs.take at_ ++ [97 + (spot + 5 * k) % 26] ++ bs.drop (at_ + 1)
def w1 (bs : List Nat) (at_ spot k : Nat) : List Nat := (w0 bs at_ spot k).take (bs.length - k % (bs.length - at_))
def w2 (spot k : Nat) : List Nat := (List.replicate 8 (97 + (spot + k / 8) % 26)).take (k % 8 + 1)
def w3 (spot k : Nat) : List Nat := words.getD ((spot + k) % 16) []
def word (bs : List Nat) (at_ spot way k : Nat) : List Nat := if way = 1 then w1 bs at_ spot k else if way = 2 then w2 spot k else if way = 3 then w3 spot k else w0 bs at_ spot k
theorem words_ok : ∀ i, i < 16 → ok (words.getD i []) := by
  have : ∀ i : Fin 16, 1 ≤ (words.getD i.1 []).length ∧ (words.getD i.1 []).length ≤ 8 ∧ (words.getD i.1 []).all (fun c => decide (97 ≤ c ∧ c ≤ 122)) = true := by decide +kernel
  intro i hi
  obtain ⟨h1, h2, h3⟩ := this ⟨i, hi⟩
  refine ⟨h1, h2, fun c hc => ?_⟩
  have := List.all_eq_true.mp h3 c hc
  exact of_decide_eq_true this
theorem words_inj : ∀ i j, i < 16 → j < 16 → words.getD i [] = words.getD j [] → i = j := by
  have : ∀ i j : Fin 16, words.getD i.1 [] = words.getD j.1 [] → i = j := by decide +kernel
  intro i j hi hj e
  exact congrArg Fin.val (this ⟨i, hi⟩ ⟨j, hj⟩ e)
section
variable {bs : List Nat} {at_ spot k : Nat}
theorem w0_len (h : at_ < bs.length) : (w0 bs at_ spot k).length = bs.length := by
  unfold w0
  simp only [List.length_append, List.length_take, List.length_drop, List.length_cons, List.length_nil]
  omega
theorem w0_at (h : at_ < bs.length) : (w0 bs at_ spot k)[at_]? = some (97 + (spot + 5 * k) % 26) := by
  unfold w0
  rw [List.append_assoc, List.getElem?_append_right (by rw [List.length_take]; omega), List.length_take, Nat.min_eq_left (by omega), Nat.sub_self]
  rfl
theorem w0_mem (hb : ∀ c ∈ bs, 97 ≤ c ∧ c ≤ 122) : ∀ c ∈ w0 bs at_ spot k, 97 ≤ c ∧ c ≤ 122 := by
  intro c hc
  unfold w0 at hc
  rcases List.mem_append.mp hc with hc | hc
  · rcases List.mem_append.mp hc with hc | hc
    · exact hb c (List.mem_of_mem_take hc)
    · rw [List.mem_singleton] at hc
      omega
  · exact hb c (List.mem_of_mem_drop hc)
theorem w1_len (h : at_ < bs.length) : at_ + 1 ≤ (w1 bs at_ spot k).length ∧ (w1 bs at_ spot k).length ≤ bs.length := by
  unfold w1
  rw [List.length_take, w0_len h]
  have := Nat.mod_lt k (show 0 < bs.length - at_ by omega)
  omega
theorem w1_at (h : at_ < bs.length) : (w1 bs at_ spot k)[at_]? = some (97 + (spot + 5 * k) % 26) := by
  have h1 := (w1_len (spot := spot) (k := k) h).1
  unfold w1 at h1 ⊢
  rw [List.length_take, w0_len h] at h1
  rw [List.getElem?_take_of_lt (by omega)]
  exact w0_at h
theorem spot_inj {i j : Nat} (hi : i < 16) (hj : j < 16) (e : 97 + (spot + 5 * i) % 26 = 97 + (spot + 5 * j) % 26) : i = j := by omega
theorem word_ok (hb0 : 1 ≤ bs.length) (hb8 : bs.length ≤ 8) (hb : ∀ c ∈ bs, 97 ≤ c ∧ c ≤ 122) (h : at_ < bs.length) (way : Nat) : ok (word bs at_ spot way k) := by
  unfold word
  split
  · have := w1_len (spot := spot) (k := k) h
    exact ⟨by omega, by omega, fun c hc => w0_mem hb c (List.mem_of_mem_take hc)⟩
  split
  · unfold w2
    refine ⟨by rw [List.length_take, List.length_replicate]; omega, by rw [List.length_take, List.length_replicate]; omega, fun c hc => ?_⟩
    have := List.eq_of_mem_replicate (List.mem_of_mem_take hc)
    omega
  split
  · exact words_ok _ (Nat.mod_lt _ (by decide))
  · exact ⟨by rw [w0_len h]; exact hb0, by rw [w0_len h]; exact hb8, w0_mem hb⟩
theorem word_inj (h : at_ < bs.length) (way : Nat) {i j : Nat} (hi : i < 16) (hj : j < 16) (e : word bs at_ spot way i = word bs at_ spot way j) : i = j := by
  unfold word at e
  split at e
  · have h1 := w1_at (spot := spot) (k := i) h
    rw [e, w1_at h] at h1
    exact (spot_inj hj hi (Option.some.inj h1)).symm
  split at e
  · unfold w2 at e
    have hl := congrArg List.length e
    rw [List.length_take, List.length_take, List.length_replicate, List.length_replicate] at hl
    have h0 : ((List.replicate 8 (97 + (spot + i / 8) % 26)).take (i % 8 + 1))[0]? = ((List.replicate 8 (97 + (spot + j / 8) % 26)).take (j % 8 + 1))[0]? := by rw [e]
    rw [List.getElem?_take_of_lt (by omega), List.getElem?_take_of_lt (by omega), List.getElem?_replicate, List.getElem?_replicate, if_pos (by decide), if_pos (by decide)] at h0
    have := Option.some.inj h0
    omega
  split at e
  · have := words_inj _ _ (Nat.mod_lt _ (by decide)) (Nat.mod_lt _ (by decide)) e
    omega
  · have h1 := w0_at (spot := spot) (k := i) h
    rw [e, w0_at h] at h1
    exact (spot_inj hj hi (Option.some.inj h1)).symm
/-- as many as are asked: unlike ones -/
theorem all_unlike (h : at_ < bs.length) (way n : Nat) (hn : n ≤ 16) : ((List.range n).map (word bs at_ spot way)).Pairwise (· ≠ ·) := by
  rw [List.pairwise_map]
  refine (List.pairwise_lt_range (n := n)).imp_of_mem fun {a b} ha hb hlt e => ?_
  have := word_inj h way (by have := List.mem_range.mp ha; omega) (by have := List.mem_range.mp hb; omega) e
  omega
end
end NM
set_option Elab.async false
set_option linter.all false
set_option maxRecDepth 100000
set_option maxHeartbeats 4000000
namespace K16
open PySem PySem.Spec PyProof.Rows L2
open C8 (Cal Mak Met pe_c pe_mk pe_mt pe_mt0)
open SX (S)
theorem lets_S : (Str.ofString "abcdefghijklmnopqrstuvwxyz").cps.toList = NM.lets := by decide +kernel
theorem words_S : Txt.split (Str.ofString "late in out ride hand lack yes no names gone text plan undo usual back leave") (Str.ofString " ") = NM.words.map S := by decide +kernel
theorem at_lets {x : Int} {j : Nat} (e : x = (j : Int)) (hj : j < 26) : atI (Str.ofString "abcdefghijklmnopqrstuvwxyz").cps.toList x = some (97 + j) := by
  rw [e, lets_S]
  refine atI_nat ?_
  unfold NM.lets
  rw [List.getElem?_map, List.getElem?_range hj]
  rfl
theorem cut_t {l : List Nat} {x : Int} {j : Nat} (e : x = (j : Int)) (h : j ≤ l.length) : cutS (S l) none (some x) = S (l.take j) := by
  rw [e]
  unfold cutS
  rw [HT.sIx_nat, HT.sIx_none, SX.S_len, Nat.min_eq_left h]
  simp [S]
theorem cut_d {l : List Nat} {x : Int} {j : Nat} (e : x = (j : Int)) (h : j ≤ l.length) : cutS (S l) (some x) none = S (l.drop j) := by
  rw [e]
  unfold cutS
  rw [HT.sIx_nat, HT.sIx_none, SX.S_len, Nat.min_eq_left h]
  simp [S, List.take_of_length_le]
theorem ones : ∀ bs : List Nat, ((bs.map fun c => S [c]).map (·.length)).sum = bs.length
  | [] => rfl
  | b :: bs => by
    rw [List.map_cons, List.map_cons, List.sum_cons, ones bs, List.length_cons, SX.S_len]
    simp
    omega
theorem joined : ∀ bs : List Nat, TL.joinL [] (bs.map fun c => [c]) = bs
  | [] => rfl
  | [b] => rfl
  | b :: d :: bs => by
    have := joined (d :: bs)
    simp only [List.map_cons, TL.joinL] at this ⊢
    simp [this]
/-- a sign eight times -/
theorem op_eight {X : Cx} : OpR X (binaryOp .Mult) (fun x y H Q => ∃ c : Nat, x = .str ⟨#[c]⟩ ∧ y = .int 8 ∧ Q (.str (S (List.replicate 8 c))) H) := by
  intro pins s σ H x y v u Q I rx ry h
  obtain ⟨c, rfl, rfl, q⟩ := h
  obtain ⟨t, rfl⟩ := rx
  obtain ⟨t', rfl⟩ := ry
  refine PySem.P.mul_str (by decide) (fun _ _ => by show ¬ ((1 : Int) > (2 ^ 63 - 1) / 8); decide) (fun _ _ => by show Builtin.Str.tooLong 8 = false; decide) ?_
  rw [if_neg (by decide), if_neg (by show ¬ ((8 : Int) == 1 || (1 : Nat) == 0) = true; decide)]
  exact ⟨by show 8 ≤ _; decide, ⟨.str (S (List.replicate 8 c)), H, I.tok _, ⟨_, rfl⟩, q⟩⟩
section
variable {P : Program} {w : World} {K : PySem.W.Frag} {mg : Str → Option Value} {base : Heap} {f C : Addr} {fd : FuncData}
abbrev CalD (P : Program) (w : World) (K : PySem.W.Frag) (mg : Str → Option Value) (base : Heap) : Prop := Cal P w K mg base 1 "_law_draw" spDraw []
def spNames : Sp := fun vs H Q _ => ∃ (p : Addr) (c n : Nat), vs = [.ref p, .int n] ∧ Pen H p (c + 40) ∧ n ≤ 16 ∧
  ∀ (o : Addr) (zs : List (List Nat)) (H' : Hp), Pen H' p c → Kp p H H' → H o = none → Off p o H' → H' o = some (.lst (zs.map fun l => V.str (S l))) → zs.length = n → (∀ z ∈ zs, NM.ok z) → zs.Pairwise (· ≠ ·) → Q (.ref o) H'
theorem ok_names (F : Dn K d_l_names f fd) (bl : Bl mg) (cD : CalD P w K mg base) : FnOk P w K mg base CX0 2 f fd ["_law_pen_here", "_law_many"] spNames := by
  refine F.ok sc_l_names (fun vs H Q E h => ?_) (fun cdv A outer s H vs Q E hr h => ?_)
  · obtain ⟨p, c, n, rfl, _⟩ := h
    rfl
  · obtain ⟨p, c, n, rfl, pen, hn, hQ⟩ := h
    refine ⟨_, PSs.nox (pss_cons (ps_set (i := 2) sc_l_names.nd rfl (.inr rfl) pe_str)
      (pss_cons (ps_set (i := 3) sc_l_names.nd rfl (.inl rfl) (pe_split pe_str pe_str))
      (pss_cons (ps_set (i := 4) sc_l_names.nd rfl (.inl rfl) (pe_op op_add pe_int (pe_c cD hr (by decide) rfl (pa_cons (pv 0) (pa_cons pe_int pa_nil)))))
      (C8.pss_cut (ps_set (i := 6) sc_l_names.nd rfl (.inl rfl) (pe_join pe_str (pe_lc (own := [("_law_k", 5)]) (g := gName 5) (tt := tYes) rfl sc_l_names.nd (pi_range1 rfl bl.range (pa_cons (pv 4) pa_nil)) (blkOk_by (N := N_l_names) (sc := defScope s_l_names) (by decide +kernel))
          (fun _ _ _ _ _ => pg_name (i := 5) sc_l_names.nd rfl (Or.inl rfl)) (fun _ _ _ _ _ => pts_nil) (fun _ _ _ _ _ => pe_ix ix_str (pv 2) (pe_c cD hr (by decide) rfl (pa_cons (pv 0) (pa_cons pe_int pa_nil))) (fun _ _ => rfl)))))
      (pss_cons (ps_par3 (i := 7) (j := 8) (l := 9) rfl sc_l_names.nd rfl rfl rfl (by decide) (by decide) (by decide) rfl rfl rfl (pa_cons (pe_c cD hr (by decide) rfl (pa_cons (pv 0) (pa_cons (pv 4) pa_nil))) (pa_cons (pe_c cD hr (by decide) rfl (pa_cons (pv 0) (pa_cons pe_int pa_nil)))
          (pa_cons (pe_op op_mod (pe_c cD hr (by decide) rfl (pa_cons (pv 0) (pa_cons pe_int pa_nil))) pe_int) pa_nil))) rfl)
      (pss_cons (ps_set (i := 10) sc_l_names.nd rfl (.inl rfl) (pe_lst pa_nil))
      (pss_cons (ps_for PassesOwn.never rfl (pi_range1 rfl bl.range (pa_cons (pv 1) pa_nil)) (pg_name (i := 5) sc_l_names.nd rfl (.inl rfl))
        (pss_cons (ps_set (i := 11) sc_l_names.nd rfl (.inl rfl) (pe_op op_add_str (pe_op op_add_str (pe_slice sl_str (pv 6) po_none (po_some (pv 7))) (pe_ix ix_str (pv 2) (pe_op op_mod (pe_op op_add (pv 8) (pe_op op_mul pe_int (pv 5))) pe_int) (fun _ _ => rfl)))
            (pe_slice sl_str (pv 6) (po_some (pe_op op_add (pv 7) pe_int)) po_none)))
        (C8.pss_cut (ps_if (pt_cmpR op_eq (pv 9) pe_int (nomark _)) (pss_one (ps_set (i := 11) sc_l_names.nd rfl (.inl rfl) (pe_slice sl_str (pv 11) po_none (po_some (pe_op op_sub (pv 4) (pe_op op_mod (pv 5) (pe_op op_sub (pv 4) (pv 7)))))))) pss_nil)
        (C8.pss_cut (ps_if (pt_cmpR op_eq (pv 9) pe_int (nomark _)) (pss_one (ps_set (i := 11) sc_l_names.nd rfl (.inl rfl) (pe_slice sl_str (pe_op op_eight (pe_ix ix_str (pv 2) (pe_op op_mod (pe_op op_add (pv 8) (pe_op op_fdiv (pv 5) pe_int)) pe_int) (fun _ _ => rfl)) pe_int) po_none
            (po_some (pe_op op_add (pe_op op_mod (pv 5) pe_int) pe_int))))) pss_nil)
        (C8.pss_cut (ps_if (pt_cmpR op_eq (pv 9) pe_int (nomark _)) (pss_one (ps_set (i := 11) sc_l_names.nd rfl (.inl rfl) (pe_ix ix_list (pv 3) (pe_op op_mod (pe_op op_add (pv 8) (pv 5)) pe_int) (fun _ _ => rfl)))) pss_nil)
        (pss_one (ps_expr (pe_bm PySem.F.plainAttrs_list PySem.F.slot_list_insert PySem.F.type_list_insert mt_insert (pv 10) (pa_cons (pe_c cD hr (by decide) rfl (pa_cons (pv 0) (pa_cons (pe_op op_add (pe_callB call_len_seq rfl bl.len boot_len (pa_cons (pv 10) pa_nil)) pe_int) pa_nil))) (pa_cons (pv 11) pa_nil))))))))))
      (pss_one (ps_ret (pv 10)))))))))), ?_⟩
    -- the words
    refine ⟨⟨_, rfl⟩, _, _, rfl, rfl, by decide +kernel, by decide +kernel, fun wl fwl => ?_⟩
    rw [words_S]
    have s1 := same_new (o := .lst ((NM.words.map S).map V.str)) fwl
    have hwl := upd_same (H := H) (a := wl) (o := .lst ((NM.words.map S).map V.str))
    have pen1 := pen.same s1
    have off1 : Off p wl (upd H wl (.lst ((NM.words.map S).map V.str))) := (Off.of pen fwl).kp (Kp.same s1)
    generalize upd H wl (.lst ((NM.words.map S).map V.str)) = H1 at s1 hwl pen1 off1 ⊢
    -- the size
    refine ⟨_, rfl, p, c + 39, _, rfl, pen1, by decide, by decide, fun z0 H2 a2 b2 pen2 k2 => ?_⟩
    refine ⟨_, _, rfl, rfl, ?_⟩
    obtain ⟨sz, hsz⟩ := Int.eq_ofNat_of_zero_le (show 0 ≤ 1 + z0 by omega)
    have sz1 : 1 ≤ sz := by omega
    have sz8 : sz ≤ 8 := by omega
    have hwl2 := k2.1 _ _ hwl off1.ne
    have off2 := off1.kp k2
    -- the base
    refine ⟨fun σ' H' => ∃ bs : List Nat, σ' = [some (.ref p), some (.int n), some (.str (Str.ofString "abcdefghijklmnopqrstuvwxyz")), some (.ref wl), some (.int (sz : Int)), none, some (.str (S bs)), none, none, none, none, none] ∧ bs.length = sz ∧ (∀ c ∈ bs, 97 ≤ c ∧ c ≤ 122) ∧
      Pen H' p (c + 30) ∧ Kp p H H' ∧ H' wl = some (.lst ((NM.words.map S).map V.str)) ∧ Off p wl H', ?_, ?_⟩
    · refine ⟨⟨_, rfl⟩, _, rfl, _, rfl, by omega, by omega, ?_⟩
      rw [hsz, Int.toNat_natCast]
      intro D hD
      have offD := Off.of pen2 hD
      have sD := same_new (o := .lst []) hD
      refine lc_range (n := sz) (fun i H3 => ∃ bs : List Nat, bs.length = i ∧ (∀ c ∈ bs, 97 ≤ c ∧ c ≤ 122) ∧ H3 D = some (.lst (bs.map fun c => V.str (S [c]))) ∧ Pen H3 p (c + 39 - i) ∧ Kp p H2 H3 ∧ Off p D H3) ?_ ?_ ?_
      · exact ⟨[], rfl, by simp, upd_same, pen2.same sD, Kp.same sD, offD.kp (Kp.same sD)⟩
      · rintro i H3 hi ⟨bs, hbl, hbc, hd, pen3, k3, off3⟩
        refine ⟨rfl, ?_⟩
        refine ⟨_, rfl, _, rfl, p, c + 39 - (i + 1), _, rfl, pen3.weak (by omega), by decide, by decide, fun r H4 r0 r1 pen4 k4 => ?_⟩
        obtain ⟨rn, rfl⟩ := Int.eq_ofNat_of_zero_le r0
        have hd4 := k4.1 _ _ hd off3.ne
        have off4 := off3.kp k4
        refine ⟨_, _, 97 + rn, rfl, rfl, by decide +kernel, at_lets rfl (by omega), _, hd4, ?_, bs ++ [97 + rn], by simp [hbl], ?_, ?_, pen4.put off4, (k3.trans k4).new hD, ?_⟩
        · rw [List.length_map, hbl]
          exact Nat.lt_of_lt_of_le (by omega : i < 64) (by decide)
        · intro c' hc'
          rcases List.mem_append.mp hc' with hc' | hc'
          · exact hbc c' hc'
          · rw [List.mem_singleton] at hc'
            omega
        · rw [upd_same]
          simp [S]
        · exact off4.put (by obtain ⟨_, _, _, _, _, z⟩ := off4; exact z)
      · rintro H3 ⟨bs, hbl, hbc, hd, pen3, k3, off3⟩
        have ey : (bs.map fun c => V.str (S [c])) = (bs.map fun c => S [c]).map V.str := by rw [List.map_map]; rfl
        refine ⟨_, D, bs.map fun c => S [c], rfl, rfl, .inl (by rw [← ey]; exact SqL.of hd), ?_, bs, ?_, hbl, hbc, pen3.weak (by omega), ((Kp.same s1).trans k2).trans k3, k3.1 _ _ hwl2 off2.ne, off2.kp k3⟩
        · have e1 : ((bs.map fun c => S [c]).map (·.length)).sum = bs.length := by
            exact ones bs
          rw [e1, List.length_map]
          have e2 : (Str.ofString "").length = 0 := by decide +kernel
          rw [e2, hbl]
          omega
        · have e3 : Txt.join (Str.ofString "") (bs.map fun c => S [c]) = S bs := by
            have e4 : Str.ofString "" = S [] := by decide +kernel
            have e5 : (bs.map fun c => S [c]) = (bs.map fun c => [c]).map S := by rw [List.map_map]; rfl
            rw [e4, e5, SX.join_S]
            rw [joined]
          rw [e3]
          rw [← hsz]
          rfl
    clear pen pen1 pen2 k2 hwl hwl2 off1 off2 s1
    rintro σ' H3 ⟨bs, rfl, hbl, hbc, pen3, k3, hwl3, offw3⟩
    refine ⟨_, rfl, _, rfl, p, c + 29, _, rfl, pen3, by omega, by omega, fun at_ H4 a4 b4 pen4 k4 => ?_⟩
    refine ⟨_, rfl, p, c + 28, _, rfl, pen4, by decide, by decide, fun spot H5 a5 b5 pen5 k5 => ?_⟩
    refine ⟨_, rfl, p, c + 27, _, rfl, pen5, by decide, by decide, fun way0 H6 a6 b6 pen6 k6 => ?_⟩
    refine ⟨_, _, rfl, rfl, (by decide : (0 : Int) < 4), _, _, _, rfl, ?_⟩
    obtain ⟨at_, rfl⟩ := Int.eq_ofNat_of_zero_le a4
    obtain ⟨spot, rfl⟩ := Int.eq_ofNat_of_zero_le a5
    obtain ⟨way, hway⟩ := Int.eq_ofNat_of_zero_le (show 0 ≤ way0 % 4 by omega)
    have hat : at_ < bs.length := by omega
    have k36 := (k4.trans k5).trans k6
    have k06 := k3.trans k36
    have hwl6 := k36.1 _ _ hwl3 offw3.ne
    have offw6 := offw3.kp k36
    clear k4 k5 k6 pen4 pen5
    refine ⟨by show 0 ≤ sizeLine; decide, fun o fo => ?_⟩
    have so := same_new (o := .lst []) fo
    refine ⟨_, rfl, _, rfl, by omega, by omega, ?_⟩
    rw [Int.toNat_natCast]
    refine for_range (n := n) (fun i σ H7 => ∃ (zs : List (List Nat)) (v5 v11 : Option V), σ = [some (.ref p), some (.int n), some (.str (Str.ofString "abcdefghijklmnopqrstuvwxyz")), some (.ref wl), some (.int (sz : Int)), v5, some (.str (S bs)), some (.int (at_ : Int)), some (.int (spot : Int)), some (.int (way0 % 4)), some (.ref o), v11] ∧
        H7 o = some (.lst (zs.map fun l => V.str (S l))) ∧ zs.Perm ((List.range i).map (NM.word bs at_ spot way)) ∧ Pen H7 p (c + 27 - i) ∧ Kp p H6 H7 ∧ Off p o H7)
      ⟨[], none, none, rfl, upd_same, List.Perm.refl _, pen6.same so, Kp.same so, (Off.of pen6 fo).kp (Kp.same so)⟩ ?_ ?_
    · rintro i σ H7 hi ⟨zs, v5, v11, rfl, ho7, perm7, pen7, k7, off7⟩
      have hwl7 := k7.1 _ _ hwl6 offw6.ne
      have zl : zs.length = i := by rw [perm7.length_eq, List.length_map, List.length_range]
      have len0 : (S bs).length ≤ sizeLine := by rw [SX.S_len]; exact Nat.le_trans (by omega : bs.length ≤ 8) (by decide)
      have lets_len : (Str.ofString "abcdefghijklmnopqrstuvwxyz").length ≤ sizeLine := by decide +kernel
      have e5 : ((spot : Int) + 5 * (0 + (i : Int))) % 26 = (((spot + 5 * i) % 26 : Nat) : Int) := by omega
      -- the word
      refine ⟨_, rfl, _, rfl, _, rfl, _, rfl, len0, ?_⟩
      rw [cut_t rfl (by omega)]
      refine ⟨_, rfl, _, rfl, _, rfl, _, _, rfl, rfl, cb_l (by decide) (by decide), _, _, rfl, rfl, _, _, rfl, rfl, (by decide : (0 : Int) < 26), _, _, _, rfl, rfl, lets_len, at_lets e5 (Nat.mod_lt _ (by decide)), _, _, rfl, rfl, ?_, ?_⟩
      · rw [SX.S_len, List.length_take]
        exact Nat.le_trans (by show min at_ bs.length + 1 ≤ 64; omega) (by decide)
      refine ⟨_, rfl, _, rfl, _, _, rfl, rfl, _, rfl, _, rfl, len0, ?_⟩
      rw [cut_d (j := at_ + 1) (by omega) (by omega)]
      have ec : S (bs.take at_) ++ (⟨#[97 + (spot + 5 * i) % 26]⟩ : Str) = S (bs.take at_ ++ [97 + (spot + 5 * i) % 26]) := SX.S_cat _ _
      rw [ec]
      refine ⟨_, _, rfl, rfl, ?_, ?_⟩
      · rw [SX.S_len, SX.S_len, List.length_append, List.length_take, List.length_drop]
        exact Nat.le_trans (by show min at_ bs.length + 1 + (bs.length - (at_ + 1)) ≤ 64; omega) (by decide)
      rw [SX.S_cat]
      have ew0 : bs.take at_ ++ [97 + (spot + 5 * i) % 26] ++ bs.drop (at_ + 1) = NM.w0 bs at_ spot i := rfl
      rw [ew0]
      -- cut short
      refine ⟨fun σ' H' => H' = H7 ∧ σ' = [some (.ref p), some (.int n), some (.str (Str.ofString "abcdefghijklmnopqrstuvwxyz")), some (.ref wl), some (.int (sz : Int)), some (.int (0 + i)), some (.str (S bs)), some (.int (at_ : Int)), some (.int (spot : Int)), some (.int (way0 % 4)), some (.ref o), some (.str (S (if way = 1 then NM.w1 bs at_ spot i else NM.w0 bs at_ spot i)))], ?_, ?_⟩
      · refine ⟨_, rfl, rfl, _, rfl, ?_⟩
        refine ite2 (fun c1 => ?_) (fun c1 => ?_)
        · have e1 : way = 1 := by have := V.int.inj (of_decide_eq_true c1); omega
          refine ⟨_, rfl, _, rfl, _, rfl, _, rfl, _, rfl, _, _, rfl, rfl, _, _, rfl, rfl, (by omega : (0 : Int) < (sz : Int) - (at_ : Int)), _, _, rfl, rfl, _, rfl, _, rfl, by rw [SX.S_len, NM.w0_len hat]; exact Nat.le_trans (by omega : bs.length ≤ 8) (by decide), ?_⟩
          have em : (sz : Int) - (0 + (i : Int)) % ((sz : Int) - (at_ : Int)) = ((bs.length - i % (bs.length - at_) : Nat) : Int) := by
            have h1 : ((sz : Int) - (at_ : Int)) = ((bs.length - at_ : Nat) : Int) := by omega
            rw [h1, Int.zero_add, ← Int.natCast_emod]
            have := Nat.mod_lt i (show 0 < bs.length - at_ by omega)
            omega
          rw [cut_t em (by rw [NM.w0_len hat]; omega)]
          rw [if_pos e1]
          exact ⟨rfl, rfl⟩
        · have e1 : ¬ way = 1 := fun z => c1 (decide_eq_true (by rw [hway, z]; rfl))
          rw [if_neg e1]
          exact ⟨rfl, rfl⟩
      rintro σ' H' ⟨rfl, rfl⟩
      -- one sign again and again
      refine ⟨fun σ' H'' => H'' = H' ∧ σ' = [some (.ref p), some (.int n), some (.str (Str.ofString "abcdefghijklmnopqrstuvwxyz")), some (.ref wl), some (.int (sz : Int)), some (.int (0 + i)), some (.str (S bs)), some (.int (at_ : Int)), some (.int (spot : Int)), some (.int (way0 % 4)), some (.ref o), some (.str (S (if way = 1 then NM.w1 bs at_ spot i else if way = 2 then NM.w2 spot i else NM.w0 bs at_ spot i)))], ?_, ?_⟩
      · refine ⟨_, rfl, rfl, _, rfl, ?_⟩
        refine ite2 (fun c1 => ?_) (fun c1 => ?_)
        · have e1 : way = 2 := by have := V.int.inj (of_decide_eq_true c1); omega
          have e6 : ((spot : Int) + (0 + (i : Int)) / 8) % 26 = (((spot + i / 8) % 26 : Nat) : Int) := by omega
          refine ⟨_, rfl, _, rfl, _, rfl, _, _, rfl, rfl, ⟨by decide, by decide⟩, _, _, rfl, rfl, _, _, rfl, rfl, (by decide : (0 : Int) < 26), _, _, _, rfl, rfl, lets_len, at_lets e6 (Nat.mod_lt _ (by decide)), _, rfl, rfl, ?_⟩
          refine ⟨_, rfl, _, _, rfl, rfl, (by decide : (0 : Int) < 8), _, _, rfl, rfl, _, rfl, _, rfl, by rw [SX.S_len, List.length_replicate]; decide, ?_⟩
          rw [cut_t (j := i % 8 + 1) (by omega) (by rw [List.length_replicate]; omega)]
          subst e1
          exact ⟨rfl, rfl⟩
        · have e1 : ¬ way = 2 := fun z => c1 (decide_eq_true (by rw [hway, z]; rfl))
          rw [if_neg e1]
          exact ⟨rfl, rfl⟩
      rintro σ' H'' ⟨rfl, rfl⟩
      -- a word of the list
      refine ⟨fun σ' H' => H' = H'' ∧ σ' = [some (.ref p), some (.int n), some (.str (Str.ofString "abcdefghijklmnopqrstuvwxyz")), some (.ref wl), some (.int (sz : Int)), some (.int (0 + i)), some (.str (S bs)), some (.int (at_ : Int)), some (.int (spot : Int)), some (.int (way0 % 4)), some (.ref o), some (.str (S (NM.word bs at_ spot way i)))], ?_, ?_⟩
      · refine ⟨_, rfl, rfl, _, rfl, ?_⟩
        refine ite2 (fun c1 => ?_) (fun c1 => ?_)
        · have e1 : way = 3 := by have := V.int.inj (of_decide_eq_true c1); omega
          have e7 : ((spot : Int) + (0 + (i : Int))) % 16 = (((spot + i) % 16 : Nat) : Int) := by omega
          have hw16 : (spot + i) % 16 < NM.words.length := Nat.mod_lt _ (by decide)
          refine ⟨_, rfl, _, rfl, _, rfl, _, _, rfl, rfl, _, _, rfl, rfl, (by decide : (0 : Int) < 16), wl, _, _, .str (S (NM.w3 spot i)), rfl, rfl, SqL.of hwl7, ?_, ?_⟩
          · rw [e7]
            refine atI_nat ?_
            rw [List.getElem?_map, List.getElem?_map, List.getElem?_eq_getElem hw16]
            unfold NM.w3
            rw [List.getD_eq_getElem?_getD, List.getElem?_eq_getElem hw16]
            rfl
          · subst e1
            exact ⟨rfl, rfl⟩
        · have e1 : ¬ way = 3 := fun z => c1 (decide_eq_true (by rw [hway, z]; rfl))
          refine ⟨rfl, ?_⟩
          unfold NM.word
          rw [if_neg e1]
      rintro σ' H' ⟨rfl, rfl⟩
      -- put in
      refine ⟨_, rfl, Or.inl ⟨rfl, _, SqL.of ho7⟩, _, rfl, _, rfl, o, _, rfl, .inl (SqL.of ho7), _, _, rfl, rfl, p, c + 27 - (i + 1), _, rfl, pen7.weak (by omega), by omega, by rw [List.length_map]; omega, fun r H8 r0 r1 pen8 k8 => ?_⟩
      have off8 := off7.kp k8
      have ho8 := k8.1 _ _ ho7 off7.ne
      refine ⟨_, rfl, o, _, _, _, rfl, rfl, ho8, ?_, r0, by rw [List.length_map] at r1; omega, ?_⟩
      · rw [List.length_map, zl]
        exact Nat.lt_of_lt_of_le (by omega : i < 64) (by decide)
      · refine ⟨zs.take r.toNat ++ [NM.word bs at_ spot way i] ++ zs.drop r.toNat, _, _, rfl, ?_, ?_, pen8.put off8, (k7.trans k8).new fo, ?_⟩
        · rw [upd_same]
          simp [List.map_append, List.map_take, List.map_drop]
        · have hp1 : (zs.take r.toNat ++ [NM.word bs at_ spot way i] ++ zs.drop r.toNat).Perm (NM.word bs at_ spot way i :: zs) := by
            rw [List.append_assoc]
            have := List.perm_middle (a := NM.word bs at_ spot way i) (l₁ := zs.take r.toNat) (l₂ := zs.drop r.toNat)
            rw [List.take_append_drop] at this
            exact this
          refine hp1.trans ?_
          rw [List.range_succ, List.map_append]
          exact (List.Perm.cons _ perm7).trans (List.perm_append_singleton _ _).symm
        · exact off8.put (by obtain ⟨_, _, _, _, _, z⟩ := off8; exact z)
    · rintro σ H7 ⟨zs, v5, v11, rfl, ho7, perm7, pen7, k7, off7⟩
      refine ⟨_, rfl, hQ o zs H7 (pen7.weak (by omega)) (k06.trans k7) ?_ off7 ho7 (by rw [perm7.length_eq, List.length_map, List.length_range]) (fun z hz => ?_) ?_⟩
      · cases q : H o with
        | none => rfl
        | some u =>
          have z := k06.1 _ _ q (Off.of pen6 fo).ne
          rw [fo] at z
          cases z
      · obtain ⟨k, _, rfl⟩ := List.mem_map.mp (perm7.subset hz)
        exact NM.word_ok (by omega) (by omega) hbc hat way
      · exact (perm7.symm.pairwise_iff (fun h => Ne.symm h)).mp (NM.all_unlike hat way n hn)
end
end K16
set_option Elab.async false
set_option linter.all false
set_option maxRecDepth 100000
set_option maxHeartbeats 4000000
/-! sorted(xs), xs a list of data at any depth -/
namespace SRT
open PySem PySem.Spec PyProof.Rows L2
/-- p stands not behind q -/
def leD (p q : V × PyData) : Bool := !PySem.W.dataLt q.2 p.2
/-- the sorted list -/
def srt (xs : List V) (ds : List PyData) : List V := ((xs.zip ds).mergeSort leD).map Prod.fst
theorem len_of {K : PySem.W.Frag} {H : Hp} : ∀ {xs : List V} {ds : List PyData}, DpAll K H xs ds → xs.length = ds.length
  | _, _, .nil => rfl
  | _, _, .cons _ t => congrArg (· + 1) (len_of t)
theorem srt_perm {xs : List V} {ds : List PyData} (h : xs.length = ds.length) : (srt xs ds).Perm xs := by
  unfold srt
  refine ((List.mergeSort_perm _ _).map Prod.fst).trans ?_
  rw [List.map_fst_zip (by omega)]
theorem vals_each : ∀ {xs : List V} {us : List Value} {ds : List PyData}, Vals xs us → xs.length = ds.length → PySem.W.EachIs (fun v (b : V × PyData) => RelV b.1 v) us (xs.zip ds)
  | [], _, [], .nil, _ => .nil
  | x :: xs, _, d :: ds, .cons r rs, h => .cons r (vals_each rs (by simpa using h))
theorem each_vals : ∀ {us : List Value} {bs : List (V × PyData)}, PySem.W.EachIs (fun v (b : V × PyData) => RelV b.1 v) us bs → Vals (bs.map Prod.fst) us
  | _, _, .nil => .nil
  | _, _, .cons r rs => .cons r (each_vals rs)
def rSortedD (K : PySem.W.Frag) : List V → Hp → VK → Prop := fun vs H Q => ∃ (a : Addr) (xs : List V) (ds : List PyData), vs = [V.ref a] ∧ (SqL K H a xs ∨ SqT K H a xs) ∧ DpAll K H xs ds ∧ PySem.W.AllAlike ds ∧ PySem.W.Sortable ds ∧ (∀ d ∈ ds, d.depth ≤ 60) ∧
  ∀ p : Addr, H p = none → Q (.ref p) (upd H p (.lst (srt xs ds)))
/-! sorted of a tuple -/
section
variable {prog : Program} {w : World} {A : Around} {E : Value → Shared → Prop} {s : Shared} {κ : KeyKind}
theorem gather_tup {b : Addr} {us : List Value} {R : List Value → Shared → Prop} (ht : s.heap.IsTuple b us.toArray) (hz : us.length ≤ sizeLine)
    (h : R us { s with heap := (s.heap.push (seqObj "list" #[] 0)).update s.heap.objs.size (Obj.mapSeq (· ++ us.toArray)) }) : wpAny (model prog w) A (collect (.ref b)) R E s := by
  obtain ⟨ob, e1, e2, k, e3⟩ := id ht
  have e4 : (s.heap.push (seqObj "list" #[] 0)).get? b = some ob := Heap.get?_push_of_some _ e1
  have em : (s.heap.push (seqObj "list" #[] 0)).get? s.heap.objs.size = some (seqObj "list" #[] 0) := Heap.get?_push_size _ rfl
  unfold collect
  refine wpAny_bind (wpAny_runValue (codeAny_builtin entry_proto_collect' ?_))
  show wpAny _ _ (do again (.builtin "list.__iadd__" ⟨[← newList [], .ref b], []⟩)) _ _ s
  refine wpAny_bind (wpAny_newList (wpAny_pure ⟨Code.quiet_builtin _ (by decide +kernel), codeAny_builtin entry_list_iadd' ?_⟩))
  show wpAny _ _ (Builtin.List.listExtendWith (.ref s.heap.objs.size) (.ref b) (.ref s.heap.objs.size)) _ _ { s with heap := s.heap.push (seqObj "list" #[] 0) }
  unfold Builtin.List.listExtendWith
  refine wpAny_bind (wpAny_typeOf (T := "tuple") ⟨ob, e4, e2⟩ ?_)
  have et : (Value.type "tuple" == Value.type "tuple") = true := by rfl
  rw [if_pos (by rw [et]; simp)]
  refine wpAny_bind (listItems_at e4 e3 (wpAny_bind (listItems_at em rfl ?_)))
  rw [if_neg (by simp)]
  refine wpAny_bind (listUpdate_at em rfl ?_ (Nat.zero_le _) (by simp only [Array.size_append, List.size_toArray, List.length_nil]; omega))
  refine wpAny_pure ?_
  show wpAny (model prog w) A (load s.heap.objs.size >>= fun o => match o.data with | .seq xs _ => pure xs.toList | _ => unsupported "internal:collect") R E _
  refine wpAny_bind (wpAny_load (get?_update_seq em _) ?_)
  show wpAny _ _ (pure ((#[] : Array Value) ++ us.toArray).toList) R E _
  have e5 : ((#[] : Array Value) ++ us.toArray).toList = us := by simp
  rw [e5]
  exact wpAny_pure h
theorem sorted_tupV {b : Addr} {us : List Value} {R : Value → Shared → Prop} (ht : s.heap.IsTuple b us.toArray) (hz : us.length ≤ sizeLine)
    (S : PySem.W.SortsAt prog w A.in1.in1 { s with heap := PySem.W.sortingHeap (PySem.W.copyHeap s.heap us) (s.heap.objs.size + 1) us } κ us)
    (h : R (.ref (s.heap.objs.size + 1)) { s with heap := sortedAll s.heap us (PySem.W.sortVals κ false us us).toArray }) : wpAny (model prog w) A (call (.builtin "sorted") [.ref b]) R E s := by
  refine Calls.call_function_entry kind_sorted plain_sorted entry_sorted (args_sorted1 _) ?_
  unfold Builtin.«sorted»
  refine wpAny_bind (m := checkCount "sorted" 1 1 _) (wpAny_pure (wpAny_bind (gather_tup ht hz (wpAny_bind (wpAny_newList ?_ hz)))))
  have e : ((s.heap.push (seqObj "list" #[] 0)).update s.heap.objs.size (Obj.mapSeq (· ++ us.toArray))).objs.size = s.heap.objs.size + 1 := (Heap.size_update ..).trans (size_push' ..)
  show wpAny _ _ _ _ _ { s with heap := PySem.W.copyHeap s.heap us }
  rw [e]
  refine wpAny_bind (wpAny_holding (wpAny_call_entry slot_list_sort ⟨_, PySem.W.copyHeap_at s.heap us, rfl⟩ entry_list_sort ?_ (args_list_sort _)))
  exact PySem.W.list_sort_vals (s := { s with heap := PySem.W.copyHeap s.heap us }) (PySem.W.copyHeap_at s.heap us) S hz ⟨_, rfl, wpAny_pure ⟨_, rfl, h⟩⟩
end
section
variable {X : Cx} {pins : List (Addr × Obj)} {σ : L2.St} {H : Hp} {s : Shared}
theorem reads_each (I : Inv X pins σ H s) : ∀ {ds : List PyData} {vs : List V} {us : List Value}, DpAll X.K H vs ds → Vals vs us → PySem.W.EachIs (fun v d => ∃ as, Reads s.heap v d as) us ds
  | [], _, _, h, r => by
    cases h
    cases r
    exact .nil
  | d :: ds, _, _, h, r => by
    cases h with
    | cons h1 h2 =>
      cases r with
      | cons r1 r2 => exact .cons (Dp.reads I d _ _ h1 r1) (reads_each I h2 r2)
theorem cr_sortedD (hu : X.A.units + 64 < cLine) : CallR X (.builtin "sorted") (rSortedD X.K) := by
  intro pins s σ H vs us Q I r h
  obtain ⟨a, xs, ds, rfl, hs, hd, al, so, dp, q⟩ := h
  rw [Vals.ref1 r]
  have ln := len_of hd
  have main : ∀ its : List Value, Vals xs its → xs.length ≤ sizeLine → ∃ κ : KeyKind, PySem.W.SortsAt X.prog X.w X.A.in1.in1 { s with heap := PySem.W.sortingHeap (PySem.W.copyHeap s.heap its) (s.heap.objs.size + 1) its } κ its ∧
      EP X pins σ Q (.ref (s.heap.objs.size + 1)) { s with heap := sortedAll s.heap its (PySem.W.sortVals κ false its its).toArray } := fun its rv hz => by
    have e := reads_each I hd rv
    have e2 : PySem.W.EachIs (fun v d => ∃ as, Reads (PySem.W.sortingHeap (PySem.W.copyHeap s.heap its) (s.heap.objs.size + 1) its) v d as) its ds := e.mono fun v d ⟨as, h⟩ => ⟨as, Reads.keeps (fun b o z => PySem.W.sorting_copy_old z) h⟩
    have S := PySem.W.SortsAt.data (prog := X.prog) (w := X.w) (A := X.A.in1.in1) (s := { s with heap := PySem.W.sortingHeap (PySem.W.copyHeap s.heap its) (s.heap.objs.size + 1) its }) e2 al so (fun d hd => by have := dp d hd; show X.A.units + 1 + 1 + d.depth < cLine; omega)
    refine ⟨_, S, ?_⟩
    have ek : PySem.W.EachIs (fun v (b : V × PyData) => (PySem.W.dataKind (PySem.W.sortingHeap (PySem.W.copyHeap s.heap its) (s.heap.objs.size + 1) its) ds).keyOf v = some (PySem.W.keyToks b.2)) its (xs.zip ds) := by
      have f := PySem.W.each_keys al e2
      have mz : (xs.zip ds).map Prod.snd = ds := List.map_snd_zip (by omega)
      rw [← mz] at f
      have f' := PySem.W.each_of_map (fun b : V × PyData => b.2) f
      rw [mz] at f'
      exact f'
    have eo := PySem.W.sortVals_each (κ := PySem.W.dataKind (PySem.W.sortingHeap (PySem.W.copyHeap s.heap its) (s.heap.objs.size + 1) its) ds) (rev := false) (fun b : V × PyData => PySem.W.keyToks b.2) (vals_each rv ln) ek
    have vo := each_vals eo
    generalize PySem.W.sortVals _ false its its = out at vo ⊢
    obtain ⟨ep, he'⟩ := PyProof.Rows.sortedAll_at s.heap its out.toArray
    have hlen : (srt xs ds).length ≤ sizeLine := by rw [(srt_perm ln).length_eq]; exact hz
    exact ⟨.ref _, upd H (s.heap.objs.size + 1) (.lst (srt xs ds)), I.laid (t' := s.toks) (fun _ _ => PyProof.Rows.sortedAll_old) (Nat.le_succ _) ⟨hlen, out, ep, vo, he'⟩, rfl, q _ (I.hok.fresh (Nat.le_succ _))⟩
  rcases hs with hs | hs
  · obtain ⟨its, rv, hl, hz⟩ := I.list hs
    obtain ⟨κ, S, k⟩ := main its rv hz
    exact PySem.W.sorted_vals hl.isList S (by rw [← rv.length]; exact hz) k
  · obtain ⟨its, rv, hl, hz⟩ := I.tuple hs
    obtain ⟨κ, S, k⟩ := main its rv hz
    exact sorted_tupV hl (by rw [← rv.length]; exact hz) S k
/-- texts -/
def leS (x y : Str) : Prop := ¬ y.cps.toList < x.cps.toList
theorem dpS {H : Hp} : ∀ xs : List Str, DpAll X.K H (xs.map V.str) (xs.map PyData.str)
  | [] => .nil
  | x :: xs => .cons (.str x) (dpS xs)
theorem srtS (xs : List Str) : ∃ ys : List Str, srt (xs.map V.str) (xs.map PyData.str) = ys.map V.str ∧ ys.Perm xs ∧ ys.Pairwise leS := by
  have tot := PySem.W.sortLe_total (listOrd itemOrd) false (fun p : V × PyData => PySem.W.keyToks p.2)
  have pw := PySem.W.sort_pairwise tot ((xs.map V.str).zip (xs.map PyData.str))
  have pm := List.mergeSort_perm ((xs.map V.str).zip (xs.map PyData.str)) leD
  have mem : ∀ p ∈ ((xs.map V.str).zip (xs.map PyData.str)).mergeSort leD, ∃ x, p = (V.str x, PyData.str x) := fun p hp => by
    have := pm.mem_iff.mp hp
    rw [List.zip_map'] at this
    obtain ⟨x, _, e⟩ := List.mem_map.mp this
    exact ⟨x, e.symm⟩
  have pw' : (((xs.map V.str).zip (xs.map PyData.str)).mergeSort leD).Pairwise fun a b => leD a b = true := pw
  unfold srt
  generalize ((xs.map V.str).zip (xs.map PyData.str)).mergeSort leD = L at pm mem pw'
  have : ∃ ys : List Str, L = ys.map fun x => (V.str x, PyData.str x) := by
    clear pm pw'
    induction L with
    | nil => exact ⟨[], rfl⟩
    | cons p L ih =>
      obtain ⟨x, e⟩ := mem p List.mem_cons_self
      obtain ⟨ys, e2⟩ := ih fun q hq => mem q (List.mem_cons_of_mem _ hq)
      exact ⟨x :: ys, by rw [e, e2]; rfl⟩
  obtain ⟨ys, rfl⟩ := this
  refine ⟨ys, ?_, ?_, ?_⟩
  · rw [List.map_map]
    rfl
  · have p2 := pm.map fun p : V × PyData => match p.1 with | .str x => x | _ => ""
    rw [List.map_map, List.zip_map', List.map_map] at p2
    simpa [Function.comp_def] using p2
  · refine (List.pairwise_map.mp pw').imp fun {a b} h => ?_
    have h' : (!PySem.W.dataLt (.str b) (.str a)) = true := h
    rw [PySem.W.dataLt_str] at h'
    simpa [leS] using h'
/-- sorted of texts, a list or a tuple -/
def rSortedTx (K : PySem.W.Frag) : List V → Hp → VK → Prop := fun vs H Q => ∃ (a : Addr) (xs : List Str), vs = [V.ref a] ∧ (SqL K H a (xs.map V.str) ∨ SqT K H a (xs.map V.str)) ∧
  ∀ (ys : List Str) (p : Addr), ys.Perm xs → ys.Pairwise leS → H p = none → Q (.ref p) (upd H p (.lst (ys.map V.str)))
theorem cr_sortedTx (hu : X.A.units + 64 < cLine) : CallR X (.builtin "sorted") (rSortedTx X.K) := by
  intro pins s σ H vs us Q I r h
  obtain ⟨a, xs, rfl, hs, q⟩ := h
  obtain ⟨ys, e, pm, pw⟩ := srtS xs
  refine cr_sortedD hu pins s σ H _ us Q I r ⟨a, _, xs.map PyData.str, rfl, hs, dpS xs, fun d h1 d' h2 => ?_, .inr fun d h1 => ?_, fun d h1 => ?_, fun p fp => ?_⟩
  · obtain ⟨x, _, rfl⟩ := List.mem_map.mp h1
    obtain ⟨y, _, rfl⟩ := List.mem_map.mp h2
    rfl
  · obtain ⟨x, _, rfl⟩ := List.mem_map.mp h1
    refine ⟨fun z => ?_, fun l z => ?_⟩ <;> cases z
  · obtain ⟨x, _, rfl⟩ := List.mem_map.mp h1
    show 0 ≤ 60
    decide
  · rw [e]
    exact q ys p pm pw fp
end
end SRT
set_option Elab.async false
set_option linter.all false
set_option maxRecDepth 100000
set_option maxHeartbeats 4000000
/-! OW: ==, !=, str and repr of instances of an own class by its own __eq__, __str__, __repr__. -/
namespace OW
open PySem PySem.Spec PyProof.Rows L2
/-- what is known of a special def of the class: where it stands, that it keeps its promise -/
structure Spc (P : Program) (w : World) (K : PySem.W.Frag) (mg : Str → Option Value) (base : Heap) (k : Nat) (C : Addr) (m : Str) (sp : Sp) : Prop where
  ex : ∃ (f : Addr) (fd : FuncData) (ps : List Str), PySem.W.findIn K (.ref C) m = some (some (.ref f)) ∧ PySem.W.isFn K (.ref f) = true ∧ FnOk P w K mg base CX0 k f fd ps sp ∧ Binds K fd ps []
section
variable {X : Cx} {pins : List (Addr × Obj)} {σ : L2.St} {H : Hp} {s : Shared} {Q : VK} {k : Nat} {C a b : Addr} {sp : Sp}
/-- a def called at any around with room -/
theorem run_at {f : Addr} {fd : FuncData} {ps : List Str} {A : Around} {us : List Value} {vs : List V} {E' : Value → Shared → Prop} (F : FnOk X.prog X.w X.K X.mg X.base CX0 k f fd ps sp) (hb : Binds X.K fd ps []) (hr : Room k A) (I : Inv X pins σ H s)
    (he : Env0 X.prog X.w X.K X.mg X.base A X.stack s H) (r : Vals vs us) (h : sp vs H Q E0) : wpAny (model X.prog X.w) A (call (.ref f) us) (EP X pins σ Q) E' s := by
  have hl : us.length = ps.length := by rw [← r.length]; exact F.len _ _ _ _ h
  have b := hb s us I.kIn (by rw [List.append_nil]; exact hl)
  rw [List.append_nil] at b
  refine wpAny_call (codeAny_mono (F.run A X.stack s H ⟨us, []⟩ us vs Q E0 hr he b r h) fun r s' hq => ?_)
  cases r with
  | error e => exact False.elim hq
  | ok fl =>
    cases fl with
    | ret u => exact I.after hq
    | next => exact False.elim hq
    | brk => exact False.elim hq
    | cont => exact False.elim hq
theorem same_first : PySem.W.notFirst X.K C (.ref C) = true := by
  unfold PySem.W.notFirst
  rw [beq_self_eq_true, Bool.true_or]
/-- x == y, both of the class -/
def rEqO (C : Addr) (sp : Sp) : R2 := fun x y H Q => ∃ a dx fs b dy gs, x = .ref a ∧ y = .ref b ∧ H a = some (.ins C dx fs) ∧ H b = some (.ins C dy gs) ∧ sp [x, y] H (fun v H' => ∃ z, v = .bl z ∧ Q (.bl z) H') E0
def rNeO (C : Addr) (sp : Sp) : R2 := fun x y H Q => ∃ a dx fs b dy gs, x = .ref a ∧ y = .ref b ∧ H a = some (.ins C dx fs) ∧ H b = some (.ins C dy gs) ∧ sp [x, y] H (fun v H' => ∃ z, v = .bl z ∧ Q (.bl (!z)) H') E0
theorem op_eqO (S : Spc X.prog X.w X.K X.mg X.base k C "__eq__" sp) (hr : Room k X.A) : OpR X (compareOp .Eq) (rEqO C sp) := by
  obtain ⟨f, fd, ps, h1, h2, F, hb⟩ := S.ex
  intro pins s σ H x y v u Q I rx ry h
  obtain ⟨a, dx, fs, b, dy, gs, rfl, rfl, ea, eb, q⟩ := h
  cases (show v = Value.ref a from rx)
  cases (show u = Value.ref b from ry)
  obtain ⟨mA, O, _⟩ := ins_get I.hok ea
  obtain ⟨od, J, _⟩ := O.look
  obtain ⟨mB, O', _⟩ := ins_get I.hok eb
  obtain ⟨od', J', _⟩ := O'.look
  obtain ⟨m, hF⟩ := I.fr
  show wpAny _ _ (richCompare .Eq (.ref a) (.ref b)) _ _ _
  refine PySem.W.cmp_K (op := .Eq) (tb := .ref C) hr.units0 hF I.ok.mod.kin J J'.type same_first h1 h2 ?_
  refine wpAny_mono (run_at (E' := X.xe) (vs := [.ref a, .ref b]) F hb hr I I.env0 (.cons rfl (.cons rfl .nil)) q) (fun w s' z => ?_) fun _ _ x => x
  obtain ⟨z', H', I', rz, z, rfl, qz⟩ := z
  cases (show w = Value.bool z from rz)
  exact ⟨.bl z, H', I', rfl, qz⟩
open Builtin in
theorem op_neO (S : Spc X.prog X.w X.K X.mg X.base (k + 1) C "__eq__" sp) (hn : PySem.W.findIn X.K (.ref C) "__ne__" = some (some (.builtin "object.__ne__"))) (hm : PySem.W.mroIn X.K C (.type "object") = some true) (hr : Room (k + 2) X.A) : OpR X (compareOp .NotEq) (rNeO C sp) := by
  obtain ⟨f, fd, ps, h1, h2, F, hb⟩ := S.ex
  intro pins s σ H x y v u Q I rx ry h
  obtain ⟨a, dx, fs, b, dy, gs, rfl, rfl, ea, eb, q⟩ := h
  cases (show v = Value.ref a from rx)
  cases (show u = Value.ref b from ry)
  obtain ⟨mA, O, _⟩ := ins_get I.hok ea
  obtain ⟨od, J, _⟩ := O.look
  obtain ⟨mB, O', _⟩ := ins_get I.hok eb
  obtain ⟨od', J', _⟩ := O'.look
  have KI := I.kIn
  have callEq : wpAny (model X.prog X.w) X.A.in1 (call (.ref f) [.ref a, .ref b]) (fun v s' => ∃ z, v = .bool z ∧ EP X pins σ Q (.bool (!z)) s') X.xe s := by
    refine wpAny_mono (run_at (E' := X.xe) (vs := [.ref a, .ref b]) F hb hr.in1 I I.env0.in1 (.cons rfl (.cons rfl .nil)) q) (fun w s' z => ?_) fun _ _ x => x
    obtain ⟨z', H', I', rz, z, rfl, qz⟩ := z
    exact ⟨z, rz, .bl (!z), H', I', rfl, qz⟩
  have slot := PySem.F.cmp_object.ne
  have sub : PySem.W.Looks (model X.prog X.w) s.heap (isInstance (.ref a) (.type "object")) true := J.type.andThen (PySem.W.looks_mroIn KI hm)
  have uu : X.A.in1.units < cLine := hr.in1.units0
  have body : wpAny (model X.prog X.w) X.A.in1 (Builtin.«object.__ne__» ⟨[.ref a, .ref b], []⟩) (fun fin s' => match fin with | .done f => (match f with | .ret v => EP X pins σ Q v s' ∧ ∃ z, v = .bool z | _ => False) | .again _ => False) X.xe s := by
    unfold Builtin.«object.__ne__»
    repeat (first
      | with_reducible refine wpAny_cRoomFor uu ?_
      | (refine wpAny_bind (m := callSpecialIfBound? (.ref a) (Str.ofString "__eq__") [.ref b]) (PySem.W.ifBound_K KI J h1 h2 (wpAny_mono callEq (fun r s' hr => by
          obtain ⟨z, rfl, hq⟩ := hr
          repeat (first | exact ⟨hq, _, rfl⟩ | exact wpAny_pure ⟨hq, _, rfl⟩ | (refine wpAny_bind (m := truthy (.bool _)) (wpAny_truthy_bool ?_)) | wp_step)) fun _ _ e => e)))
      | wp_step)
  have callNe : wpAny (model X.prog X.w) X.A (call (.builtin "object.__ne__") [.ref a, .ref b]) (fun v s' => EP X pins σ Q v s' ∧ ∃ z, v = .bool z) X.xe s := by
    refine wpAny_call (codeAny_call_builtin slot.plain PySem.F.cmpEntry_ne (PySem.W.check_slot PySem.F.cmpKind_ne PySem.F.cmpSplit_ne sub (PySem.F.cmpArgs_ne _ _) ?_))
    refine wpAny_mono body (fun fin s' z => ?_) fun _ _ x => x
    cases fin with
    | done fl =>
      cases fl with
      | ret v => exact z
      | next => exact z.elim
      | brk => exact z.elim
      | cont => exact z.elim
    | again c => exact z.elim
  show wpAny _ _ (richCompare .NotEq (.ref a) (.ref b)) _ _ _
  unfold richCompare
  simp only [oneThing_ref]
  refine wpAny_holding (wpAny_bind (wpAny_cRoomFor hr.units0 ?_))
  rw [cmpInfo_NotEq]
  dsimp only
  refine wpAny_bind (J.type.here (wpAny_bind (J'.type.here ?_)))
  rw [show (Value.ref C != Value.ref C) = false from by simp]
  simp only [Bool.false_eq_true, if_false]
  refine wpAny_bind (wpAny_pure ?_)
  simp only [Bool.false_eq_true, if_false, tryCompare]
  have fin : wpAny (model X.prog X.w) X.A (call (.builtin "object.__ne__") ([.ref a] ++ [.ref b]) >>= fun v => pure (some v)) (fun r s' => ∃ v, r = some v ∧ EP X pins σ Q v s' ∧ ∃ z, v = .bool z) X.xe s :=
    wpAny_bind (wpAny_mono callNe (fun v s' h' => wpAny_pure ⟨v, rfl, h'⟩) fun _ _ h' => h')
  have bound : wpAny (model X.prog X.w) X.A (callSpecialIfBound? (.ref a) "__ne__" [.ref b]) (fun r s' => ∃ v, r = some v ∧ EP X pins σ Q v s' ∧ ∃ z, v = .bool z) X.xe s := by
    simp only [callSpecialIfBound?, bindSpecialIfBound?]
    refine wpAny_holding (wpAny_bind (wpAny_bind (wpAny_bind (J.type.here ((PySem.W.looks_findIn KI hn).here ?_)))))
    simp only [slot.bind]
    refine wpAny_bind (wpAny_askSetting (wpAny_ite ?_))
    split
    · exact wpAny_bind (wpAny_pure (wpAny_pure fin))
    · exact wpAny_tryCatch (wpAny_bind (wpAny_pure (wpAny_pure fin)))
  refine wpAny_bind (wpAny_bind (wpAny_mono bound (fun r s' z => ?_) fun _ _ h => h))
  obtain ⟨v, rfl, hq, z, rfl⟩ := z
  first | exact wpAny_pure (wpAny_pure hq) | exact wpAny_pure hq
/-- str(x), repr(x) -/
def rStrO (C : Addr) (sp : Sp) : List V → Hp → VK → Prop := fun xs H Q => ∃ a dx fs, xs = [.ref a] ∧ H a = some (.ins C dx fs) ∧ sp [.ref a] H (fun v H' => ∃ z, v = .str z ∧ Q (.str z) H') E0
theorem call_strO (S : Spc X.prog X.w X.K X.mg X.base k C "__str__" sp) (hr : Room (k + 2) X.A) : CallR X (.type "str") (rStrO C sp) := by
  obtain ⟨f, fd, ps, h1, h2, F, hb⟩ := S.ex
  intro pins s σ H xs us Q I r h
  obtain ⟨a, dx, fs, rfl, ea, q⟩ := h
  obtain ⟨u, rfl, ru⟩ := vals1 r
  cases (show u = Value.ref a from ru)
  obtain ⟨mA, O, _⟩ := ins_get I.hok ea
  obtain ⟨od, J, _⟩ := O.look
  refine PySem.W.kso_call hr.in1.in1.units0 I.kIn J h1 h2 ?_
  refine wpAny_mono (run_at (E' := X.xe) (vs := [.ref a]) F hb hr.in1.in1 I I.env0.in1.in1 (.cons rfl .nil) q) (fun w s' z => ?_) fun _ _ x => x
  obtain ⟨z', H', I', rz, z, rfl, qz⟩ := z
  obtain ⟨t, rfl⟩ := rz
  exact ⟨.str z, H', I', ⟨t, rfl⟩, qz⟩
theorem call_reprO (S : Spc X.prog X.w X.K X.mg X.base k C "__repr__" sp) (hr : Room (k + 1) X.A) : CallR X (.builtin "repr") (rStrO C sp) := by
  obtain ⟨f, fd, ps, h1, h2, F, hb⟩ := S.ex
  intro pins s σ H xs us Q I r h
  obtain ⟨a, dx, fs, rfl, ea, q⟩ := h
  obtain ⟨u, rfl, ru⟩ := vals1 r
  cases (show u = Value.ref a from ru)
  obtain ⟨mA, O, _⟩ := ins_get I.hok ea
  obtain ⟨od, J, _⟩ := O.look
  obtain ⟨m, hF⟩ := I.fr
  refine PySem.W.repr_K hr.in1.units0 hF I.ok.mod.kin J h1 h2 ?_
  refine wpAny_mono (run_at (E' := X.xe) (vs := [.ref a]) F hb hr.in1 I I.env0.in1 (.cons rfl .nil) q) (fun w s' z => ?_) fun _ _ x => x
  obtain ⟨z', H', I', rz, z, rfl, qz⟩ := z
  obtain ⟨t, rfl⟩ := rz
  exact ⟨.str z, H', I', ⟨t, rfl⟩, qz⟩
end
end OW
set_option Elab.async false
set_option linter.all false
set_option maxRecDepth 100000
set_option maxHeartbeats 4000000
/-! GL: promises of defs that are asked only where no repr is under way (A.guards = some []); what such a def may do more: repr of lists and tuples. -/
namespace GL
open PySem PySem.Spec PyProof.Rows L2
/-- a def's promise, where no repr is under way -/
structure FnG (P : Program) (w : World) (K : PySem.W.Frag) (mg : Str → Option Value) (base : Heap) (k : Nat) (f : Addr) (fd : FuncData) (ps : List Str) (sp : Sp) : Prop where
  len : ∀ vs H Q E, sp vs H Q E → vs.length = ps.length
  run : ∀ (A : Around) (outer : List Env) (s : Shared) (H : Hp) (args : Args) (us : List Value) (vs : List V) (Q : VK) (E : XK), A.guards = some [] → Room k A → Env0 P w K mg base A outer s H → BindsTo s fd args (ps.zip us) → Vals vs us → sp vs H Q E →
    codeAny (model P w) A (.call (.ref f) args) (CR CX0 outer P w H s Q E) s
section
variable {P : Program} {w : World} {K : PySem.W.Frag} {mg : Str → Option Value} {base : Heap} {k : Nat} {f : Addr} {fd : FuncData} {ps : List Str} {sp : Sp}
theorem FnG.of (F : FnOk P w K mg base CX0 k f fd ps sp) : FnG P w K mg base k f fd ps sp := ⟨F.len, fun A outer s H args us vs Q E _ => F.run A outer s H args us vs Q E⟩
/-- by its body -/
theorem okG {x qual : Str} {params : Arguments} {body : List Stmt} {scope : Scope} {dvs : List V} {kws : List (Str × V)} {N : List Str} (F : FunD K x qual params body scope dvs kws f fd) (S : FnScope N ps scope) (len : ∀ vs H Q E, sp vs H Q E → vs.length = ps.length)
    (hbody : ∀ (cdv : Value) (A : Around) (outer : List Env) (s : Shared) (H : Hp) (vs : List V) (Q : VK) (E : XK), A.guards = some [] → Room k (A.deeper (envOfC qual scope s.heap.objs.size f cdv)) → sp vs H Q E →
      ∃ t, PSs (cxOf CX0 P w K mg base N qual scope f cdv A outer s H E) body t ∧ t { nx := fun _ H' => Q .non H', rt := Q } (start N vs) H) : FnG P w K mg base (k + 1) f fd ps sp := by
  refine ⟨len, fun A outer s H args us vs Q E hg hr e0 hb r hsp => ?_⟩
  obtain ⟨oc, od, dV, kV, doc, pm, an, cdv, ct, osl, hfd, lk, hcd, _, _⟩ := F.ex
  subst hfd
  obtain ⟨t, ht, hq⟩ := hbody cdv A outer s H vs Q E hg (hr.deeper _) hsp
  have keep : ∀ b o, base.get? b = some o → s.heap.get? b = some o := fun b o e => (e0.bs b o e).1
  have KX : K.In s.heap := e0.mod.kin.keeps keep
  refine codeAny_call_function hr.depth (KX _ _ lk) rfl S.co S.gen rfl (PySem.W.codeRec_of KX hcd) (hb _ _ _ _ (wpAny_newFunctionEnv_cells S.kind (fun y hy => ?_) fun env he s1 x => ?_))
  · exact (S.par y.1 (List.of_mem_zip hy).1).imp id fun q => ⟨q, PySem.W.cellsFrom_some _ _ _ (.inl q)⟩
  · subst he
    refine ⟨(e0.mod.nolimit.keeps keep).keeps x.toInCall.keep, codeAny_func (wpAny_mono (ht.run [] s1 (start N vs) H _ (inv_start S hr.hd e0 (len _ _ _ _ hsp) r x) hq) (fun fl s' hs => ?_) fun e s' hs => hs)⟩
    match fl, hs with
    | .ret u, ⟨v, σ', H', J, rv, q⟩ => exact ⟨v, H', J.os, J.bare, J.base, J.hok, rv, q⟩
    | .next, ⟨σ', H', J, q⟩ => exact ⟨.non, H', J.os, J.bare, J.base, J.hok, rfl, q⟩
    | .brk, ⟨_, _, _, q⟩ => exact q.elim
    | .cont, ⟨_, _, _, q⟩ => exact q.elim
end
/-- the package of a def of this kind -/
structure CalG (P : Program) (w : World) (K : PySem.W.Frag) (mg : Str → Option Value) (base : Heap) (k : Nat) (x : Str) (sp : Sp) (dvs : List V) : Prop where
  ex : ∃ (f : Addr) (fd : FuncData) (ps : List Str) (ds : List Value), FnG P w K mg base k f fd ps sp ∧ mg x = some (.ref f) ∧ PySem.W.keepIn K (.ref f) = true ∧ Binds K fd ps ds ∧ Vals dvs ds
section
variable {X : Cx} {k j : Nat} {x : Str} {sp : Sp} {dvs : List V} {e : Expr} {es : List Expr} {t : TA} {p pos : Pos}
theorem pe_cG (c : CalG X.prog X.w X.K X.mg X.base k x sp dvs) (hgd : X.A.guards = some []) (hr : Room j X.A) (hk : k ≤ j) (hg : Gl X x) (ha : PA X (e :: es) t)
    (hdb : (x == ("__debug__" : Str)) = false := by decide) (he : starEach (e :: es) X.env = (false, eval e X.env) :: starEach es X.env := by rfl) (hpl : (backTo pos (starEach es X.env)).any (·.1) = false := by rfl) :
    PE X (.Call (.Name x p) (e :: es) [] pos) (tCall sp dvs E0 t) := by
  obtain ⟨f, fd, ps, ds, F, hm, kp, b, d⟩ := c.ex
  refine ⟨fun pins s σ H Q I h => wpAny_Call_Name_kw (ld_glob I hg hm (PySem.W.callWith_K (h₀ := X.base) I.ok.mod.kin kp (thn (ha.run pos pins s σ H _ I h) fun us s1 ⟨vs, H1, I1, r, q⟩ => ⟨I1.kIn, ?_⟩) he hpl) hdb)⟩
  have r2 := r.append d
  refine wpAny_call (codeAny_mono (F.run X.A X.stack s1 H1 ⟨us, []⟩ (us ++ ds) (vs ++ dvs) Q E0 hgd (hr.mono hk) I1.env0 (b s1 us I1.kIn (r2.length.symm.trans (F.len _ _ _ _ q))) r2 q) fun r s' hq => ?_)
  match r, hq with
  | .error _, hq => exact hq.elim
  | .ok (.ret u), hq => exact I1.after hq
  | .ok .next, hq => exact hq.elim
  | .ok .brk, hq => exact hq.elim
  | .ok .cont, hq => exact hq.elim
/-- repr of what is flat, of lists and tuples -/
def rRepr (K : PySem.W.Frag) : List V → Hp → VK → Prop := fun xs H Q => ∃ (y : V) (d : PyData), xs = [y] ∧ Dp K H y d ∧ d.showable = true ∧ d.hasDict = false ∧ d.depth ≤ 60 ∧ d.shown.length ≤ sizeLine ∧ Q (.str d.shown) H
theorem call_reprD (hgd : X.A.guards = some []) (hu : X.A.units + 64 < cLine) : CallR X (.builtin "repr") (rRepr X.K) := by
  intro pins s σ H xs us Q I r h
  obtain ⟨y, d, rfl, hd, hs, hn, hdp, hsz, q⟩ := h
  obtain ⟨u, rfl, ru⟩ := r.one
  obtain ⟨as, rd⟩ := Dp.reads I d y u hd ru
  have fin : ∀ h' tk t, (∀ b o, s.heap.get? b = some o → h'.get? b = some o) → EP X pins σ Q (.str d.shown t) { s with heap := h', toks := tk } := fun h' tk t hk => ⟨.str d.shown, H, I.kept hk, ⟨t, rfl⟩, q⟩
  cases hd with
  | non => cases ru; exact PySem.P.repr_of_none (fin s.heap _ _ fun _ _ e => e)
  | bl b => cases ru; exact PySem.P.repr_of_bool (fin s.heap _ _ fun _ _ e => e)
  | int i =>
    obtain ⟨t, rfl⟩ := ru
    exact PySem.P.repr_of_int (of_decide_eq_true hs) (fin s.heap _ _ fun _ _ e => e)
  | str z =>
    obtain ⟨t, rfl⟩ := ru
    exact PySem.P.repr_of_str (fin s.heap _ _ fun _ _ e => e) hsz
  | lst _ _ =>
    cases ru
    exact repr_of_reads' rd hs (fun z => absurd z (by rw [hn]; decide)) hgd (by omega) (fun _ _ e => e) (fun h' u tk hk => fin h' tk u hk) hsz
  | tup _ _ =>
    cases ru
    exact repr_of_reads' rd hs (fun z => absurd z (by rw [hn]; decide)) hgd (by omega) (fun _ _ e => e) (fun h' u tk hk => fin h' tk u hk) hsz
end
end GL
set_option Elab.async false
set_option linter.all false
set_option maxRecDepth 100000
set_option maxHeartbeats 4000000
/-! RPO: repr of lists, tuples and dicts that hold own instances, of any depth. -/
namespace RPO
open PySem PySem.Spec PyProof.Rows L2
open Builtin Builtin.List
/-- the guards stand on these alone -/
def Gd (g : List Code) (outs : List Addr) : Prop := ∀ id v rest kw, Code.builtin id ⟨v :: rest, kw⟩ ∈ g → ∃ a ∈ outs, v = .ref a
theorem Gd.nil : Gd [] [] := fun _ _ _ _ h => nomatch h
theorem Gd.cons {g : List Code} {outs : List Addr} {id : String} {a : Addr} {rest : List Value} {kw : List (Str × Value)} (h : Gd g outs) : Gd (.builtin id ⟨.ref a :: rest, kw⟩ :: g) (a :: outs) := by
  intro id' v rest' kw' hm
  rcases List.mem_cons.mp hm with e | hm
  · cases e
    exact ⟨a, List.mem_cons_self, rfl⟩
  · obtain ⟨b, hb, e⟩ := h _ _ _ _ hm
    exact ⟨b, List.mem_cons_of_mem _ hb, e⟩
theorem Gd.clear {g : List Code} {outs : List Addr} {a : Addr} (h : Gd g outs) (n : a ∉ outs) : Clear g a := fun id v rest kw hm e => by
  obtain ⟨b, hb, e2⟩ := h id v rest kw hm
  rw [e] at e2
  cases e2
  exact n hb
/-- all but these are as they were -/
def Ex (outs : List Addr) (H H' : Hp) : Prop := ∀ a o, H a = some o → a ∉ outs → H' a = some o
theorem Ex.refl (outs : List Addr) (H : Hp) : Ex outs H H := fun _ _ h _ => h
theorem Ex.ext {outs : List Addr} {H H1 H2 : Hp} (x : Ex outs H H1) (e : Ext H1 H2) : Ex outs H H2 := fun a o h n => e a o (x a o h n)
theorem Ex.more {outs : List Addr} {H H1 : Hp} {a : Addr} (x : Ex outs H H1) : Ex (a :: outs) H H1 := fun b o h n => x b o h fun z => n (List.mem_cons_of_mem _ z)
section
variable {X : Cx}
/-- what a thing shows as, within containers at outs -/
def RpU (X : Cx) (n : Nat) (outs : List Addr) (H0 : Hp) (v : V) (t : Str) : Prop := ∀ (A : Around) (g : List Code) (pins : List (Addr × Obj)) (s : Shared) (σ : L2.St) (H : Hp) (u : Value) (bs : Nat),
  Ex outs H0 H → Sub X n A → A.guards = some g → Gd g outs → Inv X pins σ H s → RelV v u → bs + t.length ≤ sizeLine →
  wpAny (model X.prog X.w) A (pyReprUnder bs u) (fun r s' => r = t ∧ ∃ H', Inv X pins σ H' s' ∧ Ext H H') X.xe s
theorem RpU.mono {n m : Nat} {outs : List Addr} {H0 : Hp} {v : V} {t : Str} (h : RpU X n outs H0 v t) (nm : n ≤ m) : RpU X m outs H0 v t := fun A g pins s σ H u bs x sb => h A g pins s σ H u bs x (sb.mono nm)
theorem RpU.non {n : Nat} {outs : List Addr} {H0 : Hp} : RpU X n outs H0 .non "None" := fun A g pins s σ H u bs x sb hg gd I r hb => by
  cases r
  exact ReprIs.none bs hb _ _ _ _ fun tk => ⟨rfl, H, I.tok tk, Ext.rfl'⟩
theorem RpU.bl {n : Nat} {outs : List Addr} {H0 : Hp} {b : Bool} : RpU X n outs H0 (.bl b) (if b then "True" else "False") := fun A g pins s σ H u bs x sb hg gd I r hb => by
  cases r
  exact ReprIs.bool b bs hb _ _ _ _ fun tk => ⟨rfl, H, I.tok tk, Ext.rfl'⟩
theorem RpU.int {n : Nat} {outs : List Addr} {H0 : Hp} {i : Int} (h : i.natAbs.log2 < 1920) : RpU X n outs H0 (.int i) (toString i) := fun A g pins s σ H u bs x sb hg gd I r hb => by
  obtain ⟨t, rfl⟩ := r
  exact ReprIs.int t h bs hb _ _ _ _ fun tk => ⟨rfl, H, I.tok tk, Ext.rfl'⟩
theorem RpU.str {n : Nat} {outs : List Addr} {H0 : Hp} {z : Str} : RpU X n outs H0 (.str z) (reprText z) := fun A g pins s σ H u bs x sb hg gd I r hb => by
  obtain ⟨t, rfl⟩ := r
  exact ReprIs.str z t (by omega) bs hb _ _ _ _ fun tk => ⟨rfl, H, I.tok tk, Ext.rfl'⟩
/-- an own instance, by its own __repr__ -/
theorem RpU.own {k n : Nat} {outs : List Addr} {H0 : Hp} {a C dx : Addr} {fs : List (Str × V)} {sp : Sp} {t : Str} (S : OW.Spc X.prog X.w X.K X.mg X.base k C "__repr__" sp) (ha : H0 a = some (.ins C dx fs)) (na : a ∉ outs)
    (hsp : ∀ H, H a = some (.ins C dx fs) → sp [.ref a] H (fun v H' => v = .str t ∧ Ext H H') E0) (kn : k ≤ n) : RpU X n outs H0 (.ref a) t := fun A g pins s σ H u bs x sb hg gd I r hb => by
  obtain ⟨f, fd, ps, h1, h2, F, hbi⟩ := S.ex
  cases (show u = Value.ref a from r)
  have ea := x a _ ha na
  obtain ⟨mA, O, _⟩ := ins_get I.hok ea
  obtain ⟨od, J, _⟩ := O.look
  have KI := I.kIn
  have e0 : Env0 X.prog X.w X.K X.mg X.base A X.stack s H := by
    have z := I.env0
    exact ⟨sb.fr.trans z.frames, z.mod, z.bs, z.bsz, z.funs, z.frf, z.hok, z.bare⟩
  refine wpAny_pyReprUnder_ref (by omega) ?_
  unfold pyReprObjUnder pyReprObjBy
  refine wpAny_bind (wpAny_cRoomFor sb.room.units0 ?_)
  refine wpAny_bind (wpAny_bind (J.type.here ((PySem.W.looks_findIn KI h1).here ?_)))
  show wpAny _ _ (if (some (Value.ref f)).isNone = true then _ else _) _ _ _
  rw [if_neg (by simp)]
  have called : wpAny (model X.prog X.w) A (call (.ref f) [.ref a]) (fun v s' => ∃ tk, v = .str t tk ∧ ∃ H', Inv X pins σ H' s' ∧ Ext H H') X.xe s := by
    refine wpAny_mono (OW.run_at (E' := X.xe) (vs := [.ref a]) F hbi (sb.room.mono kn) I e0 (.cons rfl .nil) (hsp H ea)) (fun w s' z => ?_) fun _ _ x => x
    obtain ⟨z', H', I', rz, z, e⟩ := z
    rw [z] at rz
    obtain ⟨tk, rfl⟩ := rz
    exact ⟨tk, rfl, H', I', e⟩
  refine wpAny_bind (m := callSpecialIfBoundBy? _ (.ref a) (Str.ofString "__repr__")) ?_
  have fin : wpAny (model X.prog X.w) A (callSpecialIfBoundBy? (fun g first => match reprUnder? g, first with | some twin, [self] => call twin [self, rawInt bs] | _, _ => call g (first ++ [])) (.ref a) (Str.ofString "__repr__"))
      (fun r s' => ∃ tk, r = some (.str t tk) ∧ ∃ H', Inv X pins σ H' s' ∧ Ext H H') X.xe s := by
    simp only [callSpecialIfBoundBy?, bindSpecialIfBound?]
    refine wpAny_holding (wpAny_bind (wpAny_bind (wpAny_bind (J.type.here ((PySem.W.looks_findIn KI h1).here ?_)))))
    refine wpAny_bind (wpAny_askSetting (wpAny_ite ?_))
    have ends : wpAny (model X.prog X.w) A (call (.ref f) ([.ref a] ++ []) >>= fun v => pure (some v)) (fun r s' => ∃ tk, r = some (.str t tk) ∧ ∃ H', Inv X pins σ H' s' ∧ Ext H H') X.xe s :=
      wpAny_bind (wpAny_mono called (fun v s' h' => wpAny_pure (by obtain ⟨tk, rfl, h⟩ := h'; exact ⟨tk, rfl, h⟩)) fun _ _ h' => h')
    split
    · exact wpAny_bind ((PySem.W.bind_fn KI _ (beq_iff_eq.mp h2)).here (wpAny_pure (by exact ends)))
    · exact wpAny_tryCatch (wpAny_bind ((PySem.W.bind_fn KI _ (beq_iff_eq.mp h2)).here (wpAny_pure (by exact ends))))
  refine wpAny_mono fin (fun r s' h' => ?_) fun _ _ x => x
  obtain ⟨tk, rfl, h⟩ := h'
  exact wpAny_bind (wpAny_isInstance (T := "str") (b := true) rfl isSubtype_str_str (wpAny_pure ⟨_, _, rfl, rfl, h⟩))
end
end RPO
set_option Elab.async false
set_option linter.all false
set_option maxRecDepth 100000
set_option maxHeartbeats 4000000
/-! RPL: the containers of RPO: lists, tuples, dicts. -/
namespace RPO
open PySem PySem.Spec PyProof.Rows L2
open Builtin Builtin.List
theorem strs_of : ∀ {ts : List Str} {us : List Value}, Vals (ts.map V.str) us → ∃ done : List (Str × Tok), us = strValues done ∧ done.map (·.1) = ts
  | [], _, .nil => ⟨[], rfl, rfl⟩
  | t :: ts, _, .cons r h => by
    obtain ⟨tk, rfl⟩ := r
    obtain ⟨done, rfl, e⟩ := strs_of h
    exact ⟨(t, tk) :: done, rfl, by simp [e]⟩
theorem sub_loop {X : Cx} {n : Nat} {A : Around} {args : Args} (h : Sub X (n + 1) A) : Sub X n (A.under (.builtin "list.__repr__.loop" args)) := by
  have hd : (A.under (.builtin "list.__repr__.loop" args)).depth ≤ A.depth + 1 := by
    first | exact Nat.le_refl _ | simp [Around.under, Code.weight, Code.isCreation, Code.isGuard, Code.isCaller, Code.frames, Code.isFrame, guardIds]
  have hu := units_under_list_loop A args
  have hf : (A.under (.builtin "list.__repr__.loop" args)).frames = A.frames := by
    have e : (Code.builtin "list.__repr__.loop" args).envs = [] := by first | rfl | simp [Code.envs, Code.isFrame]
    have e2 : (A.under (.builtin "list.__repr__.loop" args)).frames = pushEnvs (Code.envs (.builtin "list.__repr__.loop" args)) A.frames := by first | rfl | simp [Around.under]
    rw [e2, e]
    cases A.frames <;> first | rfl | simp [pushEnvs]
  obtain ⟨⟨h1, h2, h3⟩, h4⟩ := h
  exact ⟨⟨h1, by omega, by rw [hu]; omega⟩, hf.trans h4⟩
section
variable {X : Cx} {n : Nat} {outs : List Addr} {H0 : Hp} {a : Addr} {xs : List V} {ts : List Str}
theorem list_loop {A : Around} {g : List Code} {P : Addr} {bs : Nat} {pins : List (Addr × Obj)} {σ : L2.St} {Hb : Hp} {R : Result → Shared → Prop} (sb : Sub X (n + 1) A) (hg : A.guards = some g) (gd : Gd g outs) (ha : Hb a = some (.lst xs)) (hP : Hb P = none) (xe : Ex outs H0 Hb) (hlen : ts.length = xs.length)
    (hT : ∀ (i : Nat) (x : V), xs[i]? = some x → ∃ t, ts[i]? = some t ∧ RpU X n (a :: outs) H0 x t) (hsz : bs + (listText ts).length ≤ sizeLine)
    (hE : ∀ e s', X.xe e s' → R (.error e) s')
    (fin : ∀ (s' : Shared) (H' : Hp) (u : Tok), Inv X pins σ H' s' → Ext Hb H' → R (.ok (.ret (.str (listText ts) u))) s') :
    ∀ (k i : Nat) (s : Shared) (H : Hp), xs.length - i = k → i ≤ xs.length → Inv X pins σ H s → Ext Hb H → H P = some (.lst ((ts.take i).map V.str)) →
      codeAny (model X.prog X.w) A (.builtin "list.__repr__.loop" ⟨[.ref a, rawInt i, .ref P, rawInt ((bs + piled (ts.take i) : Nat) : Int)], []⟩) R s := by
  have hX : (listText ts).length = (textFrom 0 "[" ts).length + 1 := by
    show (textFrom 0 "[" ts ++ "]").length = _
    rw [strLen_append]; rfl
  have hL := textFrom_len ts 0 "["
  have each : ∀ t ∈ ts, t.length ≤ sizeLine := fun t ht => by
    have := hL.2.1 t ht
    omega
  have many : ts.length ≤ sizeLine := by
    have h1 := hL.1
    rw [if_neg (Nat.lt_irrefl 0)] at h1
    omega
  have hp3 := piled_le_listText ts
  have uu : A.in1.units < cLine := by have := sb.room.un; show A.units + 1 < cLine; omega
  intro k
  induction k with
  | zero =>
    intro i s H hk hi I eb hPi
    have hin : i = ts.length := by omega
    obtain ⟨_, its, m, rv, _, e⟩ := I.lstM (eb _ _ ha)
    obtain ⟨_, ups, c, rp, _, ep⟩ := I.lstM hPi
    have nits : its[i]? = none := by
      have := rv.length
      exact List.getElem?_eq_none (by omega)
    refine codeAny_builtin F.entry_list_repr_loop ?_
    show wpAny _ _ («list.__repr__.loop» ⟨[.ref a, .int i 0, .ref P, .int ((bs + piled (ts.take i) : Nat) : Int) 0], []⟩) _ _ s
    rw [repr_loop_tree]
    refine wpAny_bind (wpAny_listItems e rfl ?_)
    have hnone : its.toArray[((i : Int)).toNat]? = none := by simpa using nits
    simp only [hnone]
    unfold reprEnd
    refine wpAny_bind (wpAny_listItems ep rfl ?_)
    obtain ⟨done, rfl, ed⟩ := strs_of rp
    rw [show (strValues done).toArray.toList = strValues done from by simp, repr_fold]
    refine wpAny_bind (wpAny_pure ?_)
    have hall : done.map (·.1) = ts := by rw [ed, hin, List.take_length]
    rw [hall]
    refine wpAny_bind (wpAny_mkStr (wpAny_pure ?_) (by show (listText ts).length ≤ sizeLine; omega))
    exact fin _ H _ (I.tok _) eb
  | succ k ih =>
    intro i s H hk hi I eb hPi
    have hlt : i < xs.length := by omega
    obtain ⟨t, ht, hrep⟩ := hT i xs[i] (List.getElem?_eq_getElem hlt)
    obtain ⟨_, its, m, rv, lv, e⟩ := I.lstM (eb _ _ ha)
    have hlt2 : i < its.length := by omega
    have rvi : RelV xs[i] its[i] := by
      obtain ⟨u, e1, e2⟩ := rv.get (List.getElem?_eq_getElem hlt)
      rw [List.getElem?_eq_getElem hlt2] at e1
      cases e1
      exact e2
    have hp1 := piled_take_succ ht
    have hp2 := piled_take_le ts (i + 1)
    refine codeAny_builtin F.entry_list_repr_loop ?_
    show wpAny _ _ («list.__repr__.loop» ⟨[.ref a, .int i 0, .ref P, .int ((bs + piled (ts.take i) : Nat) : Int) 0], []⟩) _ _ s
    rw [repr_loop_tree]
    refine wpAny_bind (wpAny_listItems e rfl ?_)
    have hsome : its.toArray[((i : Int)).toNat]? = some its[i] := by simp [hlt2]
    simp only [hsome]
    rw [Int.toNat_natCast]
    refine wpAny_bind (wpAny_holding (wpAny_mono (hrep _ _ pins s σ H its[i] (bs + piled (ts.take i) + 1) ((xe.ext eb).more) (sub_loop sb) (guards_under_guard (isGuard_list_loop _) hg) gd.cons I rvi (by omega)) (fun r s2 h2 => ?_) fun e' s' h' => hE e' s' h'))
    obtain ⟨rfl, H2, I2, e2⟩ := h2
    refine wpAny_bind (wpAny_mkStr ?_ (each r (List.mem_of_getElem? ht)))
    have hP2 := e2 _ _ hPi
    obtain ⟨_, ups, c, rp, _, ep⟩ := I2.lstM hP2
    refine wpAny_bind ?_
    show wpAny _ _ (updateSeq P _) _ _ _
    have lp := rp.length
    rw [List.length_map, List.length_take] at lp
    refine wpAny_updateSeq ep rfl (wpAny_pure ⟨F.quiet_list_repr_loop _, ?_⟩) (by rw [List.size_toArray]; omega) (by rw [Array.size_push, List.size_toArray]; omega)
    have e1' : ((i : Int) + 1) = ((i + 1 : Nat) : Int) := by omega
    have e2' : bs + piled (ts.take i) + (r.length + 2) = bs + piled (ts.take (i + 1)) := by omega
    rw [e1', e2']
    have I3 := I2.lset (its' := ups ++ [.str r s2.toks]) (f := fun x => x.push (.str r s2.toks)) (t' := s2.toks + 1) hP2 ep (by simp) (ys := (ts.take (i + 1)).map V.str) (by
      rw [List.take_add_one, ht, List.map_append]
      exact rp.append (.cons ⟨_, rfl⟩ .nil)) (by rw [List.length_map, List.length_take]; omega)
    exact ih (i + 1) _ _ (by omega) hlt I3 (fun b o hb => by
      rw [upd_ne (fun z => by rw [z, hP] at hb; cases hb)]
      exact e2 _ _ (eb _ _ hb)) upd_same
end
end RPO
set_option Elab.async false
set_option linter.all false
set_option maxRecDepth 100000
set_option maxHeartbeats 4000000
namespace RPO
open PySem PySem.Spec PyProof.Rows L2
open Builtin Builtin.List
/-- things one by one -/
inductive RpAll (X : Cx) (n : Nat) (outs : List Addr) (H0 : Hp) : List V → List Str → Prop
  | nil : RpAll X n outs H0 [] []
  | cons {v : V} {t : Str} {vs : List V} {ts : List Str} : RpU X n outs H0 v t → RpAll X n outs H0 vs ts → RpAll X n outs H0 (v :: vs) (t :: ts)
theorem RpAll.len {X : Cx} {n : Nat} {outs : List Addr} {H0 : Hp} : ∀ {vs : List V} {ts : List Str}, RpAll X n outs H0 vs ts → ts.length = vs.length
  | _, _, .nil => rfl
  | _, _, .cons _ h => by rw [List.length_cons, List.length_cons, h.len]
theorem RpAll.get {X : Cx} {n : Nat} {outs : List Addr} {H0 : Hp} : ∀ {vs : List V} {ts : List Str}, RpAll X n outs H0 vs ts → ∀ (i : Nat) (x : V), vs[i]? = some x → ∃ t, ts[i]? = some t ∧ RpU X n outs H0 x t
  | _, _, .nil, _, _, h => by simp at h
  | _, _, .cons r h, 0, _, e => by
    simp at e
    subst e
    exact ⟨_, rfl, r⟩
  | _, _, .cons r h, i + 1, x, e => by
    obtain ⟨t, e1, e2⟩ := h.get i x (by simpa using e)
    exact ⟨t, by simpa using e1, e2⟩
section
variable {X : Cx} {n : Nat} {outs : List Addr} {H0 : Hp} {a : Addr} {xs : List V} {ts : List Str}
/-- what is asked of the end of a text -/
def Told (X : Cx) (pins : List (Addr × Obj)) (σ : L2.St) (H : Hp) (t : Str) (v : Value) (s' : Shared) : Prop := ∃ tk, v = .str t tk ∧ ∃ H', Inv X pins σ H' s' ∧ Ext H H'
theorem list_at {A : Around} {g : List Code} {bs : Nat} {pins : List (Addr × Obj)} {σ : L2.St} {s : Shared} {H : Hp} {Q : Value → Shared → Prop} (sb : Sub X (n + 1) A) (hg : A.guards = some g) (gd : Gd g outs) (I : Inv X pins σ H s) (ha : H a = some (.lst xs)) (na : a ∉ outs) (xe : Ex outs H0 H) (hx : xs ≠ [])
    (hT : RpAll X n (a :: outs) H0 xs ts) (hsz : bs + (listText ts).length ≤ sizeLine) (fin : ∀ v s', Told X pins σ H (listText ts) v s' → Q v s') :
    wpAny (model X.prog X.w) A.in1 (Builtin.listReprAt bs ⟨[.ref a], []⟩) (fun fin s' => match fin with | .done f => callEnd Q X.xe (.ok f) s' | .again c' => c'.quiet = true ∧ codeAny (model X.prog X.w) A c' (callEnd Q X.xe) s') (fun e s' => callEnd Q X.xe (.error e) s') s := by
  obtain ⟨_, its, m, rv, lv, e⟩ := I.lstM ha
  obtain ⟨y, l, rfl⟩ : ∃ y l, its = y :: l := by
    cases its with
    | nil =>
      have : xs.length = 0 := lv
      exact absurd (List.length_eq_zero_iff.mp this) hx
    | cons y l => exact ⟨y, l, rfl⟩
  refine wpAny_list_repr_head (A := A.in1) hg (fun v rest kw hm => listSameRef_of_ne ((gd.clear na) _ _ _ _ hm)) e rfl ?_
  refine wpAny_bind (m := newList []) (wpAny_newObj_type ?_)
  refine wpAny_pure ⟨F.quiet_list_repr_loop _, ?_⟩
  have I1 := I.lnew (its := []) (ys := []) (t' := s.toks) .nil (Nat.zero_le _)
  have hn := I.fresh
  exact list_loop (n := n) (Hb := H) (R := callEnd Q X.xe) sb hg gd ha hn xe hT.len hT.get hsz (fun _ _ h => h) (fun s' H' u I' e' => fin _ _ ⟨u, rfl, H', I', e'⟩) _ 0 _ _ rfl (Nat.zero_le _) I1 (Ext.upd hn) upd_same
theorem RpU.list (ha : H0 a = some (.lst xs)) (na : a ∉ outs) (hx : xs ≠ []) (hT : RpAll X n (a :: outs) H0 xs ts) : RpU X (n + 1) outs H0 (.ref a) (listText ts) := fun A g pins s σ H u bs x sb hg gd I r hb => by
  cases (show u = Value.ref a from r)
  have ea := x a _ ha na
  obtain ⟨_, its, m, rv, lv, e⟩ := I.lstM ea
  refine wpAny_pyReprUnder_ref (by omega) (wpAny_pyReprObjUnder_twin (twin := "list.__repr__.under") ⟨_, e, rfl⟩ F.slot_list_repr.toG rfl sb.room.units0
    (call_twin_plain F.plain_list_repr_under F.entry_list_repr_under F.check_list_repr_under ⟨_, e, rfl⟩ F.slot_list_repr.toG (F.args_list_repr_1 _) (list_at sb hg gd I ea na x hx hT hb fun v s' h => ?_)))
  obtain ⟨tk, rfl, h⟩ := h
  exact ⟨⟨_, _, rfl⟩, _, _, rfl, rfl, h⟩
theorem RpU.list0 (ha : H0 a = some (.lst [])) (na : a ∉ outs) : RpU X n outs H0 (.ref a) "[]" := fun A g pins s σ H u bs x sb hg gd I r hb => by
  cases (show u = Value.ref a from r)
  have ea := x a _ ha na
  obtain ⟨_, its, m, rv, lv, e⟩ := I.lstM ea
  obtain rfl : its = [] := List.length_eq_zero_iff.mp lv.symm
  exact wpAny_pyReprUnder_ref (by omega) (wpAny_pyReprObjUnder_list_empty ⟨_, e, rfl⟩ sb.room.units0 e rfl ⟨_, _, rfl, rfl, H, I.tok _, Ext.rfl'⟩)
theorem tup_fold {A : Around} {g : List Code} {pins : List (Addr × Obj)} {σ : L2.St} {Hb : Hp} {Q : (Array Str × Nat) → Shared → Prop} (sb : Sub X n A) (hg : A.guards = some g) (gd : Gd g (a :: outs)) (xe : Ex outs H0 Hb) :
    ∀ {vs : List V} {ts : List Str}, RpAll X n (a :: outs) H0 vs ts → ∀ (us : List Value) (acc : Array Str) (m : Nat) (s : Shared) (H : Hp), Vals vs us → m + piled ts ≤ sizeLine → Inv X pins σ H s → Ext Hb H →
      (∀ s' H', Inv X pins σ H' s' → Ext Hb H' → Q ⟨acc ++ ts.toArray, m + piled ts⟩ s') → wpAny (model X.prog X.w) A (forIn us (⟨acc, m⟩ : (Array Str × Nat)) tupBody) Q X.xe s := by
  intro vs ts h
  induction h with
  | nil =>
    intro us acc m s H rv hm I eb fin
    cases rv
    have h0 := fin s H I eb
    simp only [List.forIn_nil]
    exact wpAny_pure (by simpa [piled] using h0)
  | @cons v t vs ts hr hl ih =>
    intro us acc m s H rv hm I eb fin
    cases rv with
    | @cons _ u _ us r rv =>
      rw [piled_cons] at hm
      rw [List.forIn_cons]
      refine wpAny_bind (wpAny_bind (wpAny_mono (hr A g pins s σ H u (m + 1) (xe.ext eb).more sb hg gd I r (by omega)) (fun r' s2 h2 => ?_) fun _ _ x => x))
      obtain ⟨rfl, H2, I2, e2⟩ := h2
      refine wpAny_pure ?_
      refine ih us (acc.push r') (m + (r'.length + 2)) s2 H2 rv (by omega) I2 (eb.trans e2) fun s' H' I' e' => ?_
      have h1 := fin s' H' I' e'
      have e : m + piled (r' :: ts) = m + (r'.length + 2) + piled ts := by rw [piled_cons]; omega
      rw [e] at h1
      simpa using h1
theorem tup_at {A : Around} {g : List Code} {bs : Nat} {pins : List (Addr × Obj)} {σ : L2.St} {s : Shared} {H : Hp} {Q : Value → Shared → Prop} {id : String} {rest : List Value} (hcg : (Code.builtin id ⟨.ref a :: rest, []⟩).isGuard = true) (sb : Sub X n (A.under (.builtin id ⟨.ref a :: rest, []⟩)))
    (hg : A.guards = some g) (gd : Gd g outs) (I : Inv X pins σ H s) (ha : H a = some (.tup xs)) (na : a ∉ outs) (xe : Ex outs H0 H) (hT : RpAll X n (a :: outs) H0 xs ts) (hsz : bs + (tupleText ts).length ≤ sizeLine) (fin : ∀ v s', Told X pins σ H (tupleText ts) v s' → Q v s') :
    wpOwn (model X.prog X.w) A (.builtin id ⟨.ref a :: rest, []⟩) (Builtin.tupleReprAt bs ⟨[.ref a], []⟩) (fun fin s' => match fin with | .done f => callEnd Q X.xe (.ok f) s' | .again c' => c'.quiet = true ∧ codeAny (model X.prog X.w) A c' (callEnd Q X.xe) s') (fun e s' => callEnd Q X.xe (.error e) s') s := by
  obtain ⟨its, rv, ⟨o, ho, hc, m, hd⟩, hz⟩ := I.tuple (SqT.of (K := X.K) ha)
  have hca : Clear g a := gd.clear na
  have hlen : ts.length = its.length := hT.len.trans rv.length
  have hp := piled_le_tupleText ts
  have hsz0 : (tupleText ts).length ≤ sizeLine := by omega
  rw [tuple_repr_tree, tupleReprUnderWay_eq]
  refine wpOwn_bind (wpOwn_stackTailAny hg (tupGuardF_off _) (tupGuardF_pos _) ?_)
  have hn : (g.any fun c => tupGuardF (.ref a) (c, default)) = false := by
    rw [List.any_eq_false]
    intro c hcm
    rw [tupGuardF_of_clear hca c hcm]
    exact Bool.false_ne_true
  rw [hn]
  refine wpOwn_of_wpAny ?_
  show wpAny _ _ (tupleReprRest bs (.ref a)) _ _ s
  unfold tupleReprRest Builtin.Tuple.tupleItemsOf
  refine wpAny_bind (wpAny_bind (wpAny_seqItems ho hd (wpAny_pure ?_)))
  rw [← Array.forIn_toList]
  refine wpAny_bind (tup_fold (Hb := H) sb (guards_under_guard hcg hg) gd.cons xe hT _ _ _ s H (by simpa using rv) (by omega) I Ext.rfl' fun s' H' I' e' => ?_)
  refine wpAny_bind (wpAny_mkStr (wpAny_pure ?_) (by simpa [tupleText, hlen] using hsz0))
  have h1 := fin (.str (tupleText ts) s'.toks) { s' with toks := s'.toks + 1 } ⟨_, rfl, H', I'.tok _, e'⟩
  simpa [tupleText, hlen] using h1
theorem sub_code {A : Around} {id : String} {args : Args} (h : Sub X (n + 1) A) (hw : (Code.builtin id args).weight ≤ 1) (he : (Code.builtin id args).envs = []) (hu : (A.under (.builtin id args)).units = A.units + 1) : Sub X n (A.under (.builtin id args)) := by
  have e2 : (A.under (.builtin id args)).frames = pushEnvs (Code.envs (.builtin id args)) A.frames := by first | rfl | simp [Around.under]
  have hf : (A.under (.builtin id args)).frames = A.frames := by
    rw [e2, he]
    cases A.frames <;> first | rfl | simp [pushEnvs]
  have hd : (A.under (.builtin id args)).depth = A.depth + (Code.builtin id args).weight := by first | rfl | simp [Around.under]
  obtain ⟨⟨h1, h2, h3⟩, h4⟩ := h
  exact ⟨⟨h1, by omega, by rw [hu]; omega⟩, hf.trans h4⟩
theorem w_tup {args : Args} : (Code.builtin "tuple.__repr__" args).weight ≤ 1 := by
  first | exact Nat.le_refl _ | simp [Code.weight, Code.isCreation, Code.isGuard, Code.isCaller, Code.frames, Code.isFrame, guardIds]
theorem w_tupU {args : Args} : (Code.builtin "tuple.__repr__.under" args).weight ≤ 1 := by
  first | exact Nat.le_refl _ | simp [Code.weight, Code.isCreation, Code.isGuard, Code.isCaller, Code.frames, Code.isFrame, guardIds]
theorem e_b {id : String} {args : Args} (h : (Code.builtin id args).isFrame = false := by rfl) : (Code.builtin id args).envs = [] := by simp [Code.envs, h]
theorem RpU.tup (ha : H0 a = some (.tup xs)) (na : a ∉ outs) (hT : RpAll X n (a :: outs) H0 xs ts) : RpU X (n + 1) outs H0 (.ref a) (tupleText ts) := fun A g pins s σ H u bs x sb hg gd I r hb => by
  cases (show u = Value.ref a from r)
  have ea := x a _ ha na
  obtain ⟨its, rv, ⟨o, ho, hc, m, hd⟩, hz⟩ := I.tuple (SqT.of (K := X.K) ea)
  refine wpAny_pyReprUnder_ref (by omega) (wpAny_pyReprObjUnder_twin (twin := "tuple.__repr__.under") ⟨o, ho, hc⟩ F.slot_tuple_repr rfl sb.room.units0
    (call_twin_own (F.quiet_tuple_repr_under _) F.entry_tuple_repr_under F.check_tuple_repr_under ⟨o, ho, hc⟩ F.slot_tuple_repr (F.args_tuple_repr_1 _)
      (tup_at (isGuard_tuple_repr_under _) (sub_code sb w_tupU e_b (units_under_tuple_repr_under _ _)) hg gd I ea na x hT hb fun v s' h => ?_)))
  obtain ⟨tk, rfl, h⟩ := h
  exact ⟨⟨_, _, rfl⟩, _, _, rfl, rfl, h⟩
/-- repr of a tuple, where no repr is under way -/
def rReprT (X : Cx) (n : Nat) : List V → Hp → VK → Prop := fun ys H Q => ∃ (a : Addr) (xs : List V) (ts : List Str), ys = [.ref a] ∧ H a = some (.tup xs) ∧ RpAll X n [a] H xs ts ∧ (tupleText ts).length ≤ sizeLine ∧ ∀ H', Ext H H' → Q (.str (tupleText ts)) H'
theorem call_reprT (hgd : X.A.guards = some []) (hr : Room (n + 2) X.A) : CallR X (.builtin "repr") (rReprT X n) := by
  intro pins s σ H ys us Q I r h
  obtain ⟨a, xs, ts, rfl, ea, hT, hb, q⟩ := h
  obtain ⟨u, rfl, ru⟩ := r.one
  cases (show u = Value.ref a from ru)
  obtain ⟨its, rv, ⟨o, ho, hc, m, hd⟩, hz⟩ := I.tuple (SqT.of (K := X.K) ea)
  have sb : Sub X (n + 1) X.A.in1 := ⟨hr.in1, rfl⟩
  refine call_repr_slot (by have := hr.un; omega) ⟨o, ho, hc⟩ F.slot_tuple_repr ?_
  refine wpAny_call (codeAny_call_builtin_own (Code.quiet_builtin _ (by decide +kernel)) F.entry_tuple_repr (F.slot_tuple_repr.check _ _ _ _ _ _ _ _ ⟨o, ho, hc⟩ (F.args_tuple_repr_1 _)
    (tup_at (outs := []) (H0 := H) (bs := 0) (isGuard_tuple_repr _) (sub_code sb w_tup e_b (units_under_tuple_repr _ _)) hgd Gd.nil I ea (by simp) (Ex.refl _ _) hT (by omega) fun v s' h => ?_)))
  obtain ⟨tk, rfl, H', I', e⟩ := h
  exact ⟨_, _, rfl, .str _, H', I', ⟨_, rfl⟩, q H' e⟩
end
end RPO
set_option Elab.async false
set_option linter.all false
set_option maxRecDepth 100000
set_option maxHeartbeats 4000000
namespace RPO
open PySem PySem.Spec PyProof.Rows L2
open Builtin Builtin.List
/-- what the entries of a dict show as -/
inductive RpEnt (X : Cx) (n : Nat) (outs : List Addr) (H0 : Hp) : List (Key × V) → List Str → Prop
  | nil : RpEnt X n outs H0 [] []
  | cons {k : Key} {v : V} {tk tv : Str} {kvs : List (Key × V)} {ps : List Str} : RpU X n outs H0 (kV k) tk → RpU X n outs H0 v tv → RpEnt X n outs H0 kvs ps → RpEnt X n outs H0 ((k, v) :: kvs) ((tk ++ ": " ++ tv) :: ps)
section
variable {X : Cx} {n : Nat} {outs : List Addr} {H0 : Hp} {a : Addr} {kvs : List (Key × V)} {ps : List Str}
theorem RpEnt.len : ∀ {kvs : List (Key × V)} {ps : List Str}, RpEnt X n outs H0 kvs ps → ps.length = kvs.length
  | _, _, .nil => rfl
  | _, _, .cons _ _ h => by rw [List.length_cons, List.length_cons, h.len]
theorem RpEnt.get : ∀ {kvs : List (Key × V)} {ps : List Str}, RpEnt X n outs H0 kvs ps → ∀ (i : Nat) (e : Key × V), kvs[i]? = some e → ∃ tk tv : Str, ps[i]? = some (tk ++ ": " ++ tv) ∧ RpU X n outs H0 (kV e.1) tk ∧ RpU X n outs H0 e.2 tv
  | _, _, .nil, _, _, h => by simp at h
  | _, _, .cons r1 r2 h, 0, _, e => by
    simp at e
    subst e
    exact ⟨_, _, rfl, r1, r2⟩
  | _, _, .cons _ _ h, i + 1, x, e => by
    obtain ⟨t1, t2, e1, e2⟩ := h.get i x (by simpa using e)
    exact ⟨t1, t2, by simpa using e1, e2⟩
theorem pairs_at {P : Program} {w : World} : ∀ {es : List DictEntry} {vs : List (Key × Value)}, Pairs (mixKind P w) es vs → ∀ (i : Nat) (kv : Key × Value), vs[i]? = some kv → ∃ e, es[i]? = some e ∧ (mixKind P w).is kv.1 e.key = true ∧ e.val = kv.2
  | _, _, .nil, _, _, h => by simp at h
  | _, _, .cons h1 h2 h, 0, _, e => by
    simp at e
    subst e
    exact ⟨_, rfl, h1, h2⟩
  | _, _, .cons _ _ h, i + 1, kv, e => by
    obtain ⟨en, e1, e2⟩ := pairs_at h i kv (by simpa using e)
    exact ⟨en, by simpa using e1, e2⟩
theorem key_rel {k : Key} {v : Value} (h : keyIs k v = true) : RelV (kV k) v := by
  rcases keyIs_shape h with ⟨i, t, rfl, rfl⟩ | ⟨x, t, rfl, rfl⟩
  · exact ⟨_, rfl⟩
  · exact ⟨_, rfl⟩
theorem kv_at : ∀ {ks : List (Key × V)} {va : List (Key × Value)}, KV ks va → ∀ (i : Nat) (e : Key × V), ks[i]? = some e → ∃ u : Key × Value, va[i]? = some u ∧ e.1 = u.1 ∧ RelV e.2 u.2
  | _, _, .nil, _, _, h => by simp at h
  | _, _, .cons r h, 0, _, e => by
    simp at e
    subst e
    exact ⟨_, rfl, r.1, r.2⟩
  | _, _, .cons _ h, i + 1, x, e => by
    obtain ⟨u, e1, e2⟩ := kv_at h i x (by simpa using e)
    exact ⟨u, by simpa using e1, e2⟩
/-- the entries of a locked dict -/
theorem entry_of {pins : List (Addr × Obj)} {σ : L2.St} {s : Shared} {H : Hp} {o : Obj} (I : Inv X pins σ H s) (h : H a = some (.frz o (.dK kvs))) {es : Array DictEntry} {ep : Nat} (hd : o.data = .dict es ep) (i : Nat) (hi : i < kvs.length) :
    ∃ e, es[i]? = some e ∧ RelV (kV kvs[i].1) e.key ∧ RelV kvs[i].2 e.val := by
  obtain ⟨_, hg, _, es', ep', vs, hd', hs, kv, o2, es2, g2, x2, d2, k2, p2, _⟩ := I.frzK h
  rw [hg] at g2
  cases g2
  rw [hd] at d2
  cases d2
  obtain ⟨u, e1, e2, e3⟩ := kv_at kv i kvs[i] (List.getElem?_eq_getElem hi)
  obtain ⟨e, f1, f2, f3⟩ := pairs_at p2 i u e1
  refine ⟨e, by simpa using f1, ?_, by rw [f3]; exact e3⟩
  rw [e2]
  exact key_rel f2
theorem dct_at {A : Around} {g : List Code} {bs : Nat} {pins : List (Addr × Obj)} {σ : L2.St} {s : Shared} {H : Hp} {Q : Value → Shared → Prop} {id : String} {rest : List Value} (hcg : (Code.builtin id ⟨.ref a :: rest, []⟩).isGuard = true) (sb : Sub X n (A.under (.builtin id ⟨.ref a :: rest, []⟩)))
    (hg : A.guards = some g) (gd : Gd g outs) (I : Inv X pins σ H s) (ha : H a = some (.dK kvs)) (na : a ∉ outs) (xe : Ex outs H0 H) (hT : RpEnt X n (a :: outs) H0 kvs ps) (hsz : bs + (dictText ps).length ≤ sizeLine) (fin : ∀ v s', Told X pins σ H (dictText ps) v s' → Q v s') :
    wpOwn (model X.prog X.w) A (.builtin id ⟨.ref a :: rest, []⟩) (Builtin.dictReprAt bs ⟨[.ref a], []⟩) (fun fin s' => match fin with | .done f => callEnd Q X.xe (.ok f) s' | .again c' => c'.quiet = true ∧ codeAny (model X.prog X.w) A c' (callEnd Q X.xe) s') (fun e s' => callEnd Q X.xe (.error e) s') s := by
  have mu : Mut (some (HO.dK kvs)) := trivial
  have nf := I.nofrz ha mu
  obtain ⟨o, I1⟩ := I.lock ha mu
  have e1 : (upd H a (.frz o (.dK kvs))) a = some (.frz o (.dK kvs)) := upd_same
  have x1 : Ex (a :: outs) H0 (upd H a (.frz o (.dK kvs))) := fun b u e nb => by
    rw [upd_ne fun z => nb (by rw [z]; exact List.mem_cons_self)]
    exact xe b u e fun z => nb (List.mem_cons_of_mem _ z)
  have back : ∀ {H' : Hp} {s' : Shared}, Inv X pins σ H' s' → Ext (upd H a (.frz o (.dK kvs))) H' → ∃ H2, Inv X pins σ H2 s' ∧ Ext H H2 := fun {H' s'} I' e' => by
    refine ⟨_, I'.unlock (e' _ _ e1) nf, fun b u e => ?_⟩
    by_cases hb : b = a
    · subst hb
      rw [upd_same, ← e, ha]
    · rw [upd_ne hb]
      refine e' _ _ ?_
      rw [upd_ne hb]
      exact e
  generalize upd H a (.frz o (.dK kvs)) = H1 at I1 e1 x1 back
  obtain ⟨hsys, hget, hex, es, ep, vs, hd, hsize, _, _⟩ := I1.frzK e1
  have got : ∀ {H' : Hp} {s' : Shared}, Inv X pins σ H' s' → Ext H1 H' → s'.heap.get? a = some o := fun I' e' => (I'.frzK (e' _ _ e1)).2.1
  have hTy : s.TypeIs (.ref a) "dict" := ⟨o, hget, hex.1⟩
  have hca : Clear g a := gd.clear na
  have hlen : ps.length = es.size := hT.len.trans hsize.symm
  have hp3 := piled_le_dictText ps
  have hsz0 : (dictText ps).length ≤ sizeLine := by omega
  unfold Builtin.dictReprAt
  refine wpOwn_bind (wpOwn_of_wpAny ?_)
  unfold Builtin.Dict.dictSlotNone
  refine wpAny_bind (wpAny_notOrdered_dict hTy ?_)
  show wpAny _ _ (pure (Value.ref a)) _ _ s
  refine wpAny_pure ?_
  rw [dictReprRunning_eq]
  refine wpOwn_bind (wpOwn_stackTailAny hg (dictGuardF_off _) (dictGuardF_pos _) ?_)
  have hn : (g.any fun c => dictGuardF (.ref a) (c, default)) = false := by
    rw [List.any_eq_false]
    intro c hcm
    rw [dictGuardF_of_clear hca c hcm]
    exact Bool.false_ne_true
  rw [hn]
  refine wpOwn_of_wpAny ?_
  have hg' := guards_under_guard hcg hg
  show wpAny _ _ (Builtin.Dict.addrOf (.ref a) >>= _) _ _ s
  refine wpAny_bind (wpAny_pure ?_)
  show wpAny _ _ (Builtin.Dict.showsAll a >>= _) _ _ s
  unfold Builtin.Dict.showsAll
  rw [if_neg (by rw [hsys]; exact Bool.false_ne_true)]
  refine wpAny_bind (wpAny_pure ?_)
  refine wpAny_bind (wpAny_dictEpoch hget hd ?_)
  refine wpAny_bind (wpAny_dictEntries hget hd ?_)
  refine wpAny_bind ?_
  rw [Std.Legacy.Range.forIn_eq_forIn_range']
  simp only [Std.Legacy.Range.size, Nat.sub_zero, Nat.add_sub_cancel, Nat.div_one]
  refine wpAny_forIn_list _
    (fun rest' r s' => ∃ i H', rest' = List.range' i (es.size - i) ∧ i ≤ es.size ∧ r = (⟨(ps.take i).toArray, bs + piled (ps.take i)⟩ : (Array Str × Nat)) ∧ Inv X pins σ H' s' ∧ Ext H1 H')
    _ ?_ ?_ _ _ ⟨0, H1, by simp, Nat.zero_le _, by simp [piled], I1, Ext.rfl'⟩
  · rintro x rest' _ s' ⟨i, H', hr, hi, rfl, I', e'⟩
    have hlt : i < es.size := by
      rcases Nat.lt_or_ge i es.size with h | h
      · exact h
      · rw [Nat.sub_eq_zero_of_le h] at hr; simp at hr
    obtain ⟨rfl, hrest⟩ : x = i ∧ rest' = List.range' (i + 1) (es.size - (i + 1)) := by
      have e : es.size - i = (es.size - (i + 1)) + 1 := by omega
      rw [e, List.range'_succ] at hr
      injection hr with h1 h2
      exact ⟨h1, h2⟩
    have hx2 : x < kvs.length := by omega
    obtain ⟨tk, tv, hp, rk, rv⟩ := hT.get x kvs[x] (List.getElem?_eq_getElem hx2)
    obtain ⟨en, f1, f2, f3⟩ := entry_of I' (e' _ _ e1) hd x hx2
    have hpl : (tk ++ ": " ++ tv).length = tk.length + 2 + tv.length := by
      rw [strLen_append, strLen_append]; rfl
    have hp1 := piled_take_succ hp
    have hp2 := piled_take_le ps (x + 1)
    rw [hpl] at hp1
    refine wpAny_bind (wpAny_dictEntries (got I' e') hd ?_)
    rw [f1]
    refine wpAny_bind (wpAny_holding (wpAny_bind (wpAny_mono (rk _ _ pins s' σ H' en.key (bs + piled (ps.take x) + 1) (x1.ext e') sb hg' gd.cons I' f2 (by omega)) (fun r2 s2 h2 => ?_) fun _ _ z => z)))
    obtain ⟨rfl, H2, I2, e2⟩ := h2
    refine wpAny_bind (wpAny_mono (rv _ _ pins s2 σ H2 en.val (bs + piled (ps.take x) + (r2.length + 3)) (x1.ext (e'.trans e2)) sb hg' gd.cons I2 f3 (by omega)) (fun r3 s3 h3 => ?_) fun _ _ z => z)
    obtain ⟨rfl, H3, I3, e3⟩ := h3
    have e13 := (e'.trans e2).trans e3
    refine wpAny_pure ?_
    refine wpAny_bind (wpAny_dictEpoch (got I3 e13) hd ?_)
    rw [if_neg (by simp)]
    have g1 : (ps.take x).toArray.push (r2 ++ ": " ++ r3) = (ps.take (x + 1)).toArray := by
      rw [List.take_add_one, hp]
      simp
    have g2 : bs + piled (ps.take x) + (r2.length + r3.length + 4) = bs + piled (ps.take (x + 1)) := by omega
    refine wpAny_pure ⟨x + 1, H3, hrest, hlt, ?_, I3, e13⟩
    rw [g1, g2]
  · rintro _ s' ⟨i, H', hr, hi, rfl, I', e'⟩
    have hin : i = es.size := by
      rcases Nat.lt_or_ge i es.size with h | h
      · have e : es.size - i = (es.size - (i + 1)) + 1 := by omega
        rw [e, List.range'_succ] at hr; exact nomatch hr
      · exact Nat.le_antisymm hi h
    rw [hin, ← hlen, List.take_length]
    refine wpAny_bind (wpAny_mkStr (wpAny_pure ?_) (by simpa [dictText] using hsz0))
    have h1 := fin (.str (dictText ps) s'.toks) { s' with toks := s'.toks + 1 } ⟨_, rfl, back (I'.tok _) e'⟩
    simpa [dictText] using h1
theorem w_dct {args : Args} : (Code.builtin "dict.__repr__" args).weight ≤ 1 := by
  first | exact Nat.le_refl _ | simp [Code.weight, Code.isCreation, Code.isGuard, Code.isCaller, Code.frames, Code.isFrame, guardIds]
theorem w_dctU {args : Args} : (Code.builtin "dict.__repr__.under" args).weight ≤ 1 := by
  first | exact Nat.le_refl _ | simp [Code.weight, Code.isCreation, Code.isGuard, Code.isCaller, Code.frames, Code.isFrame, guardIds]
theorem RpU.dct (ha : H0 a = some (.dK kvs)) (na : a ∉ outs) (hT : RpEnt X n (a :: outs) H0 kvs ps) : RpU X (n + 1) outs H0 (.ref a) (dictText ps) := fun A g pins s σ H u bs x sb hg gd I r hb => by
  cases (show u = Value.ref a from r)
  have ea := x a _ ha na
  have mu : Mut (some (HO.dK kvs)) := trivial
  obtain ⟨o, I1⟩ := I.lock ea mu
  obtain ⟨_, hget, hex, _⟩ := I1.frzK (upd_same : (upd H a (.frz o (.dK kvs))) a = _)
  refine wpAny_pyReprUnder_ref (by omega) (wpAny_pyReprObjUnder_twin (twin := "dict.__repr__.under") ⟨o, hget, hex.1⟩ F.slot_dict_repr rfl sb.room.units0
    (call_twin_own (F.quiet_dict_repr_under _) F.entry_dict_repr_under F.check_dict_repr_under ⟨o, hget, hex.1⟩ F.slot_dict_repr (F.args_dict_repr_1 _)
      (dct_at (isGuard_dict_repr_under _) (sub_code sb w_dctU e_b (units_under_dict_repr_under _ _)) hg gd I ea na x hT hb fun v s' h => ?_)))
  obtain ⟨tk, rfl, h⟩ := h
  exact ⟨⟨_, _, rfl⟩, _, _, rfl, rfl, h⟩
/-- repr of a list, of a dict, where no repr is under way -/
def rReprL (X : Cx) (n : Nat) : List V → Hp → VK → Prop := fun ys H Q => ∃ (a : Addr) (xs : List V) (ts : List Str), ys = [.ref a] ∧ H a = some (.lst xs) ∧ xs ≠ [] ∧ RpAll X n [a] H xs ts ∧ (listText ts).length ≤ sizeLine ∧ ∀ H', Ext H H' → Q (.str (listText ts)) H'
theorem call_reprL (hgd : X.A.guards = some []) (hr : Room (n + 2) X.A) : CallR X (.builtin "repr") (rReprL X n) := by
  intro pins s σ H ys us Q I r h
  obtain ⟨a, xs, ts, rfl, ea, hx, hT, hb, q⟩ := h
  obtain ⟨u, rfl, ru⟩ := r.one
  cases (show u = Value.ref a from ru)
  obtain ⟨_, its, m, rv, lv, e⟩ := I.lstM ea
  have sb : Sub X (n + 1) X.A.in1 := ⟨hr.in1, rfl⟩
  refine call_repr_slot (by have := hr.un; omega) ⟨_, e, rfl⟩ F.slot_list_repr.toG ?_
  refine wpAny_call (codeAny_call_builtin F.slot_list_repr.plain F.entry_list_repr (F.slot_list_repr.check _ _ _ _ _ _ _ _ ⟨_, e, rfl⟩ (F.args_list_repr_1 _)
    (list_at (outs := []) (H0 := H) (bs := 0) sb hgd Gd.nil I ea (by simp) (Ex.refl _ _) hx hT (by omega) fun v s' h => ?_)))
  obtain ⟨tk, rfl, H', I', e⟩ := h
  exact ⟨_, _, rfl, .str _, H', I', ⟨_, rfl⟩, q H' e⟩
def rReprDc (X : Cx) (n : Nat) : List V → Hp → VK → Prop := fun ys H Q => ∃ (a : Addr) (kvs : List (Key × V)) (ps : List Str), ys = [.ref a] ∧ H a = some (.dK kvs) ∧ RpEnt X n [a] H kvs ps ∧ (dictText ps).length ≤ sizeLine ∧ ∀ H', Ext H H' → Q (.str (dictText ps)) H'
theorem call_reprDc (hgd : X.A.guards = some []) (hr : Room (n + 2) X.A) : CallR X (.builtin "repr") (rReprDc X n) := by
  intro pins s σ H ys us Q I r h
  obtain ⟨a, kvs, ps, rfl, ea, hT, hb, q⟩ := h
  obtain ⟨u, rfl, ru⟩ := r.one
  cases (show u = Value.ref a from ru)
  have mu : Mut (some (HO.dK kvs)) := trivial
  obtain ⟨o, I1⟩ := I.lock ea mu
  obtain ⟨_, hget, hex, _⟩ := I1.frzK (upd_same : (upd H a (.frz o (.dK kvs))) a = _)
  have sb : Sub X (n + 1) X.A.in1 := ⟨hr.in1, rfl⟩
  refine call_repr_slot (by have := hr.un; omega) ⟨o, hget, hex.1⟩ F.slot_dict_repr ?_
  refine wpAny_call (codeAny_call_builtin_own (Code.quiet_builtin _ (by decide +kernel)) F.entry_dict_repr (F.slot_dict_repr.check _ _ _ _ _ _ _ _ ⟨o, hget, hex.1⟩ (F.args_dict_repr_1 _)
    (dct_at (outs := []) (H0 := H) (bs := 0) (isGuard_dict_repr _) (sub_code sb w_dct e_b (units_under_dict_repr _ _)) hgd Gd.nil I ea (by simp) (Ex.refl _ _) hT (by omega) fun v s' h => ?_)))
  obtain ⟨tk, rfl, H', I', e⟩ := h
  exact ⟨_, _, rfl, .str _, H', I', ⟨_, rfl⟩, q H' e⟩
end
end RPO
set_option Elab.async false
set_option linter.all false
set_option maxRecDepth 100000
set_option maxHeartbeats 4000000
/-! SRI: sorted(d.items()), d a dict of whole numbers by texts. -/
namespace SRI
open PySem PySem.Spec PyProof.Rows L2
open L2.DX (itemsO)
/-- the view of a plain dict's items -/
def rItemsK : V → List V → Hp → VK → Prop := fun x xs H Q => ∃ (a : Addr) (kvs : List (Key × V)), x = .ref a ∧ xs = [] ∧ H a = some (.dK kvs) ∧ ∀ p, H p = none → Q (.ref p) (upd H p (itemsO p a))
theorem mt_itemsK {X : Cx} : MtR X "dict.items" rItemsK := by
  intro pins s σ H x xs v us Q I rx rxs hh
  obtain ⟨a, kvs, rfl, rfl, ha, q⟩ := hh
  cases rx
  cases rxs
  obtain ⟨hlen, hsys, vs, rel, dof⟩ := dk_of I.hok ha
  obtain ⟨ep, ob, es, ho, ex, hdat, _⟩ := dof.dictAt
  refine DT.callItems (es := es) (ep := ep) hsys ⟨ob, ho, ex, hdat⟩ ?_
  have fr : H s.heap.objs.size = none := I.hok.fresh (Nat.le_refl _)
  exact ⟨.ref s.heap.objs.size, upd H s.heap.objs.size (itemsO s.heap.objs.size a), I.laid (t' := s.toks) (fun b u e => Heap.get?_push_of_some _ e) (Nat.le_refl _) (DX.itemsO_ok (Heap.get?_push_size _ rfl)), rfl, q _ fr⟩
/-- a pair as data -/
def enP (g : Str → Int) (x : Str) : PyData := .tuple [.str x, .int (g x)]
/-- the names, sorted by the pairs -/
def srtI (L : List Str) (g : Str → Int) : List Str := L.mergeSort (PySem.W.dataLe false (enP g))
theorem srtI_perm (L : List Str) (g : Str → Int) : (srtI L g).Perm L := List.mergeSort_perm _ _
def rSortItK : List V → Hp → VK → Prop := fun vs H Q => ∃ (p a : Addr) (L : List Str) (g : Str → Int), vs = [.ref p] ∧ H p = some (itemsO p a) ∧ H a = some (.dK (L.map fun x => ((Sum.inr x : Key), V.int (g x)))) ∧
  ∀ (H' : Hp) (l : Addr) (ts : List Addr), (∀ b o, H b = some o → H' b = some o) → H l = none → H' l = some (.lst (ts.map V.ref)) → Paired (fun (t : Addr) (x : Str) => H t = none ∧ H' t = some (.tup [.str x, .int (g x)])) ts (srtI L g) → Q (.ref l) H'
theorem each_of {α β : Type} {R : α → β → Prop} : ∀ {as : List α} {bs : List β}, as.length = bs.length → (∀ (j : Nat) (x : α) (y : β), as[j]? = some x → bs[j]? = some y → R x y) → PySem.W.EachIs R as bs
  | [], [], _, _ => .nil
  | [], _ :: _, h, _ => nomatch h
  | _ :: _, [], h, _ => nomatch h
  | x :: as, y :: bs, h, f => .cons (f 0 x y rfl rfl) (each_of (Nat.succ.inj h) fun j a b e1 e2 => f (j + 1) a b (by simpa using e1) (by simpa using e2))
theorem each_map_eq {β γ : Type} {f : β → γ} : ∀ {us : List γ} {bs : List β}, PySem.W.EachIs (fun v b => v = f b) us bs → us = bs.map f
  | _, _, .nil => rfl
  | _, _, .cons e h => by rw [e, each_map_eq h]; rfl
theorem paired_of {α β : Type} {F : α → β → Prop} : ∀ (zs : List (α × β)), (∀ z ∈ zs, F z.1 z.2) → Paired F (zs.map (·.1)) (zs.map (·.2))
  | [], _ => .nil
  | z :: zs, h => .cons (h z List.mem_cons_self) (paired_of zs fun y hy => h y (List.mem_cons_of_mem _ hy))
theorem vrefs {α : Type} (f : α → Addr) : ∀ zs : List α, Vals (zs.map fun z => V.ref (f z)) (zs.map fun z => Value.ref (f z))
  | [] => .nil
  | _ :: zs => .cons rfl (vrefs f zs)
theorem cr_sortedItK {X : Cx} (hc : X.calm = true) (hu : X.A.units + 64 < cLine) : CallR X (.builtin "sorted") rSortItK := by
  intro pins s σ H xs us Q I r hh
  obtain ⟨p, a, L, g, rfl, hp, ha, q⟩ := hh
  obtain rfl := Vals.ref1 r
  have view := (show ObjOk X.prog X.w H s.heap p (itemsO p a) from I.hok p _ hp).1
  obtain ⟨hz, hsys, vs, rel, dof⟩ := dk_of I.hok ha
  obtain ⟨ep, ob, es, ho, ex, hdat, hko, hpr, hnd⟩ := dof.dictAt
  rw [List.length_map] at hz
  have l1 : L.length = vs.length := by rw [← List.length_map (f := fun x => ((Sum.inr x : Key), V.int (g x))) (as := L)]; exact Paired.length rel
  have l2 : es.size = vs.length := by rw [← Array.length_toList]; exact hpr.length
  refine DT.sortedI (es := es) (ep := ep) (I.ok.hd hc) view ⟨ob, ho, ex, hdat⟩ (by omega) fun h' tk as hk hlt hl hG => ?_
  have la : as.length = L.length := by omega
  have nd : as.Nodup := List.Pairwise.imp (fun {a b} (h : a < b) => Nat.ne_of_lt h) hG.rise
  -- what was made
  have pr : ∀ (j : Nat) (b : Addr) (x : Str), as[j]? = some b → L[j]? = some x → ∃ t1 t2, h'.get? b = some { cls := .type "tuple", data := .seq #[Value.str x t1, Value.int (g x) t2] } := by
    intro j b x hj hx
    obtain ⟨en, he, hg⟩ := hG.pairs j b hj
    obtain ⟨u, e1, e2, e3⟩ := RPO.kv_at rel j _ (by rw [List.getElem?_map, hx]; rfl)
    obtain ⟨en', f1, f2, f3⟩ := RPO.pairs_at hpr j u e1
    rw [← Array.getElem?_toList, f1] at he
    cases he
    have rk := RPO.key_rel f2
    rw [← e2] at rk
    obtain ⟨t1, ek⟩ := rk
    obtain ⟨t2, ev⟩ := e3
    refine ⟨t1, t2, ?_⟩
    rw [hg, ek, f3, ev]
  have hob : (h'.push (seqObj "list" (as.map Value.ref).toArray 0)).get? h'.objs.size = some (seqObj "list" (as.map Value.ref).toArray 0) := Heap.get?_push_size _ rfl
  have ne0 : ∀ b o, h'.get? b = some o → b ≠ h'.objs.size := fun b o e => Nat.ne_of_lt (Heap.lt_size e)
  have kb : ∀ b o, h'.get? b = some o → (h'.push (seqObj "list" (as.map Value.ref).toArray 0)).get? b = some o := fun b o e => Heap.get?_push_of_some _ e
  show wpAny _ _ _ _ _ { s with heap := h'.push (seqObj "list" (as.map Value.ref).toArray 0), toks := tk }
  generalize h'.push (seqObj "list" (as.map Value.ref).toArray 0) = h2 at hob kb ⊢
  have ix : ∀ z ∈ as.zip L, ∃ j : Nat, as[j]? = some z.1 ∧ L[j]? = some z.2 := fun z hz => by
    obtain ⟨j, hj⟩ := List.mem_iff_getElem?.mp hz
    exact ⟨j, List.getElem?_zip_eq_some.mp hj⟩
  have depth : ∀ x : Str, (enP g x).depth = 1 := fun x => by simp [enP, PyData.depth, PyData.depthAll]
  refine PySem.W.list_sort_data (s := { s with heap := h2, toks := tk }) (R := fun v (b : Addr × Str) => v = Value.ref b.1) (enc := fun b : Addr × Str => enP g b.2) (bs := as.zip L) (vs := as.map Value.ref) (n := 0) hob ?_ ?_ ?_ ?_ ?_ ?_ fun out lo eo => ?_
  · refine each_of (by simp [la]) fun j v b e1 e2 => ?_
    obtain ⟨f1, _⟩ := List.getElem?_zip_eq_some.mp e2
    rw [List.getElem?_map, f1] at e1
    exact (Option.some.inj e1).symm
  · refine each_of (by simp [la]) fun j v b e1 e2 => ?_
    obtain ⟨f1, f2⟩ := List.getElem?_zip_eq_some.mp e2
    rw [List.getElem?_map, f1] at e1
    cases (Option.some.inj e1).symm
    obtain ⟨t1, t2, e⟩ := pr j b.1 b.2 f1 f2
    exact ⟨[], .tuple (kb _ _ e) rfl rfl (.cons (.str _ _) (.cons (.int _ _) .nil)), by simp⟩
  · refine PySem.W.AllAlike.of fun b b' => ?_
    simp [enP, PySem.W.alike, PySem.W.alikeAll]
  · exact PySem.W.Sortable.tuples fun b => ⟨_, _, rfl⟩
  · rw [List.length_zip]
    omega
  · intro b _
    show X.A.units + 1 + 1 + (enP g b.2).depth < cLine
    rw [depth]
    omega
  -- behind the sort
  have e1 := each_map_eq eo
  have hzs : ((as.zip L).mergeSort (PySem.W.dataLe false fun b : Addr × Str => enP g b.2)).map (·.2) = srtI L g := by
    have m := List.map_mergeSort (r := PySem.W.dataLe false fun b : Addr × Str => enP g b.2) (s := PySem.W.dataLe false (enP g)) (f := fun z : Addr × Str => z.2) (l := as.zip L) (fun a _ b _ => rfl)
    rw [List.map_snd_zip (by omega)] at m
    exact m
  have pz : ((as.zip L).mergeSort (PySem.W.dataLe false fun b : Addr × Str => enP g b.2)).Perm (as.zip L) := List.mergeSort_perm _ _
  generalize (as.zip L).mergeSort (PySem.W.dataLe false fun b : Addr × Str => enP g b.2) = zs at e1 hzs pz
  have kF : ∀ b o, b ≠ h'.objs.size → h2.get? b = some o → (sortedHeap h2 h'.objs.size (as.map Value.ref) out.toArray).get? b = some o := fun b o hb e => (PyProof.Rows.sortedHeap_old hb (Heap.lt_size e)).trans e
  have kS : ∀ b o, s.heap.get? b = some o → (sortedHeap h2 h'.objs.size (as.map Value.ref) out.toArray).get? b = some o := fun b o e => kF b o (ne0 _ _ (hk b o e)) (kb _ _ (hk b o e))
  obtain ⟨eF, heF⟩ := PyProof.Rows.sortedHeap_at (vs := as.map Value.ref) (out := out.toArray) hob
  have I1 : Inv X pins σ H { s with heap := sortedHeap h2 h'.objs.size (as.map Value.ref) out.toArray, toks := tk } := I.kept (t' := tk) kS
  have n0 : H h'.objs.size = none := I.hok.fresh (Nat.le_of_lt hlt)
  have lz : (zs.map fun z => V.ref z.1).length ≤ sizeLine := by
    have := pz.length_eq
    rw [List.length_zip] at this
    rw [List.length_map]
    omega
  have rv : Vals (zs.map fun z => V.ref z.1) out := by
    rw [e1]
    exact vrefs (·.1) zs
  have I2 : Inv X pins σ (upd H h'.objs.size (.lst (zs.map fun z => V.ref z.1))) { s with heap := sortedHeap h2 h'.objs.size (as.map Value.ref) out.toArray, toks := tk } :=
    I1.take (h' := sortedHeap h2 h'.objs.size (as.map Value.ref) out.toArray) (t' := tk) (fun b ob _ e => e) (I.fpOk (Nat.le_of_lt hlt) n0) ⟨lz, out, eF, rv, heF⟩
  obtain ⟨H2, I3, gr, qt⟩ := DX.takeT (P := fun b ws => ∃ (j : Nat) (x : Str), as[j]? = some b ∧ L[j]? = some x ∧ ws = [.str x, .int (g x)]) I as _ I2 nd fun b hb => by
    obtain ⟨j, hj⟩ := List.mem_iff_getElem?.mp hb
    obtain ⟨x, hx⟩ : ∃ x, L[j]? = some x := ⟨_, List.getElem?_eq_getElem (by rw [← la]; exact (List.getElem?_eq_some_iff.mp hj).1)⟩
    obtain ⟨t1, t2, hg⟩ := pr j b x hj hx
    have hbl : s.heap.objs.size ≤ b := Nat.le_of_lt (hG.above b hb)
    refine ⟨hbl, ?_, [.str x, .int (g x)], ⟨j, x, hj, hx, rfl⟩, fun H3 => ⟨(by rw [sizeLine_eq]; show 2 ≤ 16777216; omega), [Value.str x t1, Value.int (g x) t2], .cons ⟨_, rfl⟩ (.cons ⟨_, rfl⟩ .nil), ⟨_, kF _ _ (ne0 _ _ hg) (kb _ _ hg), rfl, 0, rfl⟩⟩⟩
    rw [upd_ne (ne0 _ _ hg)]
    exact I.hok.fresh hbl
  have grH : ∀ b o, H b = some o → H2 b = some o := fun b o e => gr b o (by rw [upd_ne (ne_of_none e n0)]; exact e)
  refine ⟨.ref h'.objs.size, H2, I3, rfl, q H2 h'.objs.size (zs.map (·.1)) grH n0 (by rw [List.map_map]; exact gr _ _ upd_same) ?_⟩
  rw [← hzs]
  refine paired_of zs fun z hz => ?_
  obtain ⟨i, i1, i2⟩ := ix z (pz.mem_iff.mp hz)
  obtain ⟨ws, ⟨j, x, j1, j2, ev⟩, hH⟩ := qt z.1 (List.mem_of_getElem? i1)
  have eij : i = j := (List.getElem?_inj (List.getElem?_eq_some_iff.mp i1).1 nd).mp (i1.trans j1.symm)
  subst eij
  have ee : x = z.2 := Option.some.inj (j2.symm.trans i2)
  rw [ev, ee] at hH
  exact ⟨I.hok.fresh (Nat.le_of_lt (hG.above z.1 (List.mem_of_getElem? i1))), hH⟩
end SRI
set_option Elab.async false
set_option linter.all false
set_option maxRecDepth 100000
set_option maxHeartbeats 4000000
/-! data: texts, pairs -/
namespace DQ
open PySem PySem.Spec PyProof.Rows L2
def pD (q : Int × Int) : PyData := .tuple [.int q.1, .int q.2]
theorem all_strs : ∀ xs : List Str, (∀ x ∈ xs, PyData.strOk x = true) → PyData.canLayAll0 (xs.map PyData.str) = true ∧ PyData.depthAll (xs.map PyData.str) = 0
  | [], _ => ⟨rfl, rfl⟩
  | x :: r, h => by
    obtain ⟨h1, h2⟩ := all_strs r fun y hy => h y (List.mem_cons_of_mem _ hy)
    have h3 := h x List.mem_cons_self
    exact ⟨by simp [PyData.canLayAll0, PyData.canLay0, h1, h3], by simp [PyData.depthAll, PyData.depth, h2]⟩
theorem sh_strs {xs : List Str} (h : ∀ x ∈ xs, PyData.strOk x = true) : SeqAt.shaped (.list (xs.map PyData.str)) = true := by
  obtain ⟨h1, h2⟩ := all_strs xs h
  simp [SeqAt.shaped, PyData.canLay0, PyData.depth, h1, h2]
theorem all_pairs : ∀ qs : List (Int × Int), PyData.canLayAll0 (qs.map pD) = true ∧ PyData.depthAll (qs.map pD) ≤ 2
  | [] => ⟨rfl, by decide⟩
  | _ :: r => by
    obtain ⟨h1, h2⟩ := all_pairs r
    refine ⟨by simp [PyData.canLayAll0, PyData.canLay0, pD, h1], ?_⟩
    show max (PyData.depth (pD _)) (PyData.depthAll (r.map pD)) ≤ 2
    have h3 : ∀ q, PyData.depth (pD q) ≤ 2 := fun q => by show 1 ≤ 2; decide
    exact Nat.max_le.mpr ⟨h3 _, h2⟩
theorem sh_pair (q : Int × Int) : SeqAt.shaped (pD q) = true := rfl
theorem sh_pairs (qs : List (Int × Int)) : SeqAt.shaped (.list (qs.map pD)) = true := by
  obtain ⟨h1, h2⟩ := all_pairs qs
  have h3 : PyData.depthAll (qs.map pD) + 1 ≤ 64 := by omega
  simp [SeqAt.shaped, PyData.canLay0, PyData.depth, h1]
  omega
theorem eq_strs (xs : List Str) : PyData.eqv (.list (xs.map PyData.str)) (.list (xs.map PyData.str)) = true := by
  refine PySem.W.eqv_refl_alike _ ?_
  induction xs with
  | nil => rfl
  | cons x xs ih => simpa [PySem.W.alike, PySem.W.alikeAll] using ih
theorem eq_pair (q : Int × Int) : PyData.eqv (pD q) (pD q) = true := PySem.W.eqv_refl_alike _ rfl
theorem eq_pairs (qs : List (Int × Int)) : PyData.eqv (.list (qs.map pD)) (.list (qs.map pD)) = true := by
  refine PySem.W.eqv_refl_alike _ ?_
  induction qs with
  | nil => rfl
  | cons x xs ih => simpa [PySem.W.alike, PySem.W.alikeAll, pD] using ih
theorem dp_strs {K : PySem.W.Frag} {H : Hp} : ∀ xs : List Str, DpAll K H (xs.map V.str) (xs.map PyData.str)
  | [] => .nil
  | x :: xs => .cons (.str x) (dp_strs xs)
theorem dp_pair {K : PySem.W.Frag} {H : Hp} {t : Addr} {q : Int × Int} (h : H t = some (.tup [.int q.1, .int q.2])) : Dp K H (.ref t) (pD q) := .tup (SqT.of h) (.cons (.int _) (.cons (.int _) .nil))
theorem dp_pairs {K : PySem.W.Frag} {H : Hp} : ∀ L : List (Addr × (Int × Int)), (∀ p ∈ L, H p.1 = some (.tup [.int p.2.1, .int p.2.2])) → DpAll K H (L.map fun p => V.ref p.1) ((L.map (·.2)).map pD)
  | [], _ => .nil
  | p :: L, h => .cons (dp_pair (h p List.mem_cons_self)) (dp_pairs L fun q hq => h q (List.mem_cons_of_mem _ hq))
/-- a dict by names -/
theorem val_map (f : Str → V) {y : Str} : ∀ {l : List Str}, y ∈ l → valV (l.map fun x => ((Sum.inr x : Key), f x)) (Sum.inr y) = some (f y)
  | x :: l, h => by
    rw [List.map_cons]
    by_cases e : x = y
    · rw [valV_pos (by rw [e])]
      rw [e]
    · rw [valV_neg (fun z => e (Sum.inr.inj z))]
      exact val_map f ((List.mem_cons.mp h).resolve_left fun z => e z.symm)
theorem val_none (f : Str → V) {y : Str} : ∀ {l : List Str}, y ∉ l → valV (l.map fun x => ((Sum.inr x : Key), f x)) (Sum.inr y) = none
  | [], _ => rfl
  | x :: l, h => by
    rw [List.map_cons, valV_neg (fun z => h (by rw [Sum.inr.inj z]; exact List.mem_cons_self))]
    exact val_none f fun z => h (List.mem_cons_of_mem _ z)
theorem put_new (f : Str → V) {y : Str} {l : List Str} (h : y ∉ l) : putK (l.map fun x => ((Sum.inr x : Key), f x)) (Sum.inr y) (f y) = (l ++ [y]).map fun x => ((Sum.inr x : Key), f x) := by
  rw [putK_new _ (val_none f h), List.map_append]
  rfl
theorem put_old (f : Str → V) {y : Str} {v : V} {l : List Str} (h : y ∈ l) : putK (l.map fun x => ((Sum.inr x : Key), f x)) (Sum.inr y) v = l.map fun x => ((Sum.inr x : Key), if x = y then v else f x) := by
  have a : ((l.map fun x => ((Sum.inr x : Key), f x)).any fun kv => decide (kv.1 = Sum.inr y)) = true := by
    rw [List.any_eq_true]
    exact ⟨(Sum.inr y, f y), List.mem_map.mpr ⟨y, h, rfl⟩, by simp⟩
  unfold putK
  rw [if_pos a, List.map_map]
  refine List.map_congr_left fun x _ => ?_
  show (if (Sum.inr x : Key) = Sum.inr y then ((Sum.inr x : Key), v) else (Sum.inr x, f x)) = _
  by_cases e : x = y
  · rw [if_pos (by rw [e]), if_pos e]
  · rw [if_neg (fun z => e (Sum.inr.inj z)), if_neg e]
theorem merge_map (f : Str → V) : ∀ {l m : List Str}, (m ++ l).Nodup → mergeK (m.map fun x => ((Sum.inr x : Key), f x)) (l.map fun x => ((Sum.inr x : Key), f x)) = (m ++ l).map fun x => ((Sum.inr x : Key), f x)
  | [], m, _ => by rw [List.append_nil]; rfl
  | y :: l, m, h => by
    have h' : (m ++ [y] ++ l).Nodup := by rw [List.append_assoc]; exact h
    have ny : y ∉ m := fun z => by
      have := (List.nodup_append.mp h).2.2 y z y List.mem_cons_self
      exact this rfl
    show mergeK (putK _ (Sum.inr y) (f y)) (l.map fun x => ((Sum.inr x : Key), f x)) = _
    rw [put_new f ny, merge_map f h', List.append_assoc]
    rfl
end DQ
set_option Elab.async false
set_option linter.all false
set_option maxRecDepth 100000
set_option maxHeartbeats 4000000
namespace K16
open PySem PySem.Spec PyProof.Rows L2
open C8 (Cal Mak Met pe_c pe_mk pe_mt pe_mt0)
open SX (S)
/-- what more of the module's names are -/
structure B2 (mg : Str → Option Value) : Prop where
  sum : mg "sum" = none
  srt : mg "sorted" = none
  tup : mg "tuple" = none
  rep : mg "repr" = none
/-- a name -/
def Nm (x : Str) : Prop := ∃ z : List Nat, NM.ok z ∧ x = S z
/-- a dict of whole numbers by texts -/
abbrev idK (L : List Str) (g : Str → Int) : List (Key × V) := L.map fun x => ((Sum.inr x : Key), V.int (g x))
/-- how many seats -/
def rm (L : List Str) (g : Str → Int) (x : Str) : Int := if x ∈ L then g x else 0
theorem id_get {H : Hp} {d : Addr} {L : List Str} {g : Str → Int} (e : H d = some (.dK (idK L g))) {x : Str} (h : x ∈ L) : DGet H d (.str x) (some (.int (g x))) :=
  (DQ.val_map (fun y => V.int (g y)) h) ▸ DGet.k (k := Sum.inr x) e
theorem id_rm {H : Hp} {d : Addr} {L : List Str} {g : Str → Int} (e : H d = some (.dK (idK L g))) (x : Str) : ∃ o, DGet H d (.str x) o ∧ o.getD (.int 0) = .int (rm L g x) := by
  unfold rm
  by_cases h : x ∈ L
  · exact ⟨_, id_get e h, by rw [if_pos h]; rfl⟩
  · refine ⟨none, (DQ.val_none (fun y => V.int (g y)) h) ▸ DGet.k (k := Sum.inr x) e, ?_⟩
    rw [if_neg h]
    rfl
def addI (L : List Str) (x : Str) : List Str := if x ∈ L then L else L ++ [x]
def setI (g : Str → Int) (x : Str) (v : Int) : Str → Int := fun y => if y = x then v else g y
theorem id_put {L : List Str} {g : Str → Int} {x : Str} {v : Int} : putK (idK L g) (Sum.inr x) (.int v) = idK (addI L x) (setI g x v) := by
  unfold addI setI idK
  split
  · rename_i h
    rw [DQ.put_old (fun y => V.int (g y)) h]
    exact List.map_congr_left fun y _ => by by_cases e : y = x <;> simp [e]
  · rename_i h
    have e1 : (L.map fun y => ((Sum.inr y : Key), V.int (g y))) = L.map fun y => ((Sum.inr y : Key), V.int (if y = x then v else g y)) := List.map_congr_left fun y hy => by rw [if_neg (show ¬ y = x from fun e => h (e ▸ hy))]
    rw [e1]
    have e2 := DQ.put_new (fun y => V.int (if y = x then v else g y)) h
    rw [if_pos rfl] at e2
    exact e2
theorem addI_sub {L : List Str} {x y : Str} (h : y ∈ addI L x) : y ∈ L ∨ y = x := by
  unfold addI at h
  split at h
  · exact .inl h
  · rcases List.mem_append.mp h with z | z
    · exact .inl z
    · exact .inr (List.mem_singleton.mp z)
theorem addI_len (L : List Str) (x : Str) : (addI L x).length ≤ L.length + 1 := by
  unfold addI
  split
  · omega
  · rw [List.length_append]
    exact Nat.le_refl _
/-- riders F, the dict's names L, their seats g -/
structure Fk (F L : List Str) (g : Str → Int) : Prop where
  fl : F.length ≤ 12
  nd : F.Nodup
  fn : ∀ x ∈ F, Nm x
  ll : L.length ≤ 20
  ln : ∀ x ∈ L, Nm x
  gv : ∀ x ∈ L, 0 ≤ g x ∧ g x ≤ 9
theorem Fk.rm0 {F L : List Str} {g : Str → Int} (k : Fk F L g) (x : Str) : 0 ≤ rm L g x ∧ rm L g x ≤ 9 := by
  unfold rm
  split
  · rename_i h
    exact k.gv x h
  · omega
theorem in_strs (x : Str) : ∀ R : List Str, inV (.str x) (R.map V.str) = decide (x ∈ R)
  | [] => by simp [inV]
  | y :: R => by
    have ih := in_strs x R
    unfold inV at ih ⊢
    rw [List.map_cons, List.any_cons, ih]
    by_cases e : x = y
    · subst e
      simp [eqV]
    · have e2 : ¬ y = x := fun z => e z.symm
      simp [eqV, e, e2]
theorem flat_strs (R : List Str) : (R.map V.str).all flatV = true := by
  rw [List.all_eq_true]
  intro v hv
  obtain ⟨x, _, rfl⟩ := List.mem_map.mp hv
  rfl
/-! ### sorted texts -/
/-- sorted -/
noncomputable def sortS (xs : List Str) : List Str := Classical.choose (SRT.srtS xs)
theorem sortS_at (xs : List Str) : SRT.srt (xs.map V.str) (xs.map PyData.str) = (sortS xs).map V.str ∧ (sortS xs).Perm xs ∧ (sortS xs).Pairwise SRT.leS := Classical.choose_spec (SRT.srtS xs)
def rSortS (K : PySem.W.Frag) : List V → Hp → VK → Prop := fun vs H Q => ∃ (a : Addr) (xs : List Str), vs = [V.ref a] ∧ (SqL K H a (xs.map V.str) ∨ SqT K H a (xs.map V.str)) ∧ ∀ p : Addr, H p = none → Q (.ref p) (upd H p (.lst ((sortS xs).map V.str)))
theorem cr_sortS {X : Cx} (hu : X.A.units + 64 < cLine) : CallR X (.builtin "sorted") (rSortS X.K) := by
  intro pins s σ H vs us Q I r hh
  obtain ⟨a, xs, rfl, hs, q⟩ := hh
  refine SRT.cr_sortedD hu pins s σ H _ us Q I r ⟨a, _, xs.map PyData.str, rfl, hs, SRT.dpS xs, fun d h1 d' h2 => ?_, .inr fun d h1 => ?_, fun d h1 => ?_, fun p fp => ?_⟩
  · obtain ⟨x, _, rfl⟩ := List.mem_map.mp h1
    obtain ⟨y, _, rfl⟩ := List.mem_map.mp h2
    rfl
  · obtain ⟨x, _, rfl⟩ := List.mem_map.mp h1
    exact ⟨(nomatch ·), fun l => (nomatch ·)⟩
  · obtain ⟨x, _, rfl⟩ := List.mem_map.mp h1
    exact Nat.zero_le _
  · rw [(sortS_at xs).1]
    exact q p fp
/-! ### cuts -/
theorem cut_take {α : Type} (h : α → V) {F : List α} {i : Int} (i0 : 0 ≤ i) : cutV (F.map h) none (some i) = (F.take i.toNat).map h := by
  obtain ⟨n, rfl⟩ := Int.eq_ofNat_of_zero_le i0
  unfold cutV
  rw [HT.sIx_none, HT.sIx_nat, List.drop_zero, Nat.sub_zero, List.length_map, Int.toNat_natCast]
  rcases Nat.le_total n F.length with q | q
  · rw [Nat.min_eq_left q, List.map_take]
  · rw [Nat.min_eq_right q, List.take_of_length_le (by simp), List.take_of_length_le q]
theorem cut_drop {α : Type} (h : α → V) {F : List α} {i : Int} (i0 : 0 ≤ i) : cutV (F.map h) (some i) none = (F.drop i.toNat).map h := by
  obtain ⟨n, rfl⟩ := Int.eq_ofNat_of_zero_le i0
  unfold cutV
  rw [HT.sIx_nat, HT.sIx_none, List.length_map, Int.toNat_natCast, List.take_of_length_le (by simp)]
  rcases Nat.le_total n F.length with q | q
  · rw [Nat.min_eq_left q, List.map_drop]
  · rw [Nat.min_eq_right q, List.drop_of_length_le (by simp), List.drop_of_length_le q]
    rfl
end K16
set_option Elab.async false
set_option linter.all false
set_option maxRecDepth 100000
set_option maxHeartbeats 4000000
namespace K16
open PySem PySem.Spec PyProof.Rows L2
open C8 (Cal Mak Met pe_c pe_mk pe_mt pe_mt0)
abbrev ieT : List Value := [.type "IndexError", .type "LookupError", .type "Exception", .type "BaseException", .type "object"]
/-- what is known of NoSeats -/
structure KnS (K : PySem.W.Frag) (mg : Str → Option Value) (N fN : Addr) : Prop where
  gx : GX.Gx K N ieT "IndexError.__new__"
  iC : PySem.W.findIn K (.ref N) "__init__" = some (some (.ref fN))
  tI : PySem.W.typeIn K (.ref fN) = some (.type "function")
  vV : PySem.W.findCls K (.type "IndexError") (.type "type") "__init__" = some (.val (.builtin "IndexError.__init__"))
  no : PySem.W.findIn K (.ref N) "lack" = some none
  g : mg "NoSeats" = some (.ref N)
  zb : mg "IndexError" = none
theorem typIe : typeOf (.type "IndexError") = pure (.type "type") := by kernel_rfl
section
variable {P : Program} {w : World} {K : PySem.W.Frag} {mg : Str → Option Value} {base : Heap} {f N fN : Addr} {fd fdN : FuncData}
def spNs (N : Addr) : Sp := fun vs H Q _ => ∃ (a : Addr) (v : V), vs = [.ref a, v] ∧ H a = some (exo a N none) ∧ ∀ dx, H dx = none → dx ≠ a → Q .non (upd (upd H dx (exd dx [("lack", v)])) a (exo a N (some dx)))
theorem ok_Ns (F : Dn K d_NoSeats_init f fd) (T : KnS K mg N fN) : FnOk P w K mg base CX0 1 f fd ["self", "lack"] (spNs N) := by
  refine F.ok sc_NoSeats_init (fun vs H Q E h => ?_) (fun cdv A outer s H vs Q E hr h => ?_)
  · obtain ⟨a, v, rfl, _⟩ := h
    rfl
  · obtain ⟨a, v, rfl, ha, hQ⟩ := h
    refine ⟨_, PSs.nox (pss_cons (ps_expr (GX.pe_bi PySem.F.excBase_IndexError rfl T.zb PyProof.Rows.Boot.«IndexError» typIe T.vV (by decide +kernel) (by decide +kernel) (pa_cons (pv 0) (pa_cons pe_str pa_nil))))
      (pss_one (GX.ps_pf PySem.F.store_IndexError (nid := "IndexError.__new__") (pv 0) (pv 1)))), ?_⟩
    refine ⟨_, rfl, a, N, _, rfl, by show 1 ≤ 1000; decide, T.gx, ha, ?_⟩
    exact ⟨_, rfl, _, rfl, a, N, rfl, T.gx, T.no, ha, hQ⟩
theorem raiseS {H : Hp} {E : XK} {v : V} (hE : ∀ d H', Same H H' → H d = none → H' d = some (.xd [("lack", v)]) → E (.ref N) (some d) H') {H1 : Hp} (s1 : Same H H1) {a d : Addr} (ha : H1 a = none) (hd : (upd H1 a (exo a N none)) d = none) (ne : d ≠ a) :
    E (.ref N) (some d) (upd (del (upd (upd (upd H1 a (exo a N none)) d (exd d [("lack", v)])) a (exo a N (some d))) a) d (.xd [("lack", v)])) := by
  rw [upd_ne ne] at hd
  refine hE d _ (fun b o e => ?_) (s1.free hd) upd_same
  have e1 := s1 b o e
  have b1 : b ≠ d := ne_of_none e1 hd
  have b2 : b ≠ a := ne_of_none e1 ha
  rw [upd_ne b1, del_ne b2, upd_ne b2, upd_ne b1, upd_ne b2]
  exact e1
/-- seats_of -/
def spSo : Sp := fun vs H Q _ => ∃ (a d : Addr) (D L : List Str) (g : Str → Int), vs = [.ref a, .ref d] ∧ H a = some (.lst (D.map V.str)) ∧ H d = some (.dK (idK L g)) ∧ D.length ≤ 60 ∧
  ∀ (o : Addr) (H' : Hp), Same H H' → H o = none → H' o = some (.lst ((D.map fun x => rm L g x).map V.int)) → Q (.ref o) H'
theorem ok_so (F : Dn K d_seats_of f fd) : FnOk P w K mg base CX0 1 f fd ["names", "seats"] spSo := by
  refine F.ok sc_seats_of (fun vs H Q E h => ?_) (fun cdv A outer s H vs Q E hr h => ?_)
  · obtain ⟨a, d, D, L, g, rfl, _⟩ := h
    rfl
  · obtain ⟨a, d, D, L, g, rfl, ha, hd, ld, hQ⟩ := h
    have hu := hu_of hr
    refine ⟨_, PSs.nox (pss_one (ps_ret (pe_lc (own := [("name", 2)]) (g := gName 2) (tt := tYes) rfl sc_seats_of.nd (pi_list (pv 0)) (blkOk_by (N := N_seats_of) (sc := defScope s_seats_of) (by decide +kernel))
      (fun _ _ _ _ _ => pg_name (i := 2) sc_seats_of.nd rfl (Or.inl rfl)) (fun _ _ _ _ _ => pts_nil) (fun _ _ _ _ _ => pe_dget2 hu (pv 1) (pv 2) pe_int ⟨rfl, rfl, rfl, rfl⟩)))), ?_⟩
    refine ⟨_, rfl, a, rfl, ⟨_, SqL.of ha⟩, fun o fo => lc_list (K := K) (xs := D.map V.str) (fun i H' => Same H H' ∧ H' o = some (.lst (((D.take i).map fun x => rm L g x).map V.int))) ⟨same_new fo, upd_same⟩ (fun i H' _ q => SqL.of (q.1 _ _ ha)) ?_ ?_⟩
    · rintro i v H' hv ⟨s1, ho⟩
      obtain ⟨x, hx, rfl⟩ : ∃ x, D[i]? = some x ∧ v = .str x := by
        rw [List.getElem?_map] at hv
        obtain ⟨x, hx, e⟩ := Option.map_eq_some_iff.mp hv
        exact ⟨x, hx, e.symm⟩
      have il : i < D.length := (List.getElem?_eq_some_iff.mp hx).1
      obtain ⟨ov, h1, h2⟩ := id_rm (s1 _ _ hd) x
      refine ⟨rfl, ?_⟩
      refine ⟨_, rfl, d, rfl, .inl ⟨_, .inl (s1 _ _ hd)⟩, _, rfl, ov, h1, ?_⟩
      rw [h2]
      refine ⟨_, ho, ?_, fun b u e => ?_, ?_⟩
      · rw [List.length_map, List.length_map, List.length_take]
        exact Nat.lt_of_lt_of_le (by omega : min i D.length < 64) (by decide)
      · rw [upd_ne (ne_of_none e fo)]
        exact s1 _ _ e
      · rw [upd_same, List.take_succ, hx]
        simp
    · rintro H' ⟨s1, ho⟩
      rw [List.length_map, List.take_of_length_le (Nat.le_refl _)] at ho
      exact hQ o H' s1 fo ho
end
end K16
set_option Elab.async false
set_option linter.all false
set_option maxRecDepth 100000
set_option maxHeartbeats 4000000
/-! KW1: f(x, k=y) of Python's own functions: sorted(xs, reverse=True) and min(xs, default=d) of whole numbers; max of a list of pairs. -/
namespace KW1
open PySem PySem.Spec PyProof.Rows L2
section
variable {X : Cx}
/-- a call by one place and one name -/
def CallK (X : Cx) (id : String) (k : Str) (r : V → V → Hp → VK → Prop) : Prop := ∀ (pins : List (Addr × Obj)) (s : Shared) (σ : L2.St) (H : Hp) (a y : V) (u v : Value) (Q : VK), Inv X pins σ H s → RelV a u → RelV y v → r a y H Q →
  wpAny (model X.prog X.w) X.A (call (.builtin id) [u] [(k, v)]) (EP X pins σ Q) X.xe s
def tK1 (ta : TA) (tv : TE) (r : V → V → Hp → VK → Prop) : TE := fun σ H Q => ta σ H fun vs H1 => ∃ a, vs = [a] ∧ tv σ H1 fun y H2 => r a y H2 Q
theorem pe_kw1 {id : String} {x k : Str} {r : V → V → Hp → VK → Prop} {e ev : Expr} {ta : TA} {tv : TE} {p kpos pos : Pos} (hc : CallK X id k r) (hg : Gl X x) (hm : X.mg x = none) (hv : bootBuiltins x = some (.builtin id)) (ha : PA X [e] ta) (hw : PE X ev tv)
    (he : backTo pos (starEach [e] X.env) = (false, eval e X.env) :: backTo pos (starEach [] X.env) := by rfl) (hpl : (backTo pos (starEach [e] X.env)).any (·.1) = false := by rfl) (hn : x ≠ "__name__" := by decide) (hd : (x == ("__debug__" : Str)) = false := by decide) :
    PE X (.Call (.Name x p) [e] [⟨some k, ev, kpos⟩] pos) (tK1 ta tv r) := by
  refine ⟨fun pins s σ H Q I h => ?_⟩
  refine wpAny_Call_Name_kw (ld_blt I hg hm hv ?_ hn hd)
  refine PyProof.Rows.callWith_kw (thn (ha.run pos pins s σ H (fun vs H1 => ∃ a, vs = [a] ∧ tv σ H1 fun y H2 => r a y H2 Q) I h) fun us s1 ⟨vs, H1, I1, r1, q1⟩ => ?_) he hpl
  obtain ⟨a, rfl, q1⟩ := q1
  obtain ⟨u, rfl, ru⟩ := vals1 r1
  show wpAny _ _ (evalAll ((do let v ← eval ev X.env; standAt pos; pure v) :: [])) _ _ s1
  refine wpAny_evalAll_cons (wpAny_bind (thn (hw.run pins s1 σ H1 _ I1 q1) fun v s2 ⟨y, H2, I2, r2, q2⟩ => ?_))
  refine wpAny_bind (wpAny_standAt (wpAny_pure (wpAny_evalAll_nil ?_)))
  exact hc pins s2 σ H2 a y u v Q I2 ru r2 q2
/-! ### sorted(xs, reverse=True), whole numbers -/
def dscI (ns : List Int) : List Int := ns.mergeSort fun a b => decide (b ≤ a)
def rSortRev (K : PySem.W.Frag) : V → V → Hp → VK → Prop := fun a y H Q => ∃ (l : Addr) (ns : List Int), a = .ref l ∧ y = .bl true ∧ SqL K H l (ns.map V.int) ∧ ∀ p, H p = none → Q (.ref p) (upd H p (.lst ((dscI ns).map V.int)))
theorem each_ints : ∀ {ns : List Int} {us : List Value}, Vals (ns.map V.int) us → PySem.W.EachIs (fun v (n : Int) => RelV (.int n) v) us ns
  | [], _, r => by
    cases r
    exact .nil
  | n :: ns, _, r => by
    cases r with
    | cons r1 r2 => exact .cons r1 (each_ints r2)
theorem ints_each : ∀ {us : List Value} {ns : List Int}, PySem.W.EachIs (fun v (n : Int) => RelV (.int n) v) us ns → Vals (ns.map V.int) us
  | _, _, .nil => .nil
  | _, _, .cons r h => .cons r (ints_each h)
theorem ck_sortRev (hu : X.A.units + 64 < cLine) : CallK X "sorted" "reverse" (rSortRev X.K) := by
  intro pins s σ H a y u v Q I ra ry hh
  obtain ⟨l, ns, rfl, rfl, hs, q⟩ := hh
  cases ra
  cases ry
  obtain ⟨its, rv, hl, hz⟩ := I.list hs
  rw [List.length_map] at hz
  refine PySem.W.sorted_rev_data (R := fun v (n : Int) => RelV (.int n) v) (enc := fun n : Int => PyData.int n) (bs := ns) (vs := its) hl.isList (each_ints rv) ((each_ints rv).mono fun v n r => by obtain ⟨t, rfl⟩ := r; exact ⟨[], .int _ _⟩)
    (PySem.W.AllAlike.of fun _ _ => rfl) (PySem.W.Sortable.others fun _ => ⟨(nomatch ·), fun _ => (nomatch ·)⟩) hz (fun n _ => ?_) fun out lo eo => ?_
  · show X.A.units + 2 + 0 < cLine
    omega
  have eD : PySem.W.dataLe true (fun n : Int => PyData.int n) = fun a b : Int => decide (b ≤ a) := by
    rw [PySem.W.dataGe_int]
  rw [eD] at eo
  have vo := ints_each eo
  obtain ⟨ep, he'⟩ := PyProof.Rows.sortedAll_at s.heap its out.toArray
  have hlen : ((dscI ns).map V.int).length ≤ sizeLine := by
    rw [List.length_map]
    unfold dscI
    rw [(List.mergeSort_perm _ _).length_eq]
    exact hz
  exact ⟨.ref _, upd H (s.heap.objs.size + 1) (.lst ((dscI ns).map V.int)), I.laid (t' := s.toks) (fun _ _ => PyProof.Rows.sortedAll_old) (Nat.le_succ _) ⟨hlen, out, ep, vo, he'⟩, rfl, q _ (I.hok.fresh (Nat.le_succ _))⟩
/-! ### min(xs, default=d) -/
theorem reads_ints {h : Heap} : ∀ {ns : List Int} {us : List Value}, Vals (ns.map V.int) us → ReadsAll h us (ns.map PyData.int) []
  | [], _, r => by
    cases r
    exact .nil
  | n :: ns, _, r => by
    cases r with
    | cons r1 r2 =>
      obtain ⟨t, rfl⟩ := r1
      exact .cons (as := []) (.int _ _) (reads_ints r2)
theorem alike_all (ns : List Int) : PySem.W.AlikeAll (ns.map PyData.int) := ⟨fun x hx y hy => by
    obtain ⟨_, _, rfl⟩ := List.mem_map.mp hx
    obtain ⟨_, _, rfl⟩ := List.mem_map.mp hy
    rfl, fun x hx => by
    obtain ⟨_, _, rfl⟩ := List.mem_map.mp hx
    exact (nomatch ·)⟩
theorem depth0 : ∀ ns : List Int, PyData.depthAll (ns.map PyData.int) = 0
  | [] => by simp [PyData.depthAll]
  | n :: ns => by
    rw [List.map_cons, PyData.depthAll, depth0 ns]
    simp [PyData.depth]
def rMinDef (K : PySem.W.Frag) : V → V → Hp → VK → Prop := fun a y H Q => ∃ (l : Addr) (ns : List Int), a = .ref l ∧ SqL K H l (ns.map V.int) ∧ (ns = [] → Q y H) ∧ ∀ n ns', ns = n :: ns' → Q (.int (ns'.foldl min n)) H
theorem ck_minDef (hc : X.calm = true) (hu : X.A.units + 64 < cLine) : CallK X "min" "default" (rMinDef X.K) := by
  intro pins s σ H a y u v Q I ra ry hh
  obtain ⟨l, ns, rfl, hs, q0, q1⟩ := hh
  cases ra
  obtain ⟨its, rv, hl, hz⟩ := I.list hs
  refine PySem.W.min_list_default (I.ok.hd hc) hl.isList (by simpa using reads_ints (h := s.heap) rv) (alike_all ns) (by rw [depth0]; omega) (fun e h' tk hk => ?_) fun y' ys i v' h' tk bs e hi hr hk => ?_
  · have : ns = [] := List.map_eq_nil_iff.mp e
    exact ⟨y, H, I.kept hk, ry, q0 this⟩
  · match ns, e with
    | n :: ns, e =>
      have e' := List.cons.inj e
      rw [← e'.1, ← e'.2, PySem.W.minD_ints] at hr
      cases hr with
      | int i t => exact ⟨.int _, H, I.kept hk, ⟨t, rfl⟩, q1 n ns rfl⟩
end
end KW1
set_option Elab.async false
set_option linter.all false
set_option maxRecDepth 100000
set_option maxHeartbeats 4000000
namespace K16
open KW1 (dscI)
/-! ### the most seats of so many -/
def stp (x : Int) (t : Nat → Int) : Nat → Int
  | 0 => t 0
  | k + 1 => if 0 ≤ t k then max (t (k + 1)) (t k + x) else t (k + 1)
def tb : List Int → Nat → Int
  | [] => fun k => if k = 0 then 0 else -1
  | x :: l => stp x (tb l)
theorem dsc_perm (l : List Int) : (dscI l).Perm l := List.mergeSort_perm _ _
theorem dsc_pw (l : List Int) : (dscI l).Pairwise fun a b => b ≤ a := by
  have h := List.pairwise_mergeSort (le := fun a b : Int => decide (b ≤ a)) (fun a b c h1 h2 => decide_eq_true (by have := of_decide_eq_true h1; have := of_decide_eq_true h2; omega)) (fun a b => by
    by_cases h : b ≤ a
    · simp [h]
    · have : a ≤ b := by omega
      simp [this]) l
  exact h.imp fun {a b} z => of_decide_eq_true z
theorem sum_nn {l : List Int} (h : ∀ x ∈ l, 0 ≤ x) : 0 ≤ l.sum := by
  induction l with
  | nil => exact Int.le_refl _
  | cons x l ih =>
    have := h x List.mem_cons_self
    have := ih fun y hy => h y (List.mem_cons_of_mem _ hy)
    rw [List.sum_cons]
    omega
theorem take_sum {l : List Int} {k : Nat} {x : Int} (h : l[k]? = some x) : (l.take (k + 1)).sum = (l.take k).sum + x := by
  rw [List.take_succ, h, List.sum_append]
  simp
theorem take_app {A C : List Int} (j : Nat) : (A ++ C).take (A.length + j) = A ++ C.take j := by
  rw [List.take_append, List.take_of_length_le (by omega), Nat.add_sub_cancel_left]
theorem tb_eq : ∀ (l S : List Int), S.Perm l → S.Pairwise (fun a b => b ≤ a) → (∀ x ∈ l, 0 ≤ x) → ∀ k, tb l k = if k ≤ l.length then (S.take k).sum else -1
  | [], S, pm, _, _, k => by
    rw [List.Perm.eq_nil pm]
    match k with
    | 0 => rfl
    | k + 1 => rfl
  | x :: l, S, pm, pw, nn, k => by
    have hx : x ∈ S := pm.symm.subset List.mem_cons_self
    obtain ⟨A, B, rfl⟩ := List.append_of_mem hx
    have pm0 : (A ++ B).Perm l := (List.perm_middle.symm.trans pm).cons_inv
    rw [List.pairwise_append, List.pairwise_cons] at pw
    obtain ⟨pA, ⟨xB, pB⟩, pAB⟩ := pw
    have nnl : ∀ y ∈ l, 0 ≤ y := fun y hy => nn y (List.mem_cons_of_mem _ hy)
    have nx := nn x List.mem_cons_self
    have ih := tb_eq l (A ++ B) pm0 (List.pairwise_append.mpr ⟨pA, pB, fun a ha b hb => pAB a ha b (List.mem_cons_of_mem _ hb)⟩) nnl
    have ll : (A ++ B).length = l.length := pm0.length_eq
    rw [List.length_append] at ll
    show stp x (tb l) k = _
    have pos : ∀ j, 0 ≤ ((A ++ B).take j).sum := fun j => sum_nn fun y hy => nnl y (pm0.subset (List.mem_of_mem_take hy))
    match k with
    | 0 =>
      show tb l 0 = _
      rw [ih]
      simp
    | k + 1 =>
      show (if 0 ≤ tb l k then max (tb l (k + 1)) (tb l k + x) else tb l (k + 1)) = _
      rw [ih k, ih (k + 1), List.length_cons]
      by_cases hk : k ≤ l.length
      · rw [if_pos hk, if_pos (pos k), if_pos (by omega : k + 1 ≤ l.length + 1)]
        by_cases ka : k + 1 ≤ A.length
        · -- among the greater ones
          obtain ⟨a, ha⟩ : ∃ a, A[k]? = some a := ⟨_, List.getElem?_eq_getElem ka⟩
          have xa : x ≤ a := pAB a (List.mem_of_getElem? ha) x List.mem_cons_self
          rw [if_pos (by omega)]
          have e1 : (A ++ B).take (k + 1) = A.take (k + 1) := List.take_append_of_le_length ka
          have e2 : (A ++ B).take k = A.take k := List.take_append_of_le_length (by omega)
          have e3 : (A ++ x :: B).take (k + 1) = A.take (k + 1) := List.take_append_of_le_length ka
          rw [e1, e2, e3, take_sum ha]
          exact Int.max_eq_left (by omega)
        · obtain ⟨m, rfl⟩ : ∃ m, k = A.length + m := ⟨k - A.length, by omega⟩
          have e2 : (A ++ B).take (A.length + m) = A ++ B.take m := take_app m
          have e3 : (A ++ x :: B).take (A.length + m + 1) = A ++ x :: B.take m := by
            rw [show A.length + m + 1 = A.length + (m + 1) by omega, take_app]
            rfl
          have e1 : (A ++ B).take (A.length + m + 1) = A ++ B.take (m + 1) := by
            rw [show A.length + m + 1 = A.length + (m + 1) by omega, take_app]
          rw [e1, e2, e3, List.sum_append, List.sum_append, List.sum_append, List.sum_cons]
          by_cases hm : A.length + m + 1 ≤ l.length
          · rw [if_pos hm]
            obtain ⟨b, hb⟩ : ∃ b, B[m]? = some b := ⟨_, List.getElem?_eq_getElem (by omega)⟩
            have bx := xB b (List.mem_of_getElem? hb)
            rw [take_sum hb]
            rw [Int.max_eq_right (by omega)]
            omega
          · rw [if_neg hm]
            have h1 := pos (A.length + m)
            rw [e2, List.sum_append] at h1
            rw [Int.max_eq_right (by omega)]
            omega
      · rw [if_neg hk, if_neg (by omega), if_neg (by omega), if_neg (by omega)]
/-! ### how few -/
def cnt (n : Int) : List Int → Nat
  | [] => 0
  | m :: ms => if n ≤ 0 then 0 else 1 + cnt (n - m) ms
theorem cnt_cons (n m : Int) (ms : List Int) : cnt n (m :: ms) = if n ≤ 0 then 0 else 1 + cnt (n - m) ms := rfl
theorem cnt_lt (S : List Int) : ∀ (n : Int) (j : Nat), j < cnt n S → (S.take j).sum < n := by
  induction S with
  | nil =>
    intro n j h
    exact absurd h (Nat.not_lt_zero _)
  | cons m S ih =>
    intro n j h
    unfold cnt at h
    by_cases n0 : n ≤ 0
    · rw [if_pos n0] at h
      exact absurd h (Nat.not_lt_zero _)
    · rw [if_neg n0] at h
      match j with
      | 0 =>
        show (0 : Int) < n
        omega
      | j + 1 =>
        have := ih (n - m) j (by omega)
        rw [List.take_succ_cons, List.sum_cons]
        omega
theorem cnt_le (S : List Int) : ∀ n : Int, cnt n S ≤ S.length := by
  induction S with
  | nil => intro n; exact Nat.le_refl _
  | cons m S ih =>
    intro n
    unfold cnt
    have := ih (n - m)
    split
    · exact Nat.zero_le _
    · rw [List.length_cons]
      omega
theorem cnt_at (S : List Int) : ∀ n : Int, n ≤ S.sum → n ≤ (S.take (cnt n S)).sum := by
  induction S with
  | nil =>
    intro n h
    exact h
  | cons m S ih =>
    intro n h
    unfold cnt
    by_cases n0 : n ≤ 0
    · rw [if_pos n0]
      exact n0
    · rw [if_neg n0, Nat.add_comm, List.take_succ_cons, List.sum_cons]
      rw [List.sum_cons] at h
      have := ih (n - m) (by omega)
      omega
end K16
set_option Elab.async false
set_option linter.all false
set_option maxRecDepth 100000
set_option maxHeartbeats 4000000
namespace K16
open PySem PySem.Spec PyProof.Rows L2
open C8 (Cal Mak Met pe_c pe_mk pe_mt pe_mt0)
open KW1 (dscI)
theorem strs_at {F : List Str} {i : Nat} {v : V} (hv : (F.map V.str)[i]? = some v) : ∃ x, F[i]? = some x ∧ v = .str x := by
  rw [List.getElem?_map] at hv
  obtain ⟨x, hx, e⟩ := Option.map_eq_some_iff.mp hv
  exact ⟨x, hx, e.symm⟩
/-- all seats -/
def sts (F L : List Str) (g : Str → Int) : List Int := F.map fun x => rm L g x
def lac (F L : List Str) (g : Str → Int) : Int := if ((F.length : Int) - (sts F L g).sum) > 0 then (F.length : Int) - (sts F L g).sum else 0
section
variable {P : Program} {w : World} {K : PySem.W.Frag} {mg : Str → Option Value} {base : Heap} {f N fN : Addr} {fd fdN : FuncData}
def spLa : Sp := fun vs H Q _ => ∃ (a d : Addr) (F L : List Str) (g : Str → Int), vs = [.ref a, .ref d] ∧ H a = some (.lst (F.map V.str)) ∧ H d = some (.dK (idK L g)) ∧ F.length ≤ 60 ∧ ∀ H', Same H H' → Q (.int (lac F L g)) H'
theorem ok_la (Fd : Dn K d_lacking f fd) (b : Bl mg) (b2 : B2 mg) (cS : Cal P w K mg base 1 "seats_of" spSo []) : FnOk P w K mg base CX0 2 f fd ["riders", "seats"] spLa := by
  refine Fd.ok sc_lacking (fun vs H Q E h => ?_) (fun cdv A outer s H vs Q E hr h => ?_)
  · obtain ⟨_, _, _, _, _, rfl, _⟩ := h
    rfl
  · obtain ⟨a, d, F, L, g, rfl, ha, hd, lF, hQ⟩ := h
    refine ⟨_, PSs.nox (pss_one (ps_ret (pe_callB (call_max2 rfl) rfl b.max boot_max (pa_cons pe_int (pa_cons (pe_op op_sub (pe_callB call_len_seq rfl b.len boot_len (pa_cons (pv 0) pa_nil)) (pe_callB (cr_sum rfl) rfl b2.sum boot_sum (pa_cons (pe_c cS hr (by decide) rfl (pa_cons (pv 0) (pa_cons (pv 1) pa_nil))) pa_nil))) pa_nil))))), ?_⟩
    refine ⟨_, rfl, a, _, rfl, .inl (SqL.of ha), _, rfl, _, rfl, a, d, F, L, g, rfl, ha, hd, lF, fun o H1 s1 fo ho => ?_⟩
    refine ⟨o, _, rfl, SqL.of ho, _, _, rfl, rfl, _, _, rfl, ?_⟩
    have e := hQ H1 s1
    unfold lac sts at e
    rw [List.length_map]
    exact e
def spFe (N : Addr) : Sp := fun vs H Q E => ∃ (a d : Addr) (F L : List Str) (g : Str → Int), vs = [.ref a, .ref d] ∧ H a = some (.lst (F.map V.str)) ∧ H d = some (.dK (idK L g)) ∧ F.length ≤ 60 ∧
  (lac F L g ≤ 0 → ∀ H', Same H H' → Q (.int ((cnt (F.length : Int) (dscI (sts F L g)) : Nat) : Int)) H') ∧
  (0 < lac F L g → ∀ dx H', Same H H' → H dx = none → H' dx = some (.xd [("lack", .int (lac F L g))]) → E (.ref N) (some dx) H')
theorem ok_fe (Fd : Dn K d_fewest f fd) (b : Bl mg) (b2 : B2 mg) (T : KnS K mg N fN) (cS : Cal P w K mg base 1 "seats_of" spSo []) (cL : Cal P w K mg base 2 "lacking" spLa []) (FN : FnOk P w K mg base CX0 1 fN fdN ["self", "lack"] (spNs N)) (bN : Binds K fdN ["self", "lack"] []) :
    FnOk P w K mg base (L2.CX P w) 4 f fd ["riders", "seats"] (spFe N) := by
  refine Fd.ok sc_fewest (fun vs H Q E h => ?_) (fun cdv A outer s H vs Q E hr h => ?_)
  · obtain ⟨_, _, _, _, _, rfl, _⟩ := h
    rfl
  · obtain ⟨a, d, F, L, g, rfl, ha, hd, lF, hQ, hE⟩ := h
    have hu64 : (A.deeper (envOfC d_fewest.qual d_fewest.scope s.heap.objs.size f cdv)).units + 64 < cLine := by have := hr.un; omega
    refine ⟨_, pss_cons (ps_set (i := 2) sc_fewest.nd rfl (.inl rfl) (pe_c cL hr (by decide) rfl (pa_cons (pv 0) (pa_cons (pv 1) pa_nil))))
      (pss_cons (ps_if (pt_cmpR op_gt (pv 2) pe_int (nomark _)) (pss_one (ps_raise rfl (takes_of rfl rfl rfl rfl) (GX.pmk_gx PySem.F.excBase_IndexError T.gx T.iC T.tI FN (hr.mono (by decide)) bN .nil pass0 rfl T.g (pa_cons (pv 2) pa_nil)))) pss_nil)
      (pss_cons (ps_set (i := 3) sc_fewest.nd rfl (.inl rfl) pe_int)
      (pss_cons (ps_set (i := 4) sc_fewest.nd rfl (.inl rfl) (pe_callB call_len_seq rfl b.len boot_len (pa_cons (pv 0) pa_nil)))
      (pss_cons (ps_for (passes_of rfl) rfl (pi_list (KW1.pe_kw1 (KW1.ck_sortRev hu64) rfl b2.srt boot_sorted (pa_cons (pe_c cS hr (by decide) rfl (pa_cons (pv 0) (pa_cons (pv 1) pa_nil))) pa_nil) pe_bl)) (pg_name (i := 5) sc_fewest.nd rfl (.inl rfl))
        (pss_cons (ps_if (pt_cmpR op_le (pv 4) pe_int (nomark _)) (pss_one ps_break) pss_nil)
        (pss_cons (ps_aug (i := 3) sc_fewest.nd rfl (.inl rfl) pe_int ip_add)
        (pss_one (ps_aug (i := 4) sc_fewest.nd rfl (.inl rfl) (pv 5) ip_sub)))))
      (pss_one (ps_ret (pv 3))))))), ?_⟩
    refine ⟨_, rfl, _, rfl, a, d, F, L, g, rfl, ha, hd, lF, fun H1 s1 => ?_⟩
    refine ⟨_, rfl, _, _, rfl, rfl, _, rfl, ?_⟩
    refine ite2 (fun c1 => ?_) (fun c1 => ?_)
    · have k0 : 0 < lac F L g := of_decide_eq_true c1
      exact ⟨_, rfl, by show 1 ≤ 1000; decide, fun x hx => ⟨x, _, rfl, upd_same, fun q hq ne => ⟨rfl, q, _, upd_same, (by rw [upd_ne ne]; exact upd_same), (by rw [upd_ne ne] at hq; exact hq), raiseS (hE k0) s1 hx hq ne⟩⟩⟩
    have k0 : lac F L g ≤ 0 := by
      have : ¬ 0 < lac F L g := fun z => c1 (decide_eq_true z)
      omega
    refine ⟨_, rfl, a, _, rfl, .inl (SqL.of (s1 _ _ ha)), ?_⟩
    refine ⟨_, rfl, _, rfl, a, d, F, L, g, rfl, s1 _ _ ha, s1 _ _ hd, lF, fun o H2 s2 fo ho => ?_⟩
    refine ⟨_, rfl, o, _, rfl, rfl, SqL.of ho, fun q fq => ?_⟩
    rw [show (F.map fun x => rm L g x) = sts F L g from rfl]
    have s3 := same_new (o := .lst ((dscI (sts F L g)).map V.int)) fq
    have hq : (upd H2 q (.lst ((dscI (sts F L g)).map V.int))) q = some (.lst ((dscI (sts F L g)).map V.int)) := upd_same
    have hQ := hQ k0 _ ((s1.trans s2).trans s3)
    generalize upd H2 q (.lst ((dscI (sts F L g)).map V.int)) = H3 at s3 hq hQ ⊢
    generalize dscI (sts F L g) = S at hq hQ
    refine ⟨q, rfl, ⟨_, SqL.of hq⟩, for_list (K := K) (xs := S.map V.int) (fun i σ H' => H' = H3 ∧ ∃ v5, σ = [some (.ref a), some (.ref d), some (.int (lac F L g)), some (.int (i : Int)), some (.int ((((F.map V.str).length : Nat) : Int) - (S.take i).sum)), v5] ∧ cnt (F.length : Int) S = i + cnt ((F.length : Int) - (S.take i).sum) (S.drop i)) ?_ ?_ ?_ ?_⟩
    · refine ⟨rfl, none, ?_, ?_⟩
      · simp
        rfl
      · simp
    · rintro i σ H' _ ⟨rfl, _⟩
      exact SqL.of hq
    · rintro i v σ H' hv ⟨rfl, v5, rfl, ec⟩
      rw [List.getElem?_map] at hv
      obtain ⟨m, hm, rfl⟩ := Option.map_eq_some_iff.mp hv
      have il := (List.getElem?_eq_some_iff.mp hm).1
      have ed : S.drop i = m :: S.drop (i + 1) := by
        rw [List.drop_eq_getElem_cons il]
        rw [(List.getElem?_eq_some_iff.mp hm).2]
      have et := take_sum hm
      rw [ed] at ec
      rw [cnt_cons] at ec
      refine ⟨_, rfl, _, _, rfl, rfl, _, rfl, ?_⟩
      refine ite2 (fun c1 => ?_) (fun c1 => ?_)
      · have l0 : (F.length : Int) - (S.take i).sum ≤ 0 := by
          have := of_decide_eq_true c1
          rw [List.length_map] at this
          exact this
        rw [if_pos l0] at ec
        rw [ec] at hQ
        exact ⟨_, rfl, hQ⟩
      · have l0 : ¬ (F.length : Int) - (S.take i).sum ≤ 0 := fun z => c1 (decide_eq_true (by rw [List.length_map]; exact z))
        rw [if_neg l0] at ec
        refine ⟨_, rfl, _, _, rfl, rfl, ?_⟩
        refine ⟨_, rfl, _, rfl, _, _, rfl, rfl, ?_⟩
        refine ⟨rfl, some (.int m), ?_, ?_⟩
        · rw [et, ← Int.sub_sub]
          rfl
        · rw [et, ec, ← Int.sub_sub]
          omega
    · rintro σ H' ⟨rfl, v5, rfl, ec⟩
      rw [List.length_map] at ec ⊢
      rw [List.drop_length] at ec
      have ec : cnt (F.length : Int) S = S.length := ec
      rw [ec] at hQ
      exact ⟨_, rfl, hQ⟩
end
end K16
set_option Elab.async false
set_option linter.all false
set_option maxRecDepth 100000
set_option maxHeartbeats 4000000
namespace K16
open PySem PySem.Spec PyProof.Rows L2
open KW1 (dscI)
/-! ### the best of so many -/
def best (k : Nat) (l : List Int) : Int := ((dscI l).take k).sum
theorem perm_sum {l m : List Int} (h : l.Perm m) : l.sum = m.sum := by
  induction h with
  | nil => rfl
  | cons x _ ih => rw [List.sum_cons, List.sum_cons, ih]
  | swap x y l => simp only [List.sum_cons]; omega
  | trans _ _ h1 h2 => exact h1.trans h2
theorem best_tb {l : List Int} (nn : ∀ x ∈ l, 0 ≤ x) {k : Nat} (h : k ≤ l.length) : tb l k = best k l := by
  rw [tb_eq l (dscI l) (dsc_perm l) (dsc_pw l) nn k, if_pos h]
  rfl
theorem best_all {l : List Int} {k : Nat} (h : l.length ≤ k) : best k l = l.sum := by
  unfold best
  rw [List.take_of_length_le (by rw [(dsc_perm l).length_eq]; exact h), perm_sum (dsc_perm l)]
theorem best_nn {l : List Int} (nn : ∀ x ∈ l, 0 ≤ x) (k : Nat) : 0 ≤ best k l := sum_nn fun x hx => nn x ((dsc_perm l).subset (List.mem_of_mem_take hx))
theorem best_zero (l : List Int) : best 0 l = 0 := rfl
theorem best_nil (k : Nat) : best k [] = 0 := by rw [best_all (Nat.zero_le _)]; rfl
theorem tb_over {l : List Int} (nn : ∀ x ∈ l, 0 ≤ x) {k : Nat} (h : l.length < k) : tb l k = -1 := by
  rw [tb_eq l (dscI l) (dsc_perm l) (dsc_pw l) nn k, if_neg (by omega)]
/-- with one more: with it, or without -/
theorem best_cons {x : Int} {l : List Int} (nx : 0 ≤ x) (nn : ∀ y ∈ l, 0 ≤ y) (k : Nat) : best (k + 1) (x :: l) = if k + 1 ≤ l.length then max (best (k + 1) l) (x + best k l) else x + best k l := by
  have nn' : ∀ y ∈ x :: l, 0 ≤ y := fun y hy => by
    rcases List.mem_cons.mp hy with rfl | hy
    · exact nx
    · exact nn y hy
  by_cases h : k ≤ l.length
  · have e := best_tb nn' (k := k + 1) (by rw [List.length_cons]; omega)
    rw [← e]
    show (if 0 ≤ tb l k then max (tb l (k + 1)) (tb l k + x) else tb l (k + 1)) = _
    rw [best_tb nn h, if_pos (best_nn nn k)]
    by_cases h2 : k + 1 ≤ l.length
    · rw [if_pos h2, best_tb nn h2, Int.add_comm (best k l) x]
    · rw [if_neg h2, tb_over nn (by omega)]
      have := best_nn nn k
      omega
  · rw [if_neg (by omega), best_all (by rw [List.length_cons]; omega), best_all (by omega), List.sum_cons]
theorem best_skip {x : Int} {l : List Int} (nx : 0 ≤ x) (nn : ∀ y ∈ l, 0 ≤ y) (k : Nat) : best k l ≤ best k (x :: l) := by
  match k with
  | 0 => exact Int.le_refl _
  | k + 1 =>
    rw [best_cons nx nn]
    by_cases h : k + 1 ≤ l.length
    · rw [if_pos h]
      omega
    · rw [if_neg h, best_all (l := l) (k := k + 1) (by omega), best_all (l := l) (k := k) (by omega)]
      omega
theorem best_take {x : Int} {l : List Int} (nx : 0 ≤ x) (nn : ∀ y ∈ l, 0 ≤ y) (k : Nat) : x + best k l ≤ best (k + 1) (x :: l) := by
  rw [best_cons nx nn]
  split <;> omega
theorem best_or {x : Int} {l : List Int} (nx : 0 ≤ x) (nn : ∀ y ∈ l, 0 ≤ y) {k : Nat} {v : Int} (h : v ≤ best (k + 1) (x :: l)) (h2 : x + best k l < v) : v ≤ best (k + 1) l := by
  rw [best_cons nx nn] at h
  split at h <;> omega
theorem best_mono {l : List Int} (nn : ∀ y ∈ l, 0 ≤ y) : ∀ {j k : Nat}, j ≤ k → best j l ≤ best k l := by
  intro j k h
  unfold best
  have e : ((dscI l).take k).sum = (((dscI l).take k).take j).sum + (((dscI l).take k).drop j).sum := by rw [← List.sum_append, List.take_append_drop]
  rw [List.take_take, Nat.min_eq_left h] at e
  have := sum_nn (l := ((dscI l).take k).drop j) fun x hx => nn x ((dsc_perm l).subset (List.mem_of_mem_take (List.mem_of_mem_drop hx)))
  omega
theorem dsc_eq {l m : List Int} (h : l.Perm m) : dscI l = dscI m := by
  have pm : (dscI l).Perm (dscI m) := ((dsc_perm l).trans h).trans (dsc_perm m).symm
  exact List.Perm.eq_of_pairwise (le := fun a b : Int => b ≤ a) (fun a b _ _ h1 h2 => Int.le_antisymm h2 h1) (dsc_pw l) (dsc_pw m) pm
theorem best_perm {l m : List Int} (h : l.Perm m) (k : Nat) : best k l = best k m := by
  unfold best
  rw [dsc_eq h]
section
variable {s : Str → Int}
/-- some of a list, not beyond the best -/
theorem sub_best (nn : ∀ x, 0 ≤ s x) {A xs : List Str} (h : A.Sublist xs) : (A.map s).sum ≤ best A.length (xs.map s) := by
  have nl : ∀ (l : List Str), ∀ y ∈ l.map s, 0 ≤ y := fun l y hy => by
    obtain ⟨x, _, rfl⟩ := List.mem_map.mp hy
    exact nn x
  induction h with
  | slnil => exact Int.le_refl _
  | @cons l₁ l₂ a _ ih =>
    rw [List.map_cons]
    exact Int.le_trans ih (best_skip (nn a) (nl l₂) _)
  | @cons_cons l₁ l₂ a _ ih =>
    rw [List.map_cons, List.map_cons, List.sum_cons, List.length_cons]
    have := best_take (nn a) (nl l₂) l₁.length
    omega
/-- who drives, one behind another -/
def gr (s : Str → Int) : List Str → Nat → Int → List Str
  | [], _, _ => []
  | x :: r, m, l => if 0 < m ∧ l ≤ s x + best (m - 1) (r.map s) then x :: gr s r (m - 1) (l - s x) else gr s r m l
theorem gr_cons (x : Str) (r : List Str) (m : Nat) (l : Int) : gr s (x :: r) m l = if 0 < m ∧ l ≤ s x + best (m - 1) (r.map s) then x :: gr s r (m - 1) (l - s x) else gr s r m l := rfl
theorem gr_nil (m : Nat) (l : Int) : gr s [] m l = [] := rfl
theorem gr_sub : ∀ (xs : List Str) (m : Nat) (l : Int), (gr s xs m l).Sublist xs ∧ (gr s xs m l).length ≤ m
  | [], m, l => ⟨List.Sublist.slnil, Nat.zero_le _⟩
  | x :: r, m, l => by
    unfold gr
    split
    · rename_i h
      obtain ⟨h1, h2⟩ := gr_sub r (m - 1) (l - s x)
      exact ⟨h1.cons₂ x, by rw [List.length_cons]; omega⟩
    · obtain ⟨h1, h2⟩ := gr_sub r m l
      exact ⟨h1.cons x, h2⟩
theorem gr_sum (nn : ∀ x, 0 ≤ s x) : ∀ (xs : List Str) (m : Nat) (l : Int), l ≤ best m (xs.map s) → l ≤ ((gr s xs m l).map s).sum
  | [], m, l, h => by
    rw [List.map_nil, best_nil] at h
    exact h
  | x :: r, m, l, h => by
    have nl : ∀ y ∈ r.map s, 0 ≤ y := fun y hy => by
      obtain ⟨z, _, rfl⟩ := List.mem_map.mp hy
      exact nn z
    unfold gr
    split
    · rename_i c
      have ih := gr_sum nn r (m - 1) (l - s x) (by omega)
      rw [List.map_cons, List.sum_cons]
      omega
    · rename_i c
      refine gr_sum nn r m l ?_
      match m with
      | 0 =>
        rw [best_zero] at h ⊢
        exact h
      | m + 1 =>
        rw [List.map_cons] at h
        exact best_or (nn x) nl h (by
          refine Int.lt_of_not_ge fun z => c ⟨Nat.succ_pos _, z⟩)
/-- whoever stands ahead of one who drives, and doesn't, can't do it in that one's place -/
theorem gr_swap (nn : ∀ x, 0 ≤ s x) : ∀ (xs : List Str) (m : Nat) (l : Int) {A B : List Str} {o p : Str}, xs = A ++ o :: B → xs.Nodup → o ∉ gr s xs m l → p ∈ B → p ∈ gr s xs m l → ((gr s xs m l).map s).sum - s p + s o < l
  | [], m, l, A, B, o, p, e, _, _, _, _ => by
    cases A <;> cases e
  | x :: r, m, l, A, B, o, p, e, nd, no, hp, hg => by
    obtain ⟨nx, nr⟩ := List.nodup_cons.mp nd
    cases A with
    | nil =>
      obtain ⟨rfl, rfl⟩ := List.cons.inj e
      have hc : ¬ (0 < m ∧ l ≤ s x + best (m - 1) (r.map s)) := fun c => by
        unfold gr at no
        rw [if_pos c] at no
        exact no List.mem_cons_self
      unfold gr at hg ⊢
      rw [if_neg hc] at hg ⊢
      obtain ⟨h1, h2⟩ := gr_sub (s := s) r m l
      have lp := List.length_pos_of_mem hg
      have h3 : s x + best (m - 1) (r.map s) < l := Int.lt_of_not_ge fun z => hc ⟨by omega, z⟩
      have h4 := sub_best nn (List.Sublist.trans (List.erase_sublist (a := p)) h1)
      have h5 : (((gr s r m l).erase p).map s).sum = ((gr s r m l).map s).sum - s p := by
        have := perm_sum ((List.perm_cons_erase hg).map s)
        rw [List.map_cons, List.sum_cons] at this
        omega
      rw [List.length_erase_of_mem hg] at h4
      have nl : ∀ y ∈ r.map s, 0 ≤ y := fun y hy => by
        obtain ⟨z, _, rfl⟩ := List.mem_map.mp hy
        exact nn z
      have h6 := best_mono nl (j := (gr s r m l).length - 1) (k := m - 1) (by omega)
      omega
    | cons a A =>
      obtain ⟨rfl, e2⟩ := List.cons.inj (show x :: r = a :: (A ++ o :: B) from e)
      have hpr : p ∈ r := by rw [e2]; simp [hp]
      have px : p ≠ x := fun z => nx (z ▸ hpr)
      by_cases c : 0 < m ∧ l ≤ s x + best (m - 1) (r.map s)
      · unfold gr at no hg ⊢
        rw [if_pos c] at no hg ⊢
        have ih := gr_swap nn r (m - 1) (l - s x) e2 nr (fun z => no (List.mem_cons_of_mem _ z)) hp (by
          rcases List.mem_cons.mp hg with z | z
          · exact absurd z px
          · exact z)
        rw [List.map_cons, List.sum_cons]
        omega
      · unfold gr at no hg ⊢
        rw [if_neg c] at no hg ⊢
        exact gr_swap nn r m l e2 nr no hp hg
end
/-! ### who is chosen -/
/-- what is known of those who are chosen, of the row Z -/
structure Chs (s : Str → Int) (Z D : List Str) (n : Int) (c : Nat) : Prop where
  sub : D.Sublist Z
  sum : n ≤ (D.map s).sum
  len : D.length = c
  few : ∀ j, j < c → best j (Z.map s) < n
  swap : ∀ {A B : List Str} {o p : Str}, Z = A ++ o :: B → o ∉ D → p ∈ B → p ∈ D → (D.map s).sum - s p + s o < n
theorem chs_gr {s : Str → Int} (nn : ∀ x, 0 ≤ s x) {Z : List Str} (nd : Z.Nodup) {n : Int} (h : n ≤ (Z.map s).sum) : Chs s Z (gr s Z (cnt n (dscI (Z.map s))) n) n (cnt n (dscI (Z.map s))) := by
  have few : ∀ j, j < cnt n (dscI (Z.map s)) → best j (Z.map s) < n := fun j hj => cnt_lt _ _ _ hj
  have hb : n ≤ best (cnt n (dscI (Z.map s))) (Z.map s) := cnt_at _ _ (by rw [perm_sum (dsc_perm _)]; exact h)
  obtain ⟨h1, h2⟩ := gr_sub (s := s) Z (cnt n (dscI (Z.map s))) n
  have h3 := gr_sum nn Z _ n hb
  refine ⟨h1, h3, ?_, few, fun e no hp hg => gr_swap nn Z _ n e nd no hp hg⟩
  refine Nat.le_antisymm h2 (Nat.le_of_not_lt fun z => ?_)
  have h4 := few _ z
  have h5 := sub_best nn h1
  omega
/-- one less are too few -/
theorem Chs.less {s : Str → Int} (nn : ∀ x, 0 ≤ s x) {Z D : List Str} {n : Int} {c : Nat} (h : Chs s Z D n c) {x : Str} (hx : x ∈ D) : (D.map s).sum - s x < n := by
  have h1 := sub_best nn (List.Sublist.trans (List.erase_sublist (a := x)) h.sub)
  have h2 : ((D.erase x).map s).sum = (D.map s).sum - s x := by
    have := perm_sum ((List.perm_cons_erase hx).map s)
    rw [List.map_cons, List.sum_cons] at this
    omega
  rw [List.length_erase_of_mem hx, h.len] at h1
  have lp := List.length_pos_of_mem hx
  rw [h.len] at lp
  have := h.few (c - 1) (by omega)
  omega
theorem Chs.pos {s : Str → Int} (nn : ∀ x, 0 ≤ s x) {Z D : List Str} {n : Int} {c : Nat} (h : Chs s Z D n c) {x : Str} (hx : x ∈ D) : 1 ≤ s x := by
  have h1 := h.less nn hx
  have h2 := h.sum
  omega
end K16
set_option linter.all false
set_option Elab.async false
/-! IO: names put in order by worths, one behind another. -/
namespace IO
open PySem
/-- x is ahead of y, as texts -/
def slt (x y : Str) : Prop := x.cps.toList < y.cps.toList
instance (x y : Str) : Decidable (slt x y) := inferInstanceAs (Decidable (x.cps.toList < y.cps.toList))
theorem slt_trans_not {x y z : Str} (h1 : ¬ slt y x) (h2 : ¬ slt z y) : ¬ slt z x := by
  have a : x.cps.toList ≤ y.cps.toList := h1
  have b : y.cps.toList ≤ z.cps.toList := h2
  exact List.le_trans a b
theorem slt_antisymm {x y : Str} (h1 : ¬ slt y x) (h2 : ¬ slt x y) : x = y := by
  have a : x.cps.toList ≤ y.cps.toList := h1
  have b : y.cps.toList ≤ x.cps.toList := h2
  exact TL.ext_tl (List.le_antisymm a b)
theorem rising : ∀ (l : List Str) (p : Str), PyProof.Rows.risingS p l = true → (p :: l).Pairwise fun a b => ¬ slt b a
  | [], p, _ => List.pairwise_singleton ..
  | x :: r, p, h => by
    have h' : (!PySem.Spec.ltCps x.cps.toList p.cps.toList && PyProof.Rows.risingS x r) = true := h
    rw [Bool.and_eq_true, PyProof.Rows.ltCps_eq] at h'
    have h1 : ¬ slt x p := by
      have := h'.1
      simpa [slt] using this
    have ih := rising r x h'.2
    refine List.pairwise_cons.mpr ⟨fun y hy => ?_, ih⟩
    rcases List.mem_cons.mp hy with e | hy
    · rw [e]; exact h1
    · exact slt_trans_not h1 ((List.pairwise_cons.mp ih).1 y hy)
theorem sorted_pw {l : List Str} (h : PyProof.Rows.sortedS l = true) : l.Pairwise fun a b => ¬ slt b a := by
  cases l with
  | nil => exact List.Pairwise.nil
  | cons x r => exact rising r x h
/-- two lists in order, of the same texts, are one -/
theorem sorted_same {l m : List Str} (h1 : l.Pairwise fun a b => ¬ slt b a) (h2 : m.Pairwise fun a b => ¬ slt b a) (p : l.Perm m) : l = m :=
  List.Perm.eq_of_pairwise (le := fun a b => ¬ slt b a) (fun a b _ _ x y => slt_antisymm x y) h1 h2 p
/-- by worths, alike ones by names -/
def le (ρ : Str → Rat) (x y : Str) : Prop := ρ x < ρ y ∨ (ρ x = ρ y ∧ ¬ slt y x)
theorem le_rat {ρ : Str → Rat} {x y : Str} (h : le ρ x y) : ρ x ≤ ρ y := by
  rcases h with h | h
  · exact Rat.le_of_lt h
  · rw [h.1]; exact Rat.le_refl
theorem put_in {ρ : Str → Rat} {zs : List Str} {x : Str} {j : Nat} (hz : zs.Pairwise (le ρ)) (hx : ∀ z ∈ zs, ¬ slt x z) (hj : j ≤ zs.length) (hi : ∀ z ∈ zs.drop j, ρ x < ρ z) (lo : ∀ z ∈ zs.take j, ρ z ≤ ρ x) :
    (zs.take j ++ [x] ++ zs.drop j).Pairwise (le ρ) := by
  have h0 := hz
  rw [← List.take_append_drop j zs] at h0
  obtain ⟨h1, h2, h3⟩ := List.pairwise_append.mp h0
  rw [List.append_assoc]
  refine List.pairwise_append.mpr ⟨h1, ?_, fun a ha b hb => ?_⟩
  · exact List.pairwise_cons.mpr ⟨fun b hb => .inl (hi b hb), h2⟩
  · rcases List.mem_cons.mp hb with e | hb
    · subst e
      rcases Rat.le_iff_lt_or_eq.mp (lo a ha) with h | h
      · exact .inl h
      · exact .inr ⟨h, hx a (List.mem_of_mem_take ha)⟩
    · exact h3 a ha b hb
theorem put_perm {zs : List Str} {x : Str} (j : Nat) : (zs.take j ++ [x] ++ zs.drop j).Perm (x :: zs) := by
  rw [List.append_assoc]
  have h : (zs.take j ++ ([x] ++ zs.drop j)).Perm (x :: (zs.take j ++ zs.drop j)) := List.perm_middle
  rw [List.take_append_drop] at h
  exact h
end IO
set_option Elab.async false
set_option linter.all false
set_option maxRecDepth 100000
set_option maxHeartbeats 4000000
namespace K16
open PySem PySem.Spec PyProof.Rows L2
theorem fm_congr {α β : Type} {f g : α → List β} : ∀ {l : List α}, (∀ x ∈ l, f x = g x) → l.flatMap f = l.flatMap g
  | [], _ => rfl
  | x :: l, h => by
    rw [List.flatMap_cons, List.flatMap_cons, h x List.mem_cons_self, fm_congr fun y hy => h y (List.mem_cons_of_mem _ hy)]
/-! all rising rows of so many places, in their order -/
/-- n places are left, the first of them b; r more are to be taken behind pre -/
def rows : Nat → Nat → Nat → List Nat → List (List Nat)
  | _, _, 0, pre => [pre]
  | 0, _, _ + 1, _ => []
  | n + 1, b, r + 1, pre => rows n (b + 1) r (pre ++ [b]) ++ rows n (b + 1) (r + 1) pre
theorem rows_zero (n b : Nat) (pre : List Nat) : rows n b 0 pre = [pre] := by cases n <;> rfl
theorem rows_nil : ∀ (n b r : Nat) (pre : List Nat), n < r → rows n b r pre = []
  | _, _, 0, _, h => absurd h (Nat.not_lt_zero _)
  | 0, _, r + 1, _, _ => rfl
  | n + 1, b, r + 1, pre, h => by
    show rows n (b + 1) r (pre ++ [b]) ++ rows n (b + 1) (r + 1) pre = []
    rw [rows_nil n (b + 1) r _ (by omega), rows_nil n (b + 1) (r + 1) _ (by omega)]
    rfl
theorem rows_len : ∀ (n b r : Nat) (pre : List Nat), (rows n b r pre).length ≤ 2 ^ n
  | n, b, 0, pre => by
    rw [rows_zero]
    exact Nat.one_le_two_pow
  | 0, _, r + 1, _ => Nat.zero_le _
  | n + 1, b, r + 1, pre => by
    show (rows n (b + 1) r (pre ++ [b]) ++ rows n (b + 1) (r + 1) pre).length ≤ _
    rw [List.length_append, Nat.pow_succ]
    have h1 := rows_len n (b + 1) r (pre ++ [b])
    have h2 := rows_len n (b + 1) (r + 1) pre
    omega
theorem rows_some : ∀ (n b r : Nat) (pre : List Nat), r ≤ n → 1 ≤ (rows n b r pre).length
  | n, b, 0, pre, _ => by rw [rows_zero]; exact Nat.le_refl _
  | 0, _, r + 1, _, h => absurd h (by omega)
  | n + 1, b, r + 1, pre, h => by
    show 1 ≤ (rows n (b + 1) r (pre ++ [b]) ++ rows n (b + 1) (r + 1) pre).length
    rw [List.length_append]
    have := rows_some n (b + 1) r (pre ++ [b]) (by omega)
    omega
theorem rows_mem : ∀ (n b r : Nat) (pre : List Nat) (I : List Nat), I ∈ rows n b r pre → (∀ k ∈ pre, k < b + n) → I.length = pre.length + r ∧ ∀ k ∈ I, k < b + n
  | n, b, 0, pre, I, h, hp => by
    rw [rows_zero, List.mem_singleton] at h
    subst h
    exact ⟨rfl, hp⟩
  | 0, _, r + 1, _, I, h, _ => nomatch h
  | n + 1, b, r + 1, pre, I, h, hp => by
    rcases List.mem_append.mp (show I ∈ rows n (b + 1) r (pre ++ [b]) ++ rows n (b + 1) (r + 1) pre from h) with h | h
    · obtain ⟨a, c⟩ := rows_mem n (b + 1) r _ I h (fun k hk => by
        rcases List.mem_append.mp hk with q | q
        · have := hp k q
          omega
        · rw [List.mem_singleton.mp q]
          omega)
      refine ⟨by rw [a, List.length_append]; show pre.length + 1 + r = _; omega, fun k hk => ?_⟩
      have := c k hk
      omega
    · obtain ⟨a, c⟩ := rows_mem n (b + 1) (r + 1) _ I h (fun k hk => by
        have := hp k hk
        omega)
      exact ⟨a, fun k hk => by have := c k hk; omega⟩
/-- where one goes on -/
def beg (I : List Nat) : Nat := match I.getLast? with
  | some k => k + 1
  | none => 0
theorem beg_snoc (I : List Nat) (k : Nat) : beg (I ++ [k]) = k + 1 := by
  unfold beg
  simp
/-- a place more, of N places, r to be taken behind it -/
def ext (N r : Nat) (I : List Nat) : List (List Nat) := (List.range' (beg I) (N - r - beg I)).map fun k => I ++ [k]
def lev (N s : Nat) : Nat → List (List Nat)
  | 0 => [[]]
  | t + 1 => (lev N s t).flatMap (ext N (s - t - 1))
theorem split_ext (N r : Nat) (I : List Nat) : ∀ (d b : Nat), b + d = N → rows d b (r + 1) I = (List.range' b (N - r - b)).flatMap fun k => rows (N - (k + 1)) (k + 1) r (I ++ [k])
  | 0, b, h => by
    have e : N - r - b = 0 := by omega
    rw [e]
    rfl
  | d + 1, b, h => by
    show rows d (b + 1) r (I ++ [b]) ++ rows d (b + 1) (r + 1) I = _
    rw [split_ext N r I d (b + 1) (by omega)]
    by_cases c : r ≤ d
    · have e : N - r - b = (N - r - (b + 1)) + 1 := by omega
      rw [e, List.range'_succ, List.flatMap_cons]
      have e2 : N - (b + 1) = d := by omega
      rw [e2]
    · have e : N - r - b = 0 := by omega
      have e2 : N - r - (b + 1) = 0 := by omega
      rw [e, e2, rows_nil d (b + 1) r _ (by omega)]
      rfl
theorem lev_beg {N s : Nat} (hs : s ≤ N) : ∀ t, t ≤ s → ∀ I ∈ lev N s t, beg I ≤ N - s + t ∧ I.length = t
  | 0, _, I, h => by
    rw [List.mem_singleton.mp (show I ∈ [[]] from h)]
    exact ⟨Nat.zero_le _, rfl⟩
  | t + 1, ht, I, h => by
    obtain ⟨J, hJ, h2⟩ := List.mem_flatMap.mp (show I ∈ (lev N s t).flatMap (ext N (s - t - 1)) from h)
    obtain ⟨k, hk, rfl⟩ := List.mem_map.mp h2
    obtain ⟨h3, h4⟩ := List.mem_range'_1.mp hk
    obtain ⟨_, h5⟩ := lev_beg hs t (by omega) J hJ
    rw [beg_snoc]
    exact ⟨by omega, by rw [List.length_append, h5]; rfl⟩
theorem lev_all {N s : Nat} (hs : s ≤ N) : ∀ t, t ≤ s → (lev N s t).flatMap (fun I => rows (N - beg I) (beg I) (s - t) I) = rows N 0 s []
  | 0, _ => by
    show [[]].flatMap _ = _
    simp [beg]
  | t + 1, ht => by
    rw [← lev_all hs t (by omega)]
    show ((lev N s t).flatMap (ext N (s - t - 1))).flatMap _ = _
    rw [List.flatMap_assoc]
    refine fm_congr fun I hI => ?_
    obtain ⟨h1, _⟩ := lev_beg hs t (by omega) I hI
    have e : s - t = (s - t - 1) + 1 := by omega
    have e2 : s - (t + 1) = s - t - 1 := by omega
    rw [e, split_ext N (s - t - 1) I (N - beg I) (beg I) (by omega), e2]
    unfold ext
    rw [List.flatMap_map]
    refine fm_congr fun k _ => ?_
    rw [beg_snoc]
theorem lev_end {N s : Nat} (hs : s ≤ N) : lev N s s = rows N 0 s [] := by
  rw [← lev_all hs s (Nat.le_refl _), Nat.sub_self]
  rw [show (fun I : List Nat => rows (N - beg I) (beg I) 0 I) = fun I => [I] from funext fun I => rows_zero _ _ _]
  simp
theorem flat_len {α β : Type} {g : α → List β} : ∀ {l : List α}, (∀ x ∈ l, 1 ≤ (g x).length) → l.length ≤ (l.flatMap g).length
  | [], _ => Nat.le_refl _
  | x :: l, h => by
    rw [List.flatMap_cons, List.length_append, List.length_cons]
    have h1 := h x List.mem_cons_self
    have h2 := flat_len (l := l) fun y hy => h y (List.mem_cons_of_mem _ hy)
    omega
theorem lev_len {N s : Nat} (hs : s ≤ N) {t : Nat} (ht : t ≤ s) : (lev N s t).length ≤ 2 ^ N := by
  refine Nat.le_trans (flat_len (g := fun I => rows (N - beg I) (beg I) (s - t) I) fun I hI => ?_) (by rw [lev_all hs t ht]; exact rows_len _ _ _ _)
  obtain ⟨h1, _⟩ := lev_beg hs t ht I hI
  exact rows_some _ _ _ _ (by omega)
/-! the first one that is enough is who drives -/
section
variable {s : Str → Int}
/-- who drives, as places -/
def gri (s : Str → Int) : List Str → Nat → Nat → Int → List Nat
  | [], _, _, _ => []
  | x :: r, b, m, l => if 0 < m ∧ l ≤ s x + best (m - 1) (r.map s) then b :: gri s r (b + 1) (m - 1) (l - s x) else gri s r (b + 1) m l
theorem gri_zero : ∀ (xs : List Str) (b : Nat) (l : Int), gri s xs b 0 l = []
  | [], _, _ => rfl
  | x :: xs, b, l => by
    unfold gri
    rw [if_neg (fun z => absurd z.1 (Nat.lt_irrefl _))]
    exact gri_zero xs (b + 1) l
theorem gri_at (Z : List Str) : ∀ (xs : List Str) (b m : Nat) (l : Int), Z.drop b = xs → (gri s xs b m l).map (fun k => Z.getD k "") = gr s xs m l
  | [], _, _, _, _ => rfl
  | x :: r, b, m, l, h => by
    have hb : Z.drop (b + 1) = r := by
      have := congrArg List.tail h
      rw [List.tail_drop] at this
      exact this
    have hx : Z.getD b "" = x := by
      have : (Z.drop b)[0]? = some x := by rw [h]; rfl
      rw [List.getElem?_drop] at this
      rw [List.getD_eq_getElem?_getD]
      rw [show b + 0 = b from rfl] at this
      rw [this]
      rfl
    unfold gri gr
    split
    · rw [List.map_cons, hx, gri_at Z r (b + 1) _ _ hb]
    · exact gri_at Z r (b + 1) m l hb
/-- the sum at places -/
def sat (s : Str → Int) (Z : List Str) (I : List Nat) : Int := (I.map fun k => s (Z.getD k "")).sum
theorem sat_snoc (Z : List Str) (I : List Nat) (k : Nat) : sat s Z (I ++ [k]) = sat s Z I + s (Z.getD k "") := by
  unfold sat
  rw [List.map_append, List.sum_append]
  simp
theorem first_rows (nn : ∀ x, 0 ≤ s x) (Z : List Str) (n : Int) : ∀ (xs : List Str) (b r : Nat) (pre : List Nat), Z.drop b = xs → r ≤ xs.length →
    (rows xs.length b r pre).find? (fun I => decide (n ≤ sat s Z I)) = if n - sat s Z pre ≤ best r (xs.map s) then some (pre ++ gri s xs b r (n - sat s Z pre)) else none
  | xs, b, 0, pre, h, _ => by
    rw [rows_zero, best_zero]
    have e := gri_zero (s := s) xs b (n - sat s Z pre)
    rw [e, List.append_nil]
    by_cases c : n ≤ sat s Z pre
    · rw [if_pos (by omega)]
      simp [c]
    · rw [if_neg (by omega)]
      simp [c]
  | [], b, r + 1, pre, h, hl => absurd hl (by simp)
  | x :: xs, b, r + 1, pre, h, hl => by
    have hb : Z.drop (b + 1) = xs := by
      have := congrArg List.tail h
      rw [List.tail_drop] at this
      exact this
    have hx : Z.getD b "" = x := by
      have : (Z.drop b)[0]? = some x := by rw [h]; rfl
      rw [List.getElem?_drop] at this
      rw [List.getD_eq_getElem?_getD]
      rw [show b + 0 = b from rfl] at this
      rw [this]
      rfl
    rw [List.length_cons] at hl
    show (rows xs.length (b + 1) r (pre ++ [b]) ++ rows xs.length (b + 1) (r + 1) pre).find? _ = _
    rw [List.find?_append, first_rows nn Z n xs (b + 1) r (pre ++ [b]) hb (by omega), sat_snoc, hx]
    have nl : ∀ y ∈ xs.map s, 0 ≤ y := fun y hy => by
      obtain ⟨z, _, rfl⟩ := List.mem_map.mp hy
      exact nn z
    obtain ⟨l, hl0⟩ : ∃ l, l = n - sat s Z pre := ⟨_, rfl⟩
    have el : n - (sat s Z pre + s x) = l - s x := by omega
    rw [el, ← hl0, List.map_cons]
    have eg : gri s (x :: xs) b (r + 1) l = if 0 < r + 1 ∧ l ≤ s x + best r (xs.map s) then b :: gri s xs (b + 1) r (l - s x) else gri s xs (b + 1) (r + 1) l := rfl
    rw [eg]
    by_cases c : l ≤ s x + best r (xs.map s)
    · rw [if_pos (show l - s x ≤ best r (xs.map s) by omega), if_pos (show 0 < r + 1 ∧ l ≤ s x + best r (xs.map s) from ⟨Nat.succ_pos _, c⟩), if_pos (Int.le_trans c (best_take (nn x) nl r))]
      simp
    · rw [if_neg (show ¬ l - s x ≤ best r (xs.map s) by omega), if_neg (show ¬ (0 < r + 1 ∧ l ≤ s x + best r (xs.map s)) from fun z => c z.2), Option.none_or]
      by_cases c2 : r + 1 ≤ xs.length
      · rw [first_rows nn Z n xs (b + 1) (r + 1) pre hb c2, ← hl0]
        by_cases c3 : l ≤ best (r + 1) (xs.map s)
        · rw [if_pos c3, if_pos (Int.le_trans c3 (best_skip (nn x) nl _))]
        · rw [if_neg c3, if_neg (fun z => c3 (best_or (nn x) nl z (by omega)))]
      · rw [rows_nil _ _ _ _ (by omega), if_neg (fun z => ?_)]
        · rfl
        · rw [best_cons (nn x) nl, if_neg (by rw [List.length_map]; exact c2)] at z
          exact c z
end
theorem le_same {ρ : Str → Rat} {l m : List Str} (h1 : l.Pairwise (IO.le ρ)) (h2 : m.Pairwise (IO.le ρ)) (p : l.Perm m) : l = m :=
  p.eq_of_pairwise (fun a b _ _ h g => by
    rcases h with h | ⟨h, h'⟩
    · rcases g with g | ⟨g, g'⟩
      · grind
      · grind
    · rcases g with g | ⟨g, g'⟩
      · grind
      · exact IO.slt_antisymm h' g') h1 h2
end K16
set_option linter.all false
namespace KM
/-- the signed common part -/
def sg (t b : Int) : Int := if b < 0 then -(Int.gcd t b : Int) else (Int.gcd t b : Int)
/-- a fraction in lowest terms -/
def low (t b : Int) : Int × Int := (t.fdiv (sg t b), b.fdiv (sg t b))
theorem gcd_pos {t b : Int} (h : b ≠ 0) : 0 < Int.gcd t b := Int.gcd_pos_of_ne_zero_right t h
theorem sg_ne {t b : Int} (h : b ≠ 0) : sg t b ≠ 0 := by
  have := gcd_pos (t := t) h
  unfold sg
  split <;> omega
theorem sg_dvd_left (t b : Int) : sg t b ∣ t := by
  unfold sg
  split
  · exact Int.neg_dvd.mpr (Int.gcd_dvd_left ..)
  · exact Int.gcd_dvd_left ..
theorem sg_dvd_right (t b : Int) : sg t b ∣ b := by
  unfold sg
  split
  · exact Int.neg_dvd.mpr (Int.gcd_dvd_right ..)
  · exact Int.gcd_dvd_right ..
theorem low_top {t b : Int} : sg t b * (low t b).1 = t := by
  show sg t b * t.fdiv (sg t b) = t
  rw [Int.fdiv_eq_ediv_of_dvd (sg_dvd_left t b)]
  exact Int.mul_ediv_cancel' (sg_dvd_left t b)
theorem low_bot {t b : Int} : sg t b * (low t b).2 = b := by
  show sg t b * b.fdiv (sg t b) = b
  rw [Int.fdiv_eq_ediv_of_dvd (sg_dvd_right t b)]
  exact Int.mul_ediv_cancel' (sg_dvd_right t b)
theorem sg_abs (t b : Int) : (sg t b).natAbs = Int.gcd t b := by
  unfold sg
  split <;> simp
theorem low_pos {t b : Int} (h : b ≠ 0) : 0 < (low t b).2 := by
  have e := low_bot (t := t) (b := b)
  have g := gcd_pos (t := t) h
  by_cases hb : b < 0
  · have hs : sg t b < 0 := by unfold sg; rw [if_pos hb]; omega
    refine Int.lt_of_not_ge fun hc => ?_
    have := Int.mul_nonneg_of_nonpos_of_nonpos (Int.le_of_lt hs) hc
    omega
  · have hs : 0 < sg t b := by unfold sg; rw [if_neg hb]; omega
    refine Int.lt_of_not_ge fun hc => ?_
    have := Int.mul_nonpos_of_nonneg_of_nonpos (Int.le_of_lt hs) hc
    omega
theorem low_cop {t b : Int} (h : b ≠ 0) : Int.gcd (low t b).1 (low t b).2 = 1 := by
  have e : Int.gcd (sg t b * (low t b).1) (sg t b * (low t b).2) = (sg t b).natAbs * Int.gcd (low t b).1 (low t b).2 := Int.gcd_mul_left ..
  rw [low_top, low_bot, sg_abs] at e
  have g := gcd_pos (t := t) h
  have : Int.gcd t b * Int.gcd (low t b).1 (low t b).2 = Int.gcd t b * 1 := by omega
  exact Nat.eq_of_mul_eq_mul_left g this
theorem low_id {t b : Int} (hb : 0 < b) (h : Int.gcd t b = 1) : low t b = (t, b) := by
  have e : sg t b = 1 := by unfold sg; rw [if_neg (by omega), h]; rfl
  unfold low
  rw [e]
  simp
theorem low_low {t b : Int} (h : b ≠ 0) : low (low t b).1 (low t b).2 = low t b := low_id (low_pos h) (low_cop h)
/-- the bottom stays: nothing is taken out -/
theorem low_same {t b : Int} (hb : 0 < b) (h : (low t b).2 = b) : low t b = (t, b) := by
  have e := low_bot (t := t) (b := b)
  rw [h] at e
  have e1 : sg t b * b = 1 * b := by omega
  have e2 := Int.eq_of_mul_eq_mul_right (Int.ne_of_gt hb) e1
  have e3 := low_top (t := t) (b := b)
  rw [e2] at e3
  refine Prod.ext ?_ h
  show (low t b).1 = t
  omega
theorem dvd_le {x y : Int} (h : x * y ≠ 0) : y.natAbs ≤ (x * y).natAbs := by
  rw [Int.natAbs_mul]
  have : x ≠ 0 := fun z => h (by rw [z, Int.zero_mul])
  exact Nat.le_mul_of_pos_left _ (by omega)
theorem low_top_le {t b : Int} (h : b ≠ 0) : (low t b).1.natAbs ≤ t.natAbs := by
  by_cases ht : t = 0
  · subst ht
    have e := low_top (t := 0) (b := b)
    rcases Int.mul_eq_zero.mp e with z | z
    · exact absurd z (sg_ne h)
    · rw [z]; exact Nat.le_refl _
  · have e := low_top (t := t) (b := b)
    have := dvd_le (x := sg t b) (y := (low t b).1) (by omega)
    rw [e] at this
    exact this
theorem low_bot_le {t b : Int} (h : b ≠ 0) : (low t b).2.natAbs ≤ b.natAbs := by
  have e := low_bot (t := t) (b := b)
  have := dvd_le (x := sg t b) (y := (low t b).2) (by omega)
  rw [e] at this
  exact this
theorem sg_le {t b : Int} (h : b ≠ 0) : (sg t b).natAbs ≤ b.natAbs := by
  have e := low_bot (t := t) (b := b)
  have := dvd_le (x := (low t b).2) (y := sg t b) (by rw [Int.mul_comm]; omega)
  rw [Int.mul_comm, e] at this
  exact this
/-- Euclid's turn over whole numbers from 0 on -/
theorem gcd_turn {a b : Int} (ha : 0 ≤ a) (hb : 0 < b) : Int.gcd b (a % b) = Int.gcd a b := by
  obtain ⟨m, rfl⟩ := Int.eq_ofNat_of_zero_le ha
  obtain ⟨n, rfl⟩ := Int.eq_ofNat_of_zero_le (Int.le_of_lt hb)
  show Nat.gcd (Int.natAbs (n : Int)) (Int.natAbs ((m : Int) % (n : Int))) = Nat.gcd (Int.natAbs (m : Int)) (Int.natAbs (n : Int))
  rw [← Int.natCast_emod, Int.natAbs_natCast, Int.natAbs_natCast, Int.natAbs_natCast, Nat.gcd_comm n, Nat.gcd_comm m n]
  exact (Nat.gcd_rec n m).symm
theorem gcd_succ (a : Int) : Int.gcd a (a + 1) = 1 := by
  have : Int.gcd (a + 1) a = Int.gcd 1 a := by
    rw [Int.add_comm, Int.gcd_add_self_left]
  rw [Int.gcd_comm, this, Int.gcd_comm]
  simp
end KM
set_option linter.all false
namespace KM
/-- top and bottom of a rational number -/
def pr (r : Rat) : Int × Int := (r.num, (r.den : Int))
theorem pr_inj {r s : Rat} (h : pr r = pr s) : r = s := by
  have h1 : r.num = s.num := congrArg Prod.fst h
  have h2 : (r.den : Int) = (s.den : Int) := congrArg Prod.snd h
  rw [← Rat.num_divInt_den r, ← Rat.num_divInt_den s, h1, h2]
theorem den_ne (r : Rat) : (r.den : Int) ≠ 0 := by
  have := r.den_nz
  omega
theorem den_pos (r : Rat) : 0 < (r.den : Int) := by
  have := r.den_nz
  omega
theorem low_eq {t b : Int} (h : b ≠ 0) : low t b = pr (Rat.divInt t b) := by
  have hp := low_pos (t := t) h
  have hc := low_cop (t := t) h
  obtain ⟨d, hd⟩ := Int.eq_ofNat_of_zero_le (Int.le_of_lt hp)
  have hd0 : d ≠ 0 := by
    intro z
    rw [z] at hd
    omega
  have hcop : (low t b).1.natAbs.Coprime d := by
    have : Int.gcd (low t b).1 (low t b).2 = 1 := hc
    rw [hd] at this
    exact this
  have e1 : Rat.divInt (low t b).1 (d : Int) = Rat.divInt t b := by
    rw [Rat.divInt_eq_divInt_iff (by omega) h, ← hd]
    have h1 := low_top (t := t) (b := b)
    have h2 := low_bot (t := t) (b := b)
    calc (low t b).1 * b = (low t b).1 * (sg t b * (low t b).2) := by rw [h2]
      _ = sg t b * (low t b).1 * (low t b).2 := by rw [← Int.mul_assoc, Int.mul_comm (low t b).1]
      _ = t * (low t b).2 := by rw [h1]
  have e2 : ({ num := (low t b).1, den := d, den_nz := hd0, reduced := hcop } : Rat) = Rat.divInt t b := by rw [Rat.mk_eq_divInt, e1]
  rw [← e2]
  exact Prod.ext rfl hd
theorem pr_plus (r s : Rat) : low ((pr r).1 * (pr s).2 + (pr s).1 * (pr r).2) ((pr r).2 * (pr s).2) = pr (r + s) := by
  show low (r.num * s.den + s.num * r.den) (r.den * s.den) = _
  rw [low_eq (Int.mul_ne_zero (den_ne r) (den_ne s)), ← Rat.divInt_add_divInt _ _ (den_ne r) (den_ne s), Rat.num_divInt_den, Rat.num_divInt_den]
theorem pr_less (r s : Rat) : low ((pr r).1 * (pr s).2 - (pr s).1 * (pr r).2) ((pr r).2 * (pr s).2) = pr (r - s) := by
  show low (r.num * s.den - s.num * r.den) (r.den * s.den) = _
  rw [low_eq (Int.mul_ne_zero (den_ne r) (den_ne s)), ← Rat.divInt_sub_divInt _ _ (den_ne r) (den_ne s), Rat.num_divInt_den, Rat.num_divInt_den]
theorem pr_times (r : Rat) (k : Int) : low ((pr r).1 * k) (pr r).2 = pr (r * (Rat.divInt k 1)) := by
  show low (r.num * k) r.den = _
  have e : Rat.divInt (r.num * k) (r.den : Int) = Rat.divInt r.num r.den * Rat.divInt k 1 := by rw [Rat.divInt_mul_divInt, Int.mul_one]
  rw [low_eq (den_ne r), e, Rat.num_divInt_den]
theorem pr_over (r : Rat) {k : Int} (h : k ≠ 0) : low (pr r).1 ((pr r).2 * k) = pr (r * (Rat.divInt 1 k)) := by
  show low r.num (r.den * k) = _
  have e : Rat.divInt r.num (r.den * k : Int) = Rat.divInt r.num r.den * Rat.divInt 1 k := by rw [Rat.divInt_mul_divInt, Int.mul_one]
  rw [low_eq (Int.mul_ne_zero (den_ne r) h), e, Rat.num_divInt_den]
theorem inv_k {k : Int} (h : k ≠ 0) : Rat.divInt k 1 * Rat.divInt 1 k = 1 := by
  rw [Rat.divInt_mul_divInt, Int.mul_one, Int.one_mul]
  exact Rat.divInt_self' h
theorem pr_lt (r s : Rat) : ((pr r).1 * (pr s).2 < (pr s).1 * (pr r).2) ↔ r < s := (Rat.lt_iff r s).symm
theorem pr_bot (r : Rat) : 0 < (pr r).2 := den_pos r
theorem add_back (r s : Rat) : r + s - s = r := by
  rw [Rat.sub_eq_add_neg, Rat.add_assoc, Rat.add_neg_cancel, Rat.add_zero]
theorem sub_back (r s : Rat) : r - s + s = r := by
  rw [Rat.sub_eq_add_neg, Rat.add_assoc, Rat.neg_add_cancel, Rat.add_zero]
theorem mul_back (r : Rat) {k : Int} (h : k ≠ 0) : r * Rat.divInt k 1 * Rat.divInt 1 k = r := by
  rw [Rat.mul_assoc, inv_k h, Rat.mul_one]
theorem div_back (r : Rat) {k : Int} (h : k ≠ 0) : r * Rat.divInt 1 k * Rat.divInt k 1 = r := by
  rw [Rat.mul_assoc, Rat.mul_comm (Rat.divInt 1 k), inv_k h, Rat.mul_one]
/-- small -/
def Sz (n : Nat) (r : Rat) : Prop := r.num.natAbs < 2 ^ n ∧ r.den < 2 ^ n
theorem Sz.mono {n m : Nat} {r : Rat} (h : Sz n r) (hm : n ≤ m) : Sz m r := ⟨Nat.lt_of_lt_of_le h.1 (Nat.pow_le_pow_right (by decide) hm), Nat.lt_of_lt_of_le h.2 (Nat.pow_le_pow_right (by decide) hm)⟩
theorem sz_of_low {t b : Int} {n : Nat} (hb : b ≠ 0) (h1 : t.natAbs < 2 ^ n) (h2 : b.natAbs < 2 ^ n) : Sz n (Rat.divInt t b) := by
  have e := low_eq (t := t) hb
  have e1 : (low t b).1 = (Rat.divInt t b).num := congrArg Prod.fst e
  have e2 : (low t b).2 = ((Rat.divInt t b).den : Int) := congrArg Prod.snd e
  have l1 := low_top_le (t := t) hb
  have l2 := low_bot_le (t := t) hb
  constructor
  · rw [← e1]; omega
  · have : ((low t b).2).natAbs < 2 ^ n := by omega
    rw [e2] at this
    simpa using this
theorem two_lt {x y n m : Nat} (h1 : x < 2 ^ n) (h2 : y < 2 ^ m) : x * y < 2 ^ (n + m) := by
  rw [Nat.pow_add]
  exact Nat.mul_lt_mul'' h1 h2
theorem sz_sum {a b c d : Int} {n m : Nat} (h1 : a.natAbs < 2 ^ n) (h2 : d.natAbs < 2 ^ m) (h3 : c.natAbs < 2 ^ m) (h4 : b.natAbs < 2 ^ n) : (a * d + c * b).natAbs < 2 ^ (n + m + 1) ∧ (a * d - c * b).natAbs < 2 ^ (n + m + 1) := by
  have e1 : (a * d).natAbs < 2 ^ (n + m) := by rw [Int.natAbs_mul]; exact two_lt h1 h2
  have e2 : (c * b).natAbs < 2 ^ (n + m) := by rw [Int.natAbs_mul, Nat.add_comm]; exact two_lt h3 h4
  have e3 : 2 ^ (n + m + 1) = 2 * 2 ^ (n + m) := by rw [Nat.pow_succ, Nat.mul_comm]
  omega
theorem sz_plus {n m : Nat} {r s : Rat} (hr : Sz n r) (hs : Sz m s) : Sz (n + m + 1) (r + s) ∧ Sz (n + m + 1) (r - s) := by
  have d1 : ((r.den : Int)).natAbs < 2 ^ n := by simpa using hr.2
  have d2 : ((s.den : Int)).natAbs < 2 ^ m := by simpa using hs.2
  have hd : ((r.den : Int) * s.den).natAbs < 2 ^ (n + m + 1) := by
    have : ((r.den : Int) * s.den).natAbs < 2 ^ (n + m) := by rw [Int.natAbs_mul]; exact two_lt d1 d2
    exact Nat.lt_of_lt_of_le this (Nat.pow_le_pow_right (by decide) (by omega))
  have hn := sz_sum hr.1 d2 hs.1 d1
  have ne := Int.mul_ne_zero (den_ne r) (den_ne s)
  constructor
  · have := sz_of_low ne hn.1 hd
    rw [← Rat.divInt_add_divInt _ _ (den_ne r) (den_ne s), Rat.num_divInt_den, Rat.num_divInt_den] at this
    exact this
  · have := sz_of_low ne hn.2 hd
    rw [← Rat.divInt_sub_divInt _ _ (den_ne r) (den_ne s), Rat.num_divInt_den, Rat.num_divInt_den] at this
    exact this
theorem sz_times {n m : Nat} {r : Rat} {k : Int} (hr : Sz n r) (hk : k.natAbs < 2 ^ m) : Sz (n + m) (r * Rat.divInt k 1) := by
  have e : r * Rat.divInt k 1 = Rat.divInt (r.num * k) r.den := by
    have : Rat.divInt (r.num * k) (r.den : Int) = Rat.divInt r.num r.den * Rat.divInt k 1 := by rw [Rat.divInt_mul_divInt, Int.mul_one]
    rw [this, Rat.num_divInt_den]
  rw [e]
  refine sz_of_low (den_ne r) (by rw [Int.natAbs_mul]; exact two_lt hr.1 hk) ?_
  have d1 : ((r.den : Int)).natAbs < 2 ^ n := by simpa using hr.2
  exact Nat.lt_of_lt_of_le d1 (Nat.pow_le_pow_right (by decide) (by omega))
theorem sz_over {n m : Nat} {r : Rat} {k : Int} (hr : Sz n r) (h : k ≠ 0) (hk : k.natAbs < 2 ^ m) : Sz (n + m) (r * Rat.divInt 1 k) := by
  have e : r * Rat.divInt 1 k = Rat.divInt r.num (r.den * k) := by
    have : Rat.divInt r.num (r.den * k : Int) = Rat.divInt r.num r.den * Rat.divInt 1 k := by rw [Rat.divInt_mul_divInt, Int.mul_one]
    rw [this, Rat.num_divInt_den]
  rw [e]
  have d1 : ((r.den : Int)).natAbs < 2 ^ n := by simpa using hr.2
  refine sz_of_low (Int.mul_ne_zero (den_ne r) h) (Nat.lt_of_lt_of_le hr.1 (Nat.pow_le_pow_right (by decide) (by omega))) ?_
  rw [Int.natAbs_mul]
  exact two_lt d1 hk
end KM
set_option Elab.async false
set_option linter.all false
set_option maxRecDepth 100000
set_option maxHeartbeats 4000000
namespace K16
open PySem PySem.Spec PyProof.Rows L2
open C8 (Cal Mak Met pe_c pe_mk pe_mt pe_mt0)
open KM (pr Sz)
theorem take_one {α : Type} {l : List α} {i : Nat} {x : α} (h : l[i]? = some x) : l.take (i + 1) = l.take i ++ [x] := by rw [List.take_succ, h]; rfl
theorem line_lt {n : Nat} (h : n ≤ 100000) : n < sizeLine := by have := sizeLine_eq; omega
/-- what each is worth: a name, where its pair stands, the pair -/
abbrev Wt := Str × Addr × Int × Int
def kvW (ws : List Wt) : List (Key × V) := ws.map fun w => ((Sum.inr w.1 : Key), V.ref w.2.1)
structure Wk (H : Hp) (ws : List Wt) : Prop where
  nd : (ws.map (·.1)).Nodup
  tp : ∀ w ∈ ws, H w.2.1 = some (.tup [.int w.2.2.1, .int w.2.2.2])
  bt : ∀ w ∈ ws, -4 ≤ w.2.2.1 ∧ w.2.2.1 ≤ 4
  bb : ∀ w ∈ ws, 1 ≤ w.2.2.2 ∧ w.2.2.2 ≤ 60
theorem kvW_none {ws : List Wt} {x : Str} (h : x ∉ ws.map (·.1)) : valV (kvW ws) (Sum.inr x) = none := by
  induction ws with
  | nil => rfl
  | cons w ws ih =>
    rw [List.map_cons, List.mem_cons, not_or] at h
    show valV (((Sum.inr w.1 : Key), V.ref w.2.1) :: kvW ws) (Sum.inr x) = none
    rw [valV_neg (fun e => h.1 (Sum.inr.inj e).symm)]
    exact ih h.2
theorem kvW_at {ws : List Wt} {w : Wt} (nd : (ws.map (·.1)).Nodup) (h : w ∈ ws) : valV (kvW ws) (Sum.inr w.1) = some (.ref w.2.1) := by
  induction ws with
  | nil => cases h
  | cons u ws ih =>
    obtain ⟨n1, n2⟩ := List.nodup_cons.mp nd
    show valV (((Sum.inr u.1 : Key), V.ref u.2.1) :: kvW ws) (Sum.inr w.1) = _
    rcases List.mem_cons.mp h with rfl | h
    · exact valV_pos rfl
    · rw [valV_neg (fun e => n1 (List.mem_map.mpr ⟨w, h, (Sum.inr.inj e : u.1 = w.1).symm⟩))]
      exact ih n2 h
section
variable {P : Program} {w : World} {K : PySem.W.Frag} {mg : Str → Option Value} {base : Heap} {f : Addr} {fd : FuncData}
def spWo : Sp := fun vs H Q _ => ∃ (p a : Addr) (c : Nat) (F : List Str), vs = [.ref p, .ref a] ∧ Pen H p (c + 60) ∧ H a = some (.lst (F.map V.str)) ∧ Off p a H ∧ F.length ≤ 12 ∧ F.Nodup ∧
  ∀ (o : Addr) (ws : List Wt) (H' : Hp), Pen H' p c → Kp p H H' → H' o = some (.dK (kvW ws)) → Off p o H' → H o = none → Wk H' ws → ws.length ≤ 12 → (∀ w ∈ ws, w.1 ∈ F) → Q (.ref o) H'
theorem ok_wo (Fd : Dn K d_l_worths f fd) (b : Bl mg) (cD : Cal P w K mg base 1 "_law_draw" spDraw []) : FnOk P w K mg base CX0 2 f fd ["_law_pen_here", "_law_known"] spWo := by
  refine Fd.ok sc_l_worths (fun vs H Q E h => ?_) (fun cdv A outer s H vs Q E hr h => ?_)
  · obtain ⟨_, _, _, _, rfl, _⟩ := h
    rfl
  · obtain ⟨p, a, c, F, rfl, pen, ha, oa, fl, nd, hQ⟩ := h
    have hu := hu_of hr
    refine ⟨_, PSs.nox (pss_cons (ps_set (i := 2) sc_l_worths.nd rfl (.inl rfl) pe_dnewK)
      (pss_cons (ps_for PassesOwn.never rfl (pi_list (pv 1)) (pg_name (i := 3) sc_l_worths.nd rfl (.inl rfl))
        (pss_cons (ps_set (i := 4) sc_l_worths.nd rfl (.inl rfl) (pe_c cD hr (by decide) rfl (pa_cons (pv 0) (pa_cons pe_int pa_nil))))
        (pss_one (ps_if (pt_cmpR op_gt (pv 4) pe_int (nomark _))
          (pss_one (ps_dput hu (pv 2) (pv 3) (pe_tup (pa_cons (pe_op op_sub (pe_c cD hr (by decide) rfl (pa_cons (pv 0) (pa_cons pe_int pa_nil))) pe_int)
            (pa_cons (pe_op op_add pe_int (pe_ix ix_list (pe_lst (pa_cons (pe_c cD hr (by decide) rfl (pa_cons (pv 0) (pa_cons pe_int pa_nil))) (pa_cons (pe_c cD hr (by decide) rfl (pa_cons (pv 0) (pa_cons pe_int pa_nil))) (pa_cons pe_int pa_nil)))) (pe_op op_sub (pv 4) pe_int) (fun _ _ => rfl))) pa_nil))) rfl)) pss_nil))))
      (pss_one (ps_ret (pv 2))))), ?_⟩
    intro d fd0
    have s1 := same_new (o := .dK []) fd0
    have hd1 : (upd H d (.dK [])) d = some (.dK []) := upd_same
    have od1 : Off p d (upd H d (.dK [])) := (Off.of pen fd0).kp (Kp.same s1)
    have nad : a ≠ d := ne_of_none ha fd0
    have pen1 := pen.same s1
    have ha1 := s1 _ _ ha
    have oa1 := oa.kp (Kp.same s1)
    generalize upd H d (.dK []) = H1 at s1 hd1 od1 pen1 ha1 oa1 ⊢
    refine ⟨_, rfl, a, rfl, ⟨_, SqL.of ha1⟩, for_list (K := K) (xs := F.map V.str) (fun i σ G => ∃ (v3 v4 : Option V) (ws : List Wt), σ = [some (.ref p), some (.ref a), some (.ref d), v3, v4] ∧ Pen G p (c + 59 - 4 * i) ∧ Kp p H G ∧ G a = some (.lst (F.map V.str)) ∧ Off p a G ∧ G d = some (.dK (kvW ws)) ∧ Off p d G ∧ Wk G ws ∧ ws.length ≤ i ∧ ∀ x ∈ ws, x.1 ∈ F.take i)
      ⟨_, _, [], rfl, pen1.weak (by omega), Kp.same s1, ha1, oa1, hd1, od1, ⟨List.nodup_nil, fun x hx => (nomatch hx), fun x hx => (nomatch hx), fun x hx => (nomatch hx)⟩, Nat.le_refl _, fun x hx => (nomatch hx)⟩ (fun i σ G _ z => by obtain ⟨_, _, _, _, _, _, z, _⟩ := z; exact SqL.of z) ?_ ?_⟩
    · rintro i v σ G hv ⟨v3, v4, ws, rfl, pG, kG, aG, oG, dG, odG, wk, lw, sub⟩
      obtain ⟨x, hx, rfl⟩ := strs_at hv
      have il := (List.getElem?_eq_some_iff.mp hx).1
      refine ⟨_, rfl, p, c + 59 - 4 * i - 1, 4, rfl, pG.weak (by omega), by decide, by decide, fun lot G1 l0 l4 p1 k1 => ?_⟩
      obtain ⟨lot, rfl⟩ := Int.eq_ofNat_of_zero_le l0
      have a1 := k1.1 _ _ aG oG.ne
      have oa2 := oG.kp k1
      have d1 := k1.1 _ _ dG odG.ne
      have od2 := odG.kp k1
      have pt : ∀ {G : Hp} {n : Nat} {b : Addr} {vs : List V}, Pen G p n → G b = some (.tup vs) → b ≠ p := fun pn e => by
        obtain ⟨l, ns, n, m, hp, _⟩ := pn
        exact ne_of e hp (by intro z; cases z)
      have wk1 : Wk G1 ws := ⟨wk.nd, fun w hw => k1.1 _ _ (wk.tp w hw) (pt pG (wk.tp w hw)), wk.bt, wk.bb⟩
      refine ⟨_, rfl, _, _, rfl, rfl, _, rfl, ?_⟩
      have et : F.take (i + 1) = F.take i ++ [x] := take_one hx
      refine ite2 (fun c1 => ?_) (fun c1 => ⟨_, _, ws, rfl, p1.weak (by omega), kG.trans k1, a1, oa2, d1, od2, wk1, by omega, fun y hy => by rw [et]; exact List.mem_append_left _ (sub y hy)⟩)
      have lp : 0 < lot := by have := of_decide_eq_true c1; omega
      refine ⟨_, rfl, p, c + 59 - 4 * i - 2, 9, rfl, p1.weak (by omega), by decide, by decide, fun q1 G2 b1 b2 p2 k2 => ⟨_, _, rfl, rfl, ?_⟩⟩
      refine ⟨_, rfl, p, c + 59 - 4 * i - 3, 3, rfl, p2.weak (by omega), by decide, by decide, fun q2 G3 b3 b4 p3 k3 => ?_⟩
      refine ⟨_, rfl, p, c + 59 - 4 * i - 4, 60, rfl, p3.weak (by omega), by decide, by decide, fun q3 G4 b5 b6 p4 k4 => ?_⟩
      refine ⟨by show 3 ≤ sizeLine; decide, fun e fe => ?_⟩
      have se := same_new (o := .lst [V.int q2, V.int q3, V.int 0]) fe
      have he : (upd G4 e (.lst [V.int q2, V.int q3, V.int 0])) e = some (.lst [V.int q2, V.int q3, V.int 0]) := upd_same
      have p5 := p4.same se
      have k5 := ((k2.trans k3).trans k4).trans (Kp.same se)
      generalize upd G4 e (.lst [V.int q2, V.int q3, V.int 0]) = G5 at he p5 k5 ⊢
      obtain ⟨y, y0, y9, ey⟩ : ∃ y : Int, 0 ≤ y ∧ y ≤ 59 ∧ ([V.int q2, V.int q3, V.int 0] : List V)[lot - 1]? = some (V.int y) := by
        match lot, lp, l4 with
        | 1, _, _ => exact ⟨q2, by omega, by omega, rfl⟩
        | 2, _, _ => exact ⟨q3, by omega, by omega, rfl⟩
        | 3, _, _ => exact ⟨0, by omega, by omega, rfl⟩
        | k + 4, _, hk => exact absurd hk (by omega)
      have ea : atI ([V.int q2, V.int q3, V.int 0] : List V) ((lot : Int) - 1) = some (V.int y) := by
        rw [show (lot : Int) - 1 = ((lot - 1 : Nat) : Int) by omega]
        exact atI_nat ey
      refine ⟨_, rfl, _, _, rfl, rfl, e, _, _, _, rfl, rfl, SqL.of he, ea, _, _, rfl, rfl, ?_⟩
      refine ⟨by show 2 ≤ sizeLine; decide, fun u fu => ?_⟩
      have su := same_new (o := .tup [V.int (q1 - 4), V.int (1 + y)]) fu
      have hu6 : (upd G5 u (.tup [V.int (q1 - 4), V.int (1 + y)])) u = some (.tup [V.int (q1 - 4), V.int (1 + y)]) := upd_same
      have p6 := p5.same su
      have k6 := k5.trans (Kp.same su)
      generalize upd G5 u (.tup [V.int (q1 - 4), V.int (1 + y)]) = G6 at hu6 p6 k6 ⊢
      have a6 := k6.1 _ _ a1 oa2.ne
      have oa6 := oa2.kp k6
      have d6 := k6.1 _ _ d1 od2.ne
      have od6 := od2.kp k6
      have wk6 : Wk G6 ws := ⟨wk.nd, fun w hw => k6.1 _ _ (wk1.tp w hw) (pt p1 (wk1.tp w hw)), wk.bt, wk.bb⟩
      have nx : x ∉ ws.map (·.1) := fun h => by
        obtain ⟨w0, hw, e⟩ := List.mem_map.mp h
        have h1 := sub w0 hw
        have e : w0.1 = x := e
        rw [e] at h1
        have n2 := nd.sublist (List.take_sublist (i + 1) F)
        rw [et, List.nodup_append] at n2
        exact n2.2.2 x h1 x (by simp) rfl
      refine ⟨_, rfl, _, rfl, d, _, rfl, DPut.k (k := Sum.inr x) d6 (by unfold kvW; rw [List.length_map]; exact line_lt (by omega)), ?_⟩
      rw [putK_new _ (kvW_none nx)]
      have e7 : kvW ws ++ [((Sum.inr x : Key), V.ref u)] = kvW (ws ++ [(x, u, q1 - 4, 1 + y)]) := by
        unfold kvW
        rw [List.map_append]
        rfl
      rw [e7]
      have opd : p ≠ d := od6.ne.symm
      have tup7 : ∀ {b : Addr} {vs : List V}, G6 b = some (.tup vs) → (upd G6 d (.dK (kvW (ws ++ [(x, u, q1 - 4, 1 + y)])))) b = some (.tup vs) := fun e => by
        rw [upd_ne (ne_of e d6 (by intro z; cases z))]
        exact e
      refine ⟨_, _, ws ++ [(x, u, q1 - 4, 1 + y)], rfl, (p6.put od6).weak (by omega), ((kG.trans k1).trans k6).new fd0, by rw [upd_ne nad]; exact a6, oa6.put opd, upd_same, od6.put opd, ⟨?_, fun w hw => ?_, fun w hw => ?_, fun w hw => ?_⟩, by rw [List.length_append]; show _ + 1 ≤ _; omega, fun z hz => ?_⟩
      · rw [List.map_append, List.nodup_append]
        refine ⟨wk.nd, by simp, fun z hz y hy e => nx ?_⟩
        rw [List.mem_singleton.mp hy] at e
        have e : z = x := e
        rw [← e]
        exact hz
      · rcases List.mem_append.mp hw with h | h
        · exact tup7 (wk6.tp w h)
        · rw [List.mem_singleton.mp h]
          exact tup7 hu6
      · rcases List.mem_append.mp hw with h | h
        · exact wk.bt w h
        · rw [List.mem_singleton.mp h]
          show -4 ≤ q1 - 4 ∧ q1 - 4 ≤ 4
          omega
      · rcases List.mem_append.mp hw with h | h
        · exact wk.bb w h
        · rw [List.mem_singleton.mp h]
          show 1 ≤ 1 + y ∧ 1 + y ≤ 60
          omega
      · rw [et]
        rcases List.mem_append.mp hz with h | h
        · exact List.mem_append_left _ (sub z h)
        · rw [List.mem_singleton.mp h]
          simp
    · rintro σ G ⟨v3, v4, ws, rfl, pG, kG, aG, oG, dG, odG, wk, lw, sub⟩
      rw [List.length_map] at pG lw
      exact ⟨_, rfl, hQ d ws G (pG.weak (by omega)) kG dG odG fd0 wk (by omega) fun w hw => List.mem_of_mem_take (sub w hw)⟩
end
end K16
set_option Elab.async false
set_option linter.all false
set_option maxRecDepth 100000
set_option maxHeartbeats 4000000
namespace K16
open PySem PySem.Spec PyProof.Rows L2
open C8 (Cal Mak Met pe_c pe_mk pe_mt pe_mt0)
/-- rows of places, in a list -/
abbrev nV (I : List Nat) : List V := I.map fun k => V.int (k : Nat)
def RwL (H : Hp) (o : Addr) (ps : List (Addr × List Nat)) : Prop := H o = some (.lst (ps.map fun p => V.ref p.1)) ∧ ∀ p ∈ ps, H p.1 = some (.lst (nV p.2))
theorem RwL.same {H H' : Hp} {o : Addr} {ps : List (Addr × List Nat)} (h : RwL H o ps) (s : Same H H') : RwL H' o ps := ⟨s _ _ h.1, fun p hp => s _ _ (h.2 p hp)⟩
theorem eqv_nil (ds : List PyData) : (!PyData.eqv (.list ds) (.list [])) = !ds.isEmpty := by cases ds <;> simp [PyData.eqv, PyData.eqvAll]
theorem dp_ns {K : PySem.W.Frag} {H : Hp} : ∀ I : List Nat, DpAll K H (nV I) (I.map fun k => PyData.int (k : Nat))
  | [] => .nil
  | k :: I => .cons (.int _) (dp_ns I)
theorem sh_ns : ∀ I : List Nat, PyData.canLayAll0 (I.map fun k => PyData.int (k : Nat)) = true ∧ PyData.depthAll (I.map fun k => PyData.int (k : Nat)) = 0
  | [] => ⟨rfl, by simp [PyData.depthAll]⟩
  | k :: I => by
    obtain ⟨a, b⟩ := sh_ns I
    exact ⟨by simp [PyData.canLayAll0, PyData.canLay0, a], by simp [PyData.depthAll, PyData.depth, b]⟩
theorem shp_ns (I : List Nat) : SeqAt.shaped (.list (I.map fun k => PyData.int (k : Nat))) = true := by
  obtain ⟨a, b⟩ := sh_ns I
  simp [SeqAt.shaped, PyData.canLay0, PyData.depth, a, b]
theorem beg_at {I : List Nat} {k : Nat} {J : List Nat} (h : I = J ++ [k]) : atI (nV I) (-1) = some (.int (k : Nat)) ∧ beg I = k + 1 := by
  subst h
  refine ⟨?_, beg_snoc J k⟩
  unfold atI ixN nV
  rw [List.map_append, List.length_append, List.length_map]
  have e : (-1 + ((J.length + 1 : Nat) : Int)).toNat = J.length := by omega
  have c : ¬ (0 ≤ (-1 : Int)) := by decide
  have c2 : -(((J.length + ([k].map fun k : Nat => V.int (k : Nat)).length : Nat) : Int)) ≤ -1 := by
    show -(((J.length + 1 : Nat) : Int)) ≤ -1
    omega
  rw [if_neg c, if_pos c2]
  show ((some (-1 + ((J.length + 1 : Nat) : Int)).toNat : Option Nat).bind fun j => (List.map (fun k : Nat => V.int (k : Nat)) J ++ [V.int (k : Nat)])[j]?) = _
  rw [e]
  show (List.map (fun k : Nat => V.int (k : Nat)) J ++ [V.int (k : Nat)])[J.length]? = _
  rw [List.getElem?_append_right (by rw [List.length_map]; exact Nat.le_refl _), List.length_map, Nat.sub_self]
  rfl
section
variable {P : Program} {w : World} {K : PySem.W.Frag} {mg : Str → Option Value} {base : Heap} {f : Addr} {fd : FuncData}
def spSs : Sp := fun vs H Q _ => ∃ (N s : Nat), vs = [.int (N : Nat), .int (s : Nat)] ∧ s ≤ N ∧ N ≤ 12 ∧
  ∀ (o : Addr) (ps : List (Addr × List Nat)) (H' : Hp), Same H H' → H o = none → RwL H' o ps → ps.map (·.2) = rows N 0 s [] → Q (.ref o) H'
theorem ok_ss (F : Dn K d_l_sets f fd) (b : Bl mg) : FnOk P w K mg base CX0 1 f fd ["_law_many", "_law_size"] spSs := by
  refine F.ok sc_l_sets (fun vs H Q E h => ?_) (fun cdv A outer s H vs Q E hr h => ?_)
  · obtain ⟨_, _, rfl, _⟩ := h
    rfl
  · obtain ⟨N, z, rfl, zN, N12, hQ⟩ := h
    have hu64 : (A.deeper (envOfC d_l_sets.qual d_l_sets.scope s.heap.objs.size f cdv)).units + 64 < cLine := by have := hr.un; omega
    refine ⟨_, PSs.nox (pss_cons (ps_set (i := 2) sc_l_sets.nd rfl (.inl rfl) (pe_lst (pa_cons (pe_lst pa_nil) pa_nil)))
      (pss_cons (ps_for PassesOwn.never rfl (pi_range1 rfl b.range (pa_cons (pv 1) pa_nil)) (pg_name (i := 3) sc_l_sets.nd rfl (.inl rfl))
        (pss_cons (ps_set (i := 4) sc_l_sets.nd rfl (.inl rfl) (pe_lst pa_nil))
        (pss_cons (ps_for PassesOwn.never rfl (pi_list (pv 2)) (pg_name (i := 5) sc_l_sets.nd rfl (.inr rfl))
          (C8.pss_cut (ps_set (i := 6) sc_l_sets.nd rfl (.inl rfl) (pe_ifExp (pt_cmpR (op_neD hu64) (pv 5) (pe_lst pa_nil) (nomark _)) (pe_op op_add (pe_ix (r := rIxL K) ix_list (pv 5) (pe_un un_neg pe_int) (fun _ _ => rfl)) pe_int) pe_int))
          (pss_one (ps_expr (pe_bm PySem.F.plainAttrs_list PySem.F.slot_list_extend PySem.F.type_list_extend mt_extend (pv 4) (pa_cons (pe_lc (own := [("_law_k", 7)]) (g := gName 7) (tt := tYes) rfl sc_l_sets.nd (pi_range2 rfl b.range (pa_cons (pv 6) (pa_cons (pe_op op_add (pe_op op_add (pe_op op_sub (pv 0) (pv 1)) (pv 3)) pe_int) pa_nil))) (blkOk_by (N := N_l_sets) (sc := defScope s_l_sets) (by decide +kernel))
              (fun _ _ _ _ _ => pg_name (i := 7) sc_l_sets.nd rfl (Or.inl rfl)) (fun _ _ _ _ _ => pts_nil) (fun _ _ _ _ _ => pe_op op_cat (pv 5) (pe_lst (pa_cons (pv 7) pa_nil)))) pa_nil))))))
        (pss_one (ps_set (i := 2) sc_l_sets.nd rfl (.inl rfl) (pv 4))))))
      (pss_one (ps_ret (pv 2))))), ?_⟩
    refine ⟨by show 0 ≤ sizeLine; decide, fun e fe => ⟨by show 1 ≤ sizeLine; decide, fun f0 ff0 => ?_⟩⟩
    have se := same_new (o := .lst []) fe
    have sf := same_new (o := .lst [V.ref e]) ff0
    have R0 : RwL (upd (upd H e (.lst [])) f0 (.lst [V.ref e])) f0 [(e, [])] := ⟨upd_same, fun p hp => by rw [List.mem_singleton.mp hp]; exact sf _ _ upd_same⟩
    have s0 := se.trans sf
    have ff1 : H f0 = none := se.free ff0
    generalize upd (upd H e (.lst [])) f0 (.lst [V.ref e]) = H1 at R0 s0
    refine ⟨_, rfl, _, rfl, by omega, by omega, ?_⟩
    rw [Int.toNat_natCast]
    refine for_range (n := z) (fun t σ H2 => ∃ (v3 v4 v5 v6 : Option V) (fl : Addr) (ps : List (Addr × List Nat)), σ = [some (.int (N : Nat)), some (.int (z : Nat)), some (.ref fl), v3, v4, v5, v6, none] ∧ Same H H2 ∧ H fl = none ∧ RwL H2 fl ps ∧ ps.map (·.2) = lev N z t)
      ⟨_, _, _, _, f0, _, rfl, s0, ff1, R0, rfl⟩ ?_ ?_
    · rintro t σ H2 ht ⟨v3, v4, v5, v6, fl, ps, rfl, s2, ffl, R2, el⟩
      refine ⟨by show 0 ≤ sizeLine; decide, fun lo flo => ?_⟩
      have sl := same_new (o := .lst []) flo
      have nfl : fl ≠ lo := ne_of_none R2.1 flo
      have pl : ps.length ≤ 4096 := by
        have h1 := lev_len zN (t := t) (by omega)
        rw [← el, List.length_map] at h1
        have h2 : 2 ^ N ≤ 2 ^ 12 := Nat.pow_le_pow_right (by decide) N12
        have h3 : (2 : Nat) ^ 12 = 4096 := by decide
        omega
      have pl1 := lev_len zN (t := t + 1) (by omega)
      have p12 : 2 ^ N ≤ 4096 := by
        have h2 : 2 ^ N ≤ 2 ^ 12 := Nat.pow_le_pow_right (by decide) N12
        have h3 : (2 : Nat) ^ 12 = 4096 := by decide
        omega
      refine ⟨_, rfl, fl, rfl, ⟨_, SqL.of (sl _ _ R2.1)⟩, for_list (K := K) (xs := ps.map fun p => V.ref p.1) (fun i σ H' => ∃ (v5 v6 : Option V) (qs : List (Addr × List Nat)), σ = [some (.int (N : Nat)), some (.int (z : Nat)), some (.ref fl), some (.int (0 + (t : Int))), some (.ref lo), v5, v6, none] ∧ Same H2 H' ∧ RwL H' lo qs ∧ qs.map (·.2) = ((lev N z t).take i).flatMap (ext N (z - t - 1)) ∧ ∀ q ∈ qs, q.1 ≠ lo)
        ⟨_, _, [], rfl, sl, ⟨upd_same, fun p hp => nomatch hp⟩, rfl, fun q hq => nomatch hq⟩ (fun i σ H' _ q => by obtain ⟨_, _, _, _, q, _⟩ := q; exact SqL.of (q _ _ R2.1)) ?_ ?_⟩
      · rintro i v σ H3 hv ⟨v5, v6, qs, rfl, s3, Rq, eq, nq⟩
        rw [List.getElem?_map] at hv
        obtain ⟨p, hp, rfl⟩ := Option.map_eq_some_iff.mp hv
        obtain ⟨pa, I⟩ := p
        have hpm := List.mem_of_getElem? hp
        have hI : (lev N z t)[i]? = some I := by rw [← el, List.getElem?_map, hp]; rfl
        have hIm := List.mem_of_getElem? hI
        obtain ⟨b1, b2⟩ := lev_beg zN t (by omega) I hIm
        have hpa := s3 _ _ (R2.2 _ hpm)
        refine ⟨fun σ' H' => σ' = [some (.int (N : Nat)), some (.int (z : Nat)), some (.ref fl), some (.int (0 + (t : Int))), some (.ref lo), some (.ref pa), some (.int ((beg I : Nat) : Int)), none] ∧ Same H3 H', ?_, ?_⟩
        · refine ⟨_, rfl, by show 0 ≤ sizeLine; decide, fun e2 fe2 => ?_⟩
          have se2 := same_new (o := .lst []) fe2
          refine ⟨.list (I.map fun k => PyData.int (k : Nat)), .list [], Dp.lst (SqL.of (se2 _ _ hpa)) (dp_ns I), Dp.lst (SqL.of upd_same) .nil, shp_ns I, by decide, ?_⟩
          have hpa2 := se2 _ _ hpa
          generalize upd H3 e2 (.lst []) = H4 at se2 hpa2
          rw [eqv_nil]
          refine ⟨_, rfl, ?_⟩
          by_cases c : I = []
          · subst c
            exact iteF ⟨rfl, se2⟩
          · have hJ := (List.dropLast_concat_getLast c).symm
            obtain ⟨q1, q2⟩ := beg_at hJ
            have hne : (!(I.map fun k => PyData.int (k : Nat)).isEmpty) = true := by
              cases I with
              | nil => exact absurd rfl c
              | cons a b => rfl
            rw [hne]
            refine iteT ⟨_, rfl, _, rfl, pa, _, _, _, rfl, rfl, SqL.of hpa2, q1, _, _, rfl, rfl, ?_, se2⟩
            rw [q2]
            rfl
        rintro σ' H4 ⟨rfl, s34⟩
        have Rq4 := Rq.same s34
        have hpa4 := s34 _ _ hpa
        have s4 := s3.trans s34
        have hlq : ∀ j, j ≤ (lev N z t).length → (((lev N z t).take j).flatMap (ext N (z - t - 1))).length ≤ 4096 := fun j _ => by
          have h1 : (lev N z (t + 1)).length = (((lev N z t).take j).flatMap (ext N (z - t - 1))).length + (((lev N z t).drop j).flatMap (ext N (z - t - 1))).length := by
            show ((lev N z t).flatMap (ext N (z - t - 1))).length = _
            conv => lhs; rw [← List.take_append_drop j (lev N z t)]
            rw [List.flatMap_append, List.length_append]
          omega
        have ql : qs.length ≤ 4096 := by
          have := hlq i (by have := (List.getElem?_eq_some_iff.mp hI).1; omega)
          rw [← eq, List.length_map] at this
          exact this
        obtain ⟨m, hm⟩ : ∃ m, m = N - (z - t - 1) - beg I := ⟨_, rfl⟩
        have em : (((N : Int) - (z : Int) + (0 + (t : Int)) + 1) - ((beg I : Nat) : Int)).toNat = m := by omega
        refine ⟨_, rfl, Or.inl ⟨rfl, _, SqL.of Rq4.1⟩, _, rfl, _, rfl, _, rfl, _, _, rfl, rfl, _, rfl, _, _, rfl, rfl, _, _, rfl, rfl, _, _, rfl, ⟨by omega, by omega, by omega, by omega⟩, ?_⟩
        rw [em]
        intro E2 hE2
        refine lc_range (n := m) (fun j H' => ∃ rs : List (Addr × List Nat), H' E2 = some (.lst (rs.map fun r => V.ref r.1)) ∧ (∀ r ∈ rs, H' r.1 = some (.lst (nV r.2))) ∧ rs.map (·.2) = (List.range' (beg I) j).map (fun k => I ++ [k]) ∧ Same H4 H' ∧ ∀ r ∈ rs, r.1 ≠ E2 ∧ H4 r.1 = none) ⟨[], upd_same, fun r hr => (nomatch hr), rfl, same_new hE2, fun r hr => nomatch hr⟩ ?_ ?_
        · rintro j H5 hj ⟨rs, hE5, hrs, er, s5, nE⟩
          have rl : rs.length = j := by have := congrArg List.length er; rw [List.length_map, List.length_map, List.length_range'] at this; exact this
          refine ⟨rfl, ?_⟩
          refine ⟨_, rfl, _, rfl, by show 1 ≤ sizeLine; decide, fun u fu => ?_⟩
          have su := same_new (o := .lst [V.int (((beg I : Nat) : Int) + (j : Nat))]) fu
          have I12 : I.length ≤ 12 := by rw [b2]; omega
          refine ⟨pa, u, _, _, rfl, rfl, su _ _ (s5 _ _ hpa4), upd_same, ?_, fun q fq => ?_⟩
          · rw [List.length_map]
            show I.length + 1 ≤ sizeLine
            exact Nat.le_of_lt (line_lt (by omega))
          have sq := same_new (o := .lst (nV I ++ [V.int (((beg I : Nat) : Int) + (j : Nat))])) fq
          have hq : (upd (upd H5 u (.lst [V.int (((beg I : Nat) : Int) + (j : Nat))])) q (.lst (nV I ++ [V.int (((beg I : Nat) : Int) + (j : Nat))]))) q = some (.lst (nV I ++ [V.int (((beg I : Nat) : Int) + (j : Nat))])) := upd_same
          have s57 := su.trans sq
          generalize upd (upd H5 u (.lst [V.int (((beg I : Nat) : Int) + (j : Nat))])) q (.lst (nV I ++ [V.int (((beg I : Nat) : Int) + (j : Nat))])) = H7 at hq s57
          have hE7 := s57 _ _ hE5
          have kl : ∀ b ys, H7 b = some (.lst ys) → b ≠ E2 → (upd H7 E2 (.lst ((rs.map fun r => V.ref r.1) ++ [V.ref q]))) b = some (.lst ys) := fun b ys e n => by rw [upd_ne n]; exact e
          have nqE : q ≠ E2 := (ne_of_none (su _ _ hE5) fq).symm
          have fq4 : H4 q = none := s5.free (su.free fq)
          refine ⟨_, hE7, by rw [List.length_map, rl]; exact line_lt (by omega), rs ++ [(q, I ++ [beg I + j])], by rw [upd_same, List.map_append]; rfl, fun r hr => ?_, ?_, fun b o e => ?_, fun r hr => ?_⟩
          · rcases List.mem_append.mp hr with hr | hr
            · exact kl _ _ (s57 _ _ (hrs r hr)) (nE r hr).1
            · rw [List.mem_singleton.mp hr]
              refine kl _ _ ?_ nqE
              rw [hq]
              unfold nV
              rw [List.map_append]
              simp
          · rw [List.map_append, er, List.range'_concat, List.map_append]
            simp
          · rw [upd_ne (ne_of_none e hE2)]
            exact s57 _ _ (s5 _ _ e)
          · rcases List.mem_append.mp hr with hr | hr
            · exact nE r hr
            · rw [List.mem_singleton.mp hr]
              exact ⟨nqE, fq4⟩
        rintro H5 ⟨rs, hE5, hrs, er, s5, nE⟩
        have rl : rs.length = m := by have := congrArg List.length er; rw [List.length_map, List.length_map, List.length_range'] at this; exact this
        have hlo5 := s5 _ _ Rq4.1
        have kl : ∀ b ys, H5 b = some (.lst ys) → b ≠ lo → (upd H5 lo (.lst ((qs.map fun p => V.ref p.1) ++ rs.map fun r => V.ref r.1))) b = some (.lst ys) := fun b ys e n => by rw [upd_ne n]; exact e
        refine ⟨lo, E2, _, _, rfl, rfl, hlo5, hE5, ?_, _, _, qs ++ rs, rfl, fun b o e => ?_, ⟨by rw [upd_same, List.map_append], fun r hr => ?_⟩, ?_, fun r hr => ?_⟩
        · rw [List.length_map, List.length_map, rl]
          exact Nat.le_of_lt (line_lt (by omega))
        · rw [upd_ne (ne_of_none e flo)]
          exact s5 _ _ (s4 _ _ e)
        · rcases List.mem_append.mp hr with hr | hr
          · exact kl _ _ (s5 _ _ (Rq4.2 r hr)) (nq r hr)
          · exact kl _ _ (hrs r hr) fun z => by
              have := (nE r hr).2
              rw [z, Rq4.1] at this
              cases this
        · rw [List.map_append, eq, er, take_one hI, List.flatMap_append]
          congr 1
          rw [List.flatMap_cons, List.flatMap_nil, List.append_nil]
          unfold ext
          rw [← hm]
        · rcases List.mem_append.mp hr with hr | hr
          · exact nq r hr
          · intro z
            have := (nE r hr).2
            rw [z, Rq4.1] at this
            cases this
      · rintro σ H3 ⟨v5, v6, qs, rfl, s3, Rq, eq, nq⟩
        rw [List.length_map] at eq
        have e9 : (lev N z t).length = ps.length := by rw [← el, List.length_map]
        rw [← e9, List.take_length] at eq
        exact ⟨_, rfl, _, _, _, _, lo, qs, rfl, s2.trans s3, s2.free flo, Rq, eq⟩
    · rintro σ H2 ⟨v3, v4, v5, v6, fl, ps, rfl, s2, ffl, R2, el⟩
      rw [lev_end zN] at el
      exact ⟨_, rfl, hQ fl ps H2 s2 ffl R2 el⟩
end
end K16
set_option Elab.async false
set_option linter.all false
set_option maxRecDepth 100000
set_option maxHeartbeats 4000000
namespace K16.Q
open PySem PySem.Spec PyProof.Rows L2
/-- a def of the text -/
abbrev Dn (K : PySem.W.Frag) (d : He.DefD) (f : Addr) (fd : FuncData) : Prop := FunD K d.name d.qual d.params d.body d.scope (d.dvs K) (d.kws K) f fd
/-- what the module's names are -/
structure Bl (mg : Str → Option Value) : Prop where
  isi : mg "isinstance" = none
  int : mg "int" = none
  bool : mg "bool" = none
  abs : mg "abs" = none
  list : mg "list" = none
  range : mg "range" = none
  len : mg "len" = none
theorem op_fdW {X : Cx} : OpR X (binaryOp .FloorDiv) (rI (fun _ j => j ≠ 0 ∧ j.natAbs.log2 < 9000) fun i j => .int (i.fdiv j)) := opI fun _ _ _ _ _ _ _ hc q => floordiv_int hc.1 q (.inl (PyProof.noPylong_of_log2 hc.2))
/-- the fields of a Share -/
def shF (q : Int × Int) : List (Str × V) := putF "bottom" (.int q.2) (putF "top" (.int q.1) [])
theorem tb : ¬ (("top" : Str) = "bottom") := by decide +kernel
theorem shF_top (q : Int × Int) : (shF q).lookup ("top" : Str) = some (.int q.1) := by
  unfold shF
  rw [lookup_putF, if_neg tb, lookup_putF, if_pos rfl]
theorem shF_bot (q : Int × Int) : (shF q).lookup ("bottom" : Str) = some (.int q.2) := by
  unfold shF
  rw [lookup_putF, if_pos rfl]
theorem shF_no (q : Int × Int) {m : Str} (h1 : ¬ m = "bottom") (h2 : ¬ m = "top") : (shF q).lookup m = none := by
  unfold shF
  rw [lookup_putF, if_neg h1, lookup_putF, if_neg h2]
  all_goals rfl
/-- a Share stands at p -/
def Sh (C : Addr) (H : Hp) (p : Addr) (q : Int × Int) : Prop := ∃ dx, H p = some (.ins C dx (shF q))
/-- small enough, the bottom above nought -/
def Bd (n : Nat) (q : Int × Int) : Prop := q.1.natAbs < 2 ^ n ∧ 0 < q.2 ∧ q.2.natAbs < 2 ^ n
theorem Sh.keep {C : Addr} {H H' : Hp} {p : Addr} {q : Int × Int} (s : Same H H') (h : Sh C H p q) : Sh C H' p q := let ⟨dx, e⟩ := h; ⟨dx, s _ _ e⟩
theorem log_lt {j : Int} {n : Nat} (h : j.natAbs < 2 ^ n) (h0 : 0 < n) (h9 : n ≤ 9000) : j.natAbs.log2 < 9000 := Nat.lt_of_lt_of_le (PySem.Flt.log2_lt_of h0 h) h9
/-- what is known of the class -/
structure Cl (K : PySem.W.Frag) (mg : Str → Option Value) (C : Addr) : Prop where
  cl : Cls K C
  nt : NoAttr K C "top"
  nb : NoAttr K C "bottom"
  g : mg "Share" = some (.ref C)
section
variable {P : Program} {w : World} {K : PySem.W.Frag} {mg : Str → Option Value} {base : Heap} {f C : Addr} {fd : FuncData}

def spWhole : Sp := fun vs H Q _ => ∃ n : Int, vs = [.int n] ∧ Q (.bl true) H
theorem ok_whole (F : Dn K d_is_whole f fd) (b : Bl mg) : FnOk P w K mg base CX0 1 f fd ["thing"] spWhole := by
  refine F.ok sc_is_whole (fun vs H Q E h => ?_) (fun cdv A outer s H vs Q E hr h => ?_)
  · obtain ⟨n, rfl, _⟩ := h
    rfl
  · obtain ⟨n, rfl, hQ⟩ := h
    refine ⟨_, PSs.nox (pss_one (ps_ret (pe_and
      (pe_callB call_isi rfl b.isi boot_isinstance (pa_cons (pv 0) (pa_cons (pe_bltn (v := .ty "int") rfl b.int boot_int rfl) pa_nil)))
      (pe_one (pe_not (pe_callB call_isi rfl b.isi boot_isinstance (pa_cons (pv 0) (pa_cons (pe_bltn (v := .ty "bool") rfl b.bool boot_bool rfl) pa_nil)))))))), ?_⟩
    refine ⟨_, rfl, _, _, _, _, true, rfl, ClsV.ty _, TyX.base (TyOf.int n), kit_ty (by decide +kernel), true, rfl, ?_⟩
    refine iteT ?_
    exact ⟨_, rfl, _, _, _, _, false, rfl, ClsV.ty _, TyX.base (TyOf.int n), kit_ty (by decide +kernel), false, rfl, hQ⟩
def spGcd : Sp := fun vs H Q _ => ∃ x y : Int, vs = [.int x, .int y] ∧ Q (.int (Int.gcd x y : Int)) H
theorem abs_eq (x : Int) : (if x < 0 then -x else x) = (x.natAbs : Int) := by split <;> omega
theorem ok_gcd (F : Dn K d_common_part f fd) (b : Bl mg) : FnOk P w K mg base CX0 1 f fd ["one", "other"] spGcd := by
  refine F.ok sc_common_part (fun vs H Q E h => ?_) (fun cdv A outer s H vs Q E hr h => ?_)
  · obtain ⟨x, y, rfl, _⟩ := h
    rfl
  · obtain ⟨x, y, rfl, hQ⟩ := h
    refine ⟨_, PSs.nox (pss_cons (ps_set (i := 0) sc_common_part.nd rfl (.inl rfl) (pe_callB call_abs rfl b.abs boot_abs (pa_cons (pv 0) pa_nil)))
      (pss_cons (ps_set (i := 1) sc_common_part.nd rfl (.inl rfl) (pe_callB call_abs rfl b.abs boot_abs (pa_cons (pv 1) pa_nil)))
      (pss_cons (ps_while PassesOwn.never (pt_cmpR op_ne (pv 1) pe_int (nomark _)) (pss_one (ps_par (i := 0) (j := 1) rfl sc_common_part.nd rfl rfl (by decide) rfl rfl (pa_cons (pv 1) (pa_cons (pe_op op_mod (pv 0) (pv 1)) pa_nil)) rfl)))
      (pss_one (ps_ret (pv 0)))))), ?_⟩
    refine ⟨_, rfl, _, rfl, _, rfl, _, rfl, while_by (fun σ H2 => H2 = H ∧ ∃ a c : Int, σ = [some (.int a), some (.int c)] ∧ 0 ≤ a ∧ 0 ≤ c ∧ Int.gcd a c = Int.gcd x y)
      (fun σ _ => match σ with | [_, some (.int c)] => c.toNat | _ => 0) ⟨rfl, _, _, rfl, ?_, ?_, ?_⟩ ?_ ?_⟩
    · split <;> omega
    · split <;> omega
    · rw [abs_eq, abs_eq]
      rfl
    · rintro σ H2 ⟨rfl, a, c, rfl, ha, hc, hg⟩
      refine ⟨_, rfl, rfl, _, rfl, ?_⟩
      by_cases h0 : c = 0
      · subst h0
        refine iteNS rfl ?_
        refine ⟨_, rfl, ?_⟩
        have e : Int.gcd x y = a.natAbs := by rw [← hg]; simp
        have e2 : (Int.gcd x y : Int) = a := by omega
        rw [e2] at hQ
        exact hQ
      · have hne : (!decide (V.int c = V.int 0)) = true := by simp [h0]
        rw [hne]
        refine iteT ?_
        have hp : 0 < c := by omega
        refine ⟨_, rfl, _, rfl, _, rfl, _, _, rfl, rfl, hp, _, _, rfl, ⟨rfl, _, _, rfl, hc, Int.emod_nonneg _ h0, ?_⟩, ?_⟩
        · rw [KM.gcd_turn ha hp, hg]
        · show (a % c).toNat < c.toNat
          have h1 := Int.emod_nonneg a h0
          have h2 := Int.emod_lt_of_pos a hp
          omega
    · rintro σ H2 Q1 Q2 hm ⟨v, hv, h1, k, hk, q⟩
      exact ⟨v, hv, h1, k, hk, hm _ _ q⟩
end
end K16.Q
set_option Elab.async false
set_option linter.all false
set_option maxRecDepth 100000
set_option maxHeartbeats 4000000
namespace K16.Q
open PySem PySem.Spec PyProof.Rows L2
open C8 (Cal Mak Met pe_c pe_mk pe_mt pe_mt0)
section
variable {P : Program} {w : World} {K : PySem.W.Frag} {mg : Str → Option Value} {base : Heap} {f C : Addr} {fd : FuncData}
abbrev CalW (P : Program) (w : World) (K : PySem.W.Frag) (mg : Str → Option Value) (base : Heap) : Prop := Cal P w K mg base 1 "is_whole" spWhole []
abbrev CalG (P : Program) (w : World) (K : PySem.W.Frag) (mg : Str → Option Value) (base : Heap) : Prop := Cal P w K mg base 1 "common_part" spGcd []
/-- __init__: a Share in lowest terms -/
def spInit (C : Addr) : Sp := fun vs H Q _ => ∃ (p dx : Addr) (t b : Int) (n : Nat), vs = [.ref p, .int t, .int b] ∧ b ≠ 0 ∧ b.natAbs < 2 ^ n ∧ 0 < n ∧ n ≤ 9000 ∧ H p = some (.ins C dx []) ∧
  ∀ H', (∀ a o, a ≠ p → H a = some o → H' a = some o) → H' p = some (.ins C dx (shF (KM.low t b))) → Q .non H'
theorem ok_init (F : Dn K d_Share_init f fd) (cW : CalW P w K mg base) (cG : CalG P w K mg base) (T : Cl K mg C) : FnOk P w K mg base CX0 2 f fd ["self", "top", "bottom"] (spInit C) := by
  refine F.ok sc_Share_init (fun vs H Q E h => ?_) (fun cdv A outer s H vs Q E hr h => ?_)
  · obtain ⟨p, dx, t, b, n, rfl, _⟩ := h
    rfl
  · obtain ⟨p, dx, t, b, n, rfl, hb, hn, hn0, hn9, hp, hQ⟩ := h
    refine ⟨_, PSs.nox (pss_cons (ps_for PassesOwn.never rfl (pi_tup (pe_tup (pa_cons (pv 1) (pa_cons (pv 2) pa_nil)))) (pg_name (i := 3) sc_Share_init.nd rfl (.inl rfl))
        (pss_one (ps_if (pt_not (pt_val (pe_c cW hr (by decide) rfl (pa_cons (pv 3) pa_nil)))) pss_never pss_nil)))
      (pss_cons (ps_if (pt_cmpR op_eq (pv 2) pe_int (nomark _)) pss_never pss_nil)
      (pss_cons (ps_set (i := 4) sc_Share_init.nd rfl (.inl rfl) (pe_c cG hr (by decide) rfl (pa_cons (pv 1) (pa_cons (pv 2) pa_nil))))
      (pss_cons (ps_if (pt_cmpR op_lt (pv 2) pe_int (nomark _)) (pss_one (ps_set (i := 4) sc_Share_init.nd rfl (.inl rfl) (pe_un un_neg (pv 4)))) pss_nil)
      (pss_cons (ps_fld (pv 0) (pe_op op_fdW (pv 1) (pv 4)) rfl)
      (pss_one (ps_fld (pv 0) (pe_op op_fdW (pv 2) (pv 4)) rfl))))))), ?_⟩
    refine ⟨_, rfl, _, rfl, by show 2 ≤ sizeLine; decide, fun u hu => ?_⟩
    have npu : p ≠ u := ne_of_none hp hu
    refine ⟨u, rfl, ⟨_, SqT.of upd_same⟩, for_tup (K := K) (xs := [.int t, .int b]) (fun i σ H2 => H2 = upd H u (.tup [.int t, .int b]) ∧ ∃ v, σ = [some (.ref p), some (.int t), some (.int b), v, none])
      ⟨rfl, none, rfl⟩ (fun i σ H2 _ h => by rw [h.1]; exact SqT.of upd_same) ?_ ?_⟩
    · rintro i y σ H2 hi ⟨rfl, v, rfl⟩
      have hy : ∃ n : Int, y = .int n := by
        match i, hi with
        | 0, e => exact ⟨t, (Option.some.inj e).symm⟩
        | 1, e => exact ⟨b, (Option.some.inj e).symm⟩
      obtain ⟨n, rfl⟩ := hy
      refine ⟨_, rfl, n, rfl, true, rfl, ?_⟩
      refine iteF ?_
      exact ⟨rfl, _, rfl⟩
    · rintro σ H2 ⟨rfl, v, rfl⟩
      refine ⟨_, rfl, rfl, _, rfl, ?_⟩
      have hb0 : decide (V.int b = V.int 0) = false := by simp [hb]
      rw [hb0]
      refine iteF ?_
      refine ⟨_, rfl, _, rfl, t, b, rfl, ?_⟩
      refine ⟨_, rfl, _, _, rfl, rfl, _, rfl, ?_⟩
      have hs9 : (KM.sg t b).natAbs.log2 < 9000 := log_lt (Nat.lt_of_le_of_lt (KM.sg_le hb) hn) hn0 hn9
      have fin : ∀ c : Int, c = KM.sg t b → ∀ v, tSeq (sFld K (tVar 0) (tOp (rI (fun _ j => j ≠ 0 ∧ j.natAbs.log2 < 9000) fun i j => .int (i.fdiv j)) (tVar 1) (tVar 4)) "top") (sFld K (tVar 0) (tOp (rI (fun _ j => j ≠ 0 ∧ j.natAbs.log2 < 9000) fun i j => .int (i.fdiv j)) (tVar 2) (tVar 4)) "bottom")
          { nx := fun _ H' => Q .non H', rt := Q } [some (.ref p), some (.int t), some (.int b), v, some (.int c)] (upd H u (.tup [.int t, .int b])) := by
        rintro c rfl v
        refine ⟨_, rfl, _, rfl, _, _, rfl, rfl, ⟨KM.sg_ne hb, hs9⟩, _, rfl, p, C, dx, _, rfl, (by rw [upd_ne npu]; exact hp), T.cl, T.nt, (by show 0 < 1000; decide), ?_⟩
        refine ⟨_, rfl, _, rfl, _, _, rfl, rfl, ⟨KM.sg_ne hb, hs9⟩, _, rfl, p, C, dx, _, rfl, upd_same, T.cl, T.nb, (by show 1 < 1000; decide), ?_⟩
        refine hQ _ (fun a o ha e => ?_) upd_same
        rw [upd_ne ha, upd_ne ha, upd_ne (ne_of_none e hu)]
        exact e
      refine ite2 (fun h => ?_) (fun h => ?_)
      · have h' : b < 0 := of_decide_eq_true h
        refine ⟨_, rfl, _, rfl, ?_⟩
        exact fin _ (by unfold KM.sg; rw [if_pos h']) _
      · have h' : ¬ b < 0 := fun z => h (decide_eq_true z)
        exact fin _ (by unfold KM.sg; rw [if_neg h']) _
end
end K16.Q
set_option Elab.async false
set_option linter.all false
set_option maxRecDepth 100000
set_option maxHeartbeats 4000000
namespace K16.Q
open PySem PySem.Spec PyProof.Rows L2
open C8 (Cal Mak Met pe_c pe_mk pe_mt pe_mt0)
section
variable {P : Program} {w : World} {K : PySem.W.Frag} {mg : Str → Option Value} {base : Heap} {f C : Addr} {fd : FuncData}
abbrev MakS (P : Program) (w : World) (K : PySem.W.Frag) (mg : Str → Option Value) (base : Heap) (C : Addr) : Prop := Mak P w K mg base 2 "Share" C (spInit C) []
/-- Share(t, b): what is left to show -/
theorem mk_at {H1 : Hp} {t b : Int} {n : Nat} {Q : VK} (hb : b ≠ 0) (hn : b.natAbs < 2 ^ n) (hn0 : 0 < n) (hn9 : n ≤ 9000)
    (hQ : ∀ r H', Same H1 H' → H1 r = none → Sh C H' r (KM.low t b) → Q (.ref r) H') :
    ∀ x dx, H1 x = none → H1 dx = none → dx ≠ x → spInit C (.ref x :: ([V.int t, V.int b] ++ [])) (upd (upd H1 dx (.own x)) x (.ins C dx [])) (fun v H2 => v = .non ∧ Q (.ref x) H2) E0 := by
  intro x dx nx nd ne
  refine ⟨x, dx, t, b, n, rfl, hb, hn, hn0, hn9, upd_same, fun H' kp hp => ⟨rfl, hQ x H' (fun a o e => ?_) nx ⟨dx, hp⟩⟩⟩
  refine kp a o (ne_of_none e nx) ?_
  rw [upd_ne (ne_of_none e nx), upd_ne (ne_of_none e nd)]
  exact e
theorem mul_pos_ne {a b : Int} (ha : 0 < a) (hb : 0 < b) : a * b ≠ 0 := fun z => by
  have := Int.mul_pos ha hb
  omega
def two (n : Nat) (a b : Int × Int) : Prop := Bd n a ∧ Bd n b ∧ 0 < n ∧ n ≤ 4000

end
end K16.Q
set_option Elab.async false
set_option linter.all false
set_option maxRecDepth 100000
set_option maxHeartbeats 4000000
/-! KW: calls by keywords alone: f(k = v, ..), o.m(k = v, ..). -/
namespace KW
open PySem PySem.Spec PyProof.Rows L2
section
variable {X : Cx} {k j : Nat} {C f : Addr} {fd : FuncData} {ps ks : List Str} {sp : Sp} {x m : Str} {p pos apos : Pos} {o : Expr} {kws : List Keyword} {ta : TE} {tk : TA} {g : List Value → List Value → List Value} {gV : List V → List V → List V}
theorem pe_cK (F : FnOk X.prog X.w X.K X.mg X.base CX0 k f fd ps sp) (hr : Room k X.A) (hg : Gl X x) (hm : X.mg x = some (.ref f)) (hk : PySem.W.keepIn X.K (.ref f) = true) (hb : KBn X.K fd ps 0 ks g gV) (hkw : PK X kws tk)
    (hall : (backToKw pos (keywordEach kws X.env)).all (·.1.isSome) = true := by rfl) (hks : (backToKw pos (keywordEach kws X.env)).filterMap (·.1) = ks := by rfl) (hdb : (x == ("__debug__" : Str)) = false := by decide)
    (hpl : ((backTo pos (starEach [] X.env)).any (·.1) || (backToKw pos (keywordEach kws X.env)).any (·.1.isNone)) = false := by rfl) :
    PE X (.Call (.Name x p) [] kws pos) (fun σ H Q => tk σ H fun zs H1 => zs.length = ks.length ∧ sp (gV [] zs) H1 Q E0) := by
  refine ⟨fun pins s σ H Q I h => wpAny_Call_Name_kw (ld_glob I hg hm (PySem.W.callWith_KW0 (h₀ := X.base) I.ok.mod.kin hk hall ?_ hpl) hdb)⟩
  refine thn (hkw.run pos pins s σ H _ I h) fun ws s2 ⟨zs, H2, I2, rz, l2, q2⟩ => ⟨I2.kIn, ?_⟩
  rw [hks]
  exact run_fnN (us := []) (vs := []) F hr hb (fun _ _ _ _ _ _ _ h => False.elim h) I2 .nil rz rfl l2 q2
theorem pe_mtK {pl : Sem Bool} (he : PE X o ta) (c : Cls X.K C) (hm : Meth X.K C m f) (F : FnOk X.prog X.w X.K X.mg X.base CX0 k f fd ps sp) (hr : Room k X.A) (hb : KBn X.K fd ps 1 ks g gV) (hkw : PK X kws tk)
    (hall : (backToKw pos (keywordEach kws X.env)).all (·.1.isSome) = true := by rfl) (hks : (backToKw pos (keywordEach kws X.env)).filterMap (·.1) = ks := by rfl)
    (hpl : ((backTo pos (starEach [] X.env)).any (·.1) || (backToKw pos (keywordEach kws X.env)).any (·.1.isNone)) = false := by rfl)
    (ht : eval (.Call (.Attribute o m apos) [] kws pos) X.env = (do
      let ov ← eval o X.env
      standAt apos.atName
      let (f, first) ← holding [ov] (getMethod ov m pl)
      callWith pos f first (backTo pos (starEach [] X.env)) (backToKw pos (keywordEach kws X.env))) := by rfl) :
    PE X (.Call (.Attribute o m apos) [] kws pos) (fun σ H Q => ta σ H fun x H1 => ∃ a dx fs, x = .ref a ∧ H1 a = some (.ins C dx fs) ∧ fs.lookup m = none ∧ tk σ H1 fun zs H2 => zs.length = ks.length ∧ sp (gV [.ref a] zs) H2 Q E0) := by
  refine ⟨fun pins s σ H Q I h => ?_⟩
  refine PySem.W.methodCall_KW (pl := pl) (thn (he.run pins s σ H _ I h) fun u s1 ⟨x, H1, I1, rx, a, dx, fs, ex, ea, l, q⟩ => ?_) ht
  subst ex
  obtain rfl : u = Value.ref a := rx
  refine getmeth_ok I1 ea c hm l (PySem.W.callWith_KW0 (first := [.ref a]) (h₀ := X.base) I.ok.mod.kin hm.kp hall ?_ hpl)
  refine thn (hkw.run pos pins s1 σ H1 _ I1 q) fun ws s2 ⟨zs, H2, I2, rz, l2, q2⟩ => ⟨I2.kIn, ?_⟩
  rw [hks]
  exact run_fnN (us := [.ref a]) (vs := [.ref a]) F hr hb (fun _ _ _ _ _ _ _ h => False.elim h) I2 (.cons rfl .nil) rz rfl l2 q2
end
end KW
set_option Elab.async false
set_option linter.all false
set_option maxRecDepth 100000
set_option maxHeartbeats 4000000
namespace K16.Q
open PySem PySem.Spec PyProof.Rows L2
open C8 (Cal Mak Met pe_c pe_mk pe_mt pe_mt0)
open KM (pr Sz)
/-- what isinstance asks of the class -/
structure IsC (K : PySem.W.Frag) (C : Addr) : Prop where
  ha : PySem.W.findIn K (.ref C) "__class__" = some (some (.builtin "object.__class__"))
  hn : PySem.W.specialIn K (.builtin "object.__class__") "__get__" = some (some (.builtin "getset_descriptor.__get__"))
  htk : PySem.W.takesIn K (.builtin "object.__class__") = some true
  hm : PySem.W.mroIn K C (.type "object") = some true
  kit : PySem.W.kitOne K (.ref C) (.ref C) = some true
theorem bd_of {n : Nat} {r : Rat} (h : Sz n r) : Bd n (pr r) := ⟨h.1, KM.den_pos r, by simpa [pr] using h.2⟩

theorem same_new {H : Hp} {p : Addr} {o : HO} (h : H p = none) : Same H (upd H p o) := fun a u e => by
  rw [upd_ne (ne_of_none e h)]
  exact e
section
variable {P : Program} {w : World} {K : PySem.W.Frag} {mg : Str → Option Value} {base : Heap} {f C : Addr} {fd : FuncData}
abbrev MakS1 (P : Program) (w : World) (K : PySem.W.Frag) (mg : Str → Option Value) (base : Heap) (C : Addr) : Prop := Mak P w K mg base 2 "Share" C (spInit C) [.int 1]
theorem mk_in {C x dx : Addr} {H1 : Hp} {t b : Int} {n : Nat} {Qv : VK} {E : XK} (nx : H1 x = none) (nd : H1 dx = none) (hb : b ≠ 0) (hn : b.natAbs < 2 ^ n) (hn0 : 0 < n) (hn9 : n ≤ 9000)
    (hQ : ∀ H', Same H1 H' → Sh C H' x (pr (Rat.divInt t b)) → Qv .non H') : spInit C [.ref x, .int t, .int b] (upd (upd H1 dx (.own x)) x (.ins C dx [])) Qv E := by
  refine ⟨x, dx, t, b, n, rfl, hb, hn, hn0, hn9, upd_same, fun H' kp hp => hQ H' (fun a o e => ?_) ⟨dx, KM.low_eq hb ▸ hp⟩⟩
  refine kp a o (ne_of_none e nx) ?_
  rw [upd_ne (ne_of_none e nx), upd_ne (ne_of_none e nd)]
  exact e
end
end K16.Q
set_option Elab.async false
set_option linter.all false
set_option maxRecDepth 100000
set_option maxHeartbeats 4000000
namespace K16.Q
open PySem PySem.Spec PyProof.Rows L2
open C8 (Cal Mak Met pe_c pe_mk pe_mt pe_mt0)
open KM (pr Sz)
section
variable {P : Program} {w : World} {K : PySem.W.Frag} {mg : Str → Option Value} {base : Heap} {f C : Addr} {fd : FuncData}
def sp_below (C : Addr) : Sp := fun vs H Q _ => ∃ (p q : Addr) (a b : Int × Int) (n : Nat), vs = [.ref p, .ref q] ∧ Sh C H p a ∧ Sh C H q b ∧ two n a b ∧ Q (.bl (decide (a.1 * b.2 < b.1 * a.2))) H
theorem ok_below (F : Dn K d_Share_below f fd) (T : Cl K mg C) : FnOk P w K mg base CX0 1 f fd ["self", "other"] (sp_below C) := by
  refine F.ok sc_Share_below (fun vs H Q E h => ?_) (fun cdv A outer s H vs Q E hr h => ?_)
  · obtain ⟨p, q, a, b, n, rfl, _⟩ := h
    rfl
  · obtain ⟨p, q, a, b, n, rfl, ⟨dp, hp⟩, ⟨dq, hq⟩, ⟨ba, bb, hn0, hn9⟩, hQ⟩ := h
    refine ⟨_, PSs.nox (pss_one (ps_ret (pe_cmpR op_lt (pe_op op_mulW (pe_fld (pv 0) rfl) (pe_fld (pv 1) rfl)) (pe_op op_mulW (pe_fld (pv 1) rfl) (pe_fld (pv 0) rfl)) (nomark _)))), ?_⟩
    refine ⟨_, rfl, p, C, dp, _, _, rfl, hp, T.cl, T.nt, shF_top a, _, rfl, q, C, dq, _, _, rfl, hq, T.cl, T.nb, shF_bot b, _, _, rfl, rfl, wide_mul ba.1 bb.2.2 hn0 hn0 (by omega), ?_⟩
    exact ⟨_, rfl, q, C, dq, _, _, rfl, hq, T.cl, T.nt, shF_top b, _, rfl, p, C, dp, _, _, rfl, hp, T.cl, T.nb, shF_bot a, _, _, rfl, rfl, wide_mul bb.1 ba.2.2 hn0 hn0 (by omega), _, _, rfl, rfl, hQ⟩
def spLt (C : Addr) : Sp := fun vs H Q _ => ∃ (p q : Addr) (r s : Rat) (n : Nat), vs = [.ref p, .ref q] ∧ Sh C H p (pr r) ∧ Sh C H q (pr s) ∧ Sz n r ∧ Sz n s ∧ 0 < n ∧ n ≤ 4000 ∧ Q (.bl (decide (r < s))) H
theorem belowR {vs : List V} {H : Hp} {Q : VK} {E : XK} (h : spLt C vs H Q E) : sp_below C vs H Q E := by
  obtain ⟨p, q, r, s, n, e, hp, hq, sr, ss, n0, n9, k⟩ := h
  refine ⟨p, q, _, _, n, e, hp, hq, ⟨bd_of sr, bd_of ss, n0, n9⟩, ?_⟩
  have : decide ((pr r).1 * (pr s).2 < (pr s).1 * (pr r).2) = decide (r < s) := decide_eq_decide.mpr (KM.pr_lt r s)
  rw [this]
  exact k
end
end K16.Q
set_option Elab.async false
set_option linter.all false
set_option maxRecDepth 100000
set_option maxHeartbeats 4000000
namespace K16.Q
open PySem PySem.Spec PyProof.Rows L2
open C8 (Cal Mak Met pe_c pe_mk pe_mt pe_mt0)
open KM (pr Sz)
section
variable {P : Program} {w : World} {K : PySem.W.Frag} {mg : Str → Option Value} {base : Heap} {f C : Addr} {fd : FuncData}
/-- a dict from names to Shares: who isn't in it has nought -/
def ShD (C : Addr) (H : Hp) (d : Addr) (kvs : List (Key × V)) (ρ : Str → Rat) : Prop := H d = some (.dK kvs) ∧ (∀ x v, valV kvs (Sum.inr x) = some v → ∃ p, v = .ref p ∧ Sh C H p (pr (ρ x))) ∧ ∀ x, valV kvs (Sum.inr x) = none → ρ x = 0
theorem ShD.keep {H H' : Hp} {d : Addr} {kvs : List (Key × V)} {ρ : Str → Rat} (s : Same H H') (h : ShD C H d kvs ρ) : ShD C H' d kvs ρ :=
  ⟨s _ _ h.1, fun x v e => let ⟨p, e1, e2⟩ := h.2.1 x v e; ⟨p, e1, e2.keep s⟩, h.2.2⟩
/-- what get tells -/
theorem ShD.get {H : Hp} {d n0 : Addr} {kvs : List (Key × V)} {ρ : Str → Rat} (h : ShD C H d kvs ρ) (h0 : Sh C H n0 (pr 0)) (x : Str) : ∃ p, ((valV kvs (Sum.inr x)).getD (.ref n0)) = .ref p ∧ Sh C H p (pr (ρ x)) := by
  cases e : valV kvs (Sum.inr x) with
  | none =>
    rw [h.2.2 x e]
    exact ⟨n0, rfl, h0⟩
  | some v =>
    obtain ⟨p, rfl, hp⟩ := h.2.1 x v e
    exact ⟨p, rfl, hp⟩
def spInOrder (K : PySem.W.Frag) (C : Addr) : Sp := fun vs H Q _ => ∃ (l d : Addr) (xs : List Str) (kvs : List (Key × V)) (ρ : Str → Rat) (n : Nat), vs = [.ref l, .ref d] ∧ SqL K H l (xs.map V.str) ∧ xs.length < 64 ∧ ShD C H d kvs ρ ∧ (∀ x, Sz n (ρ x)) ∧ 0 < n ∧ n ≤ 4000 ∧
  ∀ (o : Addr) (zs : List Str) (H' : Hp), Same H H' → H o = none → H' o = some (.lst (zs.map V.str)) → zs.Perm xs → zs.Pairwise (IO.le ρ) → Q (.ref o) H'
theorem ok_in_order (F : Dn K d_in_order f fd) (bl : Bl mg) (bs : mg "sorted" = none) (M1 : MakS1 P w K mg base C) (mb : Met P w K mg base 1 C "below" (spLt C) []) : FnOk P w K mg base CX0 4 f fd ["names", "shares"] (spInOrder K C) := by
  refine F.ok sc_in_order (fun vs H Q E h => ?_) (fun cdv A outer s H vs Q E hr h => ?_)
  · obtain ⟨l, d, xs, kvs, ρ, n, rfl, _⟩ := h
    rfl
  · obtain ⟨l, d, xs, kvs, ρ, n, rfl, hl, hlen, hd, hS, n0, n9, hQ⟩ := h
    have hu := hu_of hr
    refine ⟨_, PSs.nox (pss_cons (ps_set (i := 2) sc_in_order.nd rfl (.inl rfl) (pe_mk M1 hr (by decide) rfl (pa_cons pe_int pa_nil)))
      (pss_cons (ps_set (i := 3) sc_in_order.nd rfl (.inl rfl) (pe_lst pa_nil))
      (pss_cons (ps_for PassesOwn.never rfl (pi_list (pe_callB cr_sortedS rfl bs boot_sorted (pa_cons (pv 0) pa_nil))) (pg_name (i := 4) sc_in_order.nd rfl (.inl rfl))
        (pss_cons (ps_set (i := 5) sc_in_order.nd rfl (.inl rfl) (pe_dget2 hu (pv 1) (pv 4) (pv 2) ⟨rfl, rfl, rfl, rfl⟩))
        (pss_cons (ps_set (i := 6) sc_in_order.nd rfl (.inl rfl) (pe_callB call_len_seq rfl bl.len boot_len (pa_cons (pv 3) pa_nil)))
        (pss_cons (ps_while PassesOwn.never (PW.pt (pw_and (pt_cmpR op_gt (pv 6) pe_int (nomark _)) (pw_and1 (pt_val (pe_mt mb hr (by decide) (pv 5) (pa_cons (pe_dget2 hu (pv 1) (pe_ix ix_list (pv 3) (pe_op op_sub (pv 6) pe_int) (fun _ _ => rfl)) (pv 2) ⟨rfl, rfl, rfl, rfl⟩) pa_nil))))))
          (pss_one (ps_aug (i := 6) sc_in_order.nd rfl (.inl rfl) pe_int ip_sub)))
        (pss_one (ps_expr (pe_bm PySem.F.plainAttrs_list PySem.F.slot_list_insert PySem.F.type_list_insert mt_insert (pv 3) (pa_cons (pv 6) (pa_cons (pv 4) pa_nil)))))))))
      (pss_one (ps_ret (pv 3)))))), ?_⟩
    intro p pd np nd ne
    refine mk_in (n := 1) np nd (by decide) (by decide) (by decide) (by decide) fun H1 s1 hp => ⟨rfl, ?_⟩
    have z0 : Rat.divInt 0 1 = 0 := by rfl
    rw [z0] at hp
    refine ⟨by show 0 ≤ sizeLine; decide, fun o ho => ?_⟩
    have so := same_new (o := .lst []) ho
    refine ⟨_, rfl, l, xs, rfl, (s1.trans so).seq hl, hlen, fun ys q hperm hsort hq => ?_⟩
    have sq := same_new (o := .lst (ys.map V.str)) hq
    have noq : o ≠ q := ne_of_none upd_same hq
    have hpw := IO.sorted_pw hsort
    have s3 : Same H1 (upd (upd H1 o (.lst [])) q (.lst (ys.map V.str))) := so.trans sq
    have ho3 : (upd (upd H1 o (.lst [])) q (.lst (ys.map V.str))) o = some (.lst []) := by rw [upd_ne noq]; exact upd_same
    have hq3 : (upd (upd H1 o (.lst [])) q (.lst (ys.map V.str))) q = some (.lst (ys.map V.str)) := upd_same
    generalize upd (upd H1 o (.lst [])) q (.lst (ys.map V.str)) = H3 at s3 ho3 hq3 ⊢
    have ylen : ys.length < 64 := by rw [hperm.length_eq]; exact hlen
    refine ⟨q, rfl, ⟨_, SqL.of hq3⟩, for_list (K := K) (xs := ys.map V.str) (fun i σ H2 => Same H1 H2 ∧ H2 q = some (.lst (ys.map V.str)) ∧ ∃ (zs : List Str) (v4 v5 v6 : Option V), σ = [some (.ref l), some (.ref d), some (.ref p), some (.ref o), v4, v5, v6] ∧ H2 o = some (.lst (zs.map V.str)) ∧ zs.Perm (ys.take i) ∧ zs.Pairwise (IO.le ρ))
      ⟨s3, hq3, [], none, none, none, rfl, ho3, List.Perm.refl _, List.Pairwise.nil⟩ (fun i σ H2 _ z => SqL.of z.2.1) ?_ ?_⟩
    · rintro i y σ H2 hi ⟨s2, hq2, zs, v4, v5, v6, rfl, ho2, zperm, zpw⟩
      rw [List.getElem?_map] at hi
      cases hx : ys[i]? with
      | none =>
        rw [hx] at hi
        cases hi
      | some x =>
        rw [hx] at hi
        cases (Option.some.inj hi : V.str x = y)
        have hd2 := hd.keep (s1.trans s2)
        have hp2 := hp.keep s2
        obtain ⟨px, ex, hpx⟩ := hd2.get hp2 x
        refine ⟨_, rfl, d, rfl, .inl ⟨kvs, .inl hd2.1⟩, _, rfl, _, rfl, _, DGet.k (k := Sum.inr x) hd2.1, ?_⟩
        rw [ex]
        refine ⟨_, rfl, o, _, rfl, Or.inl (SqL.of ho2), ?_⟩
        have hzl : zs.length ≤ i := by rw [zperm.length_eq, List.length_take]; exact Nat.min_le_left _ _
        have hil : i < ys.length := (List.getElem?_eq_some_iff.mp hx).1
        rw [List.length_map]
        refine ⟨fun m σ' H' => H' = H2 ∧ m ≤ zs.length ∧ σ' = [some (.ref l), some (.ref d), some (.ref p), some (.ref o), some (.str x), some (.ref px), some (.int (m : Int))] ∧ ∀ z ∈ zs.drop m, ρ x < ρ z, ⟨zs.length, rfl, Nat.le_refl _, rfl, by simp⟩, ?_⟩
        rintro m σ' H' ⟨rfl, hm, rfl, hgt⟩
        refine ⟨_, rfl, _, _, rfl, rfl, _, rfl, ?_⟩
        have leave : (∀ z ∈ zs.take m, ρ z ≤ ρ x) → tDrop (tBM K "list" (fun x vs H Q => ∃ (l : Addr) (xs : List V) (i : Int) (y : V), x = .ref l ∧ vs = [.int i, y] ∧ H l = some (.lst xs) ∧ xs.length < sizeLine ∧ 0 ≤ i ∧ i < 2 ^ 63 ∧ Q .non (upd H l (.lst (xs.take i.toNat ++ [y] ++ xs.drop i.toNat))))
            (tVar 3) (tCons (tVar 6) (tCons (tVar 4) tNil))) { nx := fun σ' H' => Same H1 H' ∧ H' q = some (.lst (ys.map V.str)) ∧ ∃ (zs : List Str) (v4 v5 v6 : Option V), σ' = [some (.ref l), some (.ref d), some (.ref p), some (.ref o), v4, v5, v6] ∧ H' o = some (.lst (zs.map V.str)) ∧ zs.Perm (ys.take (i + 1)) ∧ zs.Pairwise (IO.le ρ), rt := Q }
            [some (.ref l), some (.ref d), some (.ref p), some (.ref o), some (.str x), some (.ref px), some (.int (m : Int))] H' := by
          intro hlo
          refine ⟨_, rfl, Or.inl ⟨rfl, _, SqL.of ho2⟩, _, rfl, _, rfl, o, _, _, _, rfl, rfl, ho2, ?_, Int.natCast_nonneg m, ?_, ?_⟩
          · rw [List.length_map]
            exact Nat.lt_of_lt_of_le (by omega : zs.length < 64) (by decide)
          · omega
          · refine ⟨fun a u e => ?_, ?_, zs.take m ++ [x] ++ zs.drop m, _, _, _, rfl, ?_, ?_, ?_⟩
            · rw [upd_ne (fun z => by rw [z, ho] at e; cases e)]
              exact s2 a u e
            · rw [upd_ne (Ne.symm noq)]
              exact hq2
            · rw [upd_same, Int.toNat_natCast]
              simp [List.map_append, List.map_take, List.map_drop]
            · refine (IO.put_perm m).trans ?_
              rw [List.take_add_one, hx]
              exact (List.Perm.cons x zperm).trans (List.perm_append_singleton x _).symm
            · refine IO.put_in zpw (fun z hz => ?_) hm hgt hlo
              have hz' : z ∈ ys.take i := zperm.subset hz
              have hsplit : ys = ys.take i ++ x :: ys.drop (i + 1) := by
                have h1 := List.take_append_drop i ys
                rw [List.drop_eq_getElem_cons hil] at h1
                have h2 : ys[i] = x := (List.getElem?_eq_some_iff.mp hx).2
                rw [h2] at h1
                exact h1.symm
              rw [hsplit] at hpw
              exact (List.pairwise_append.mp hpw).2.2 z hz' x (List.mem_cons_self ..)
        cases m with
        | zero =>
          refine ite2 (fun hh => absurd (of_decide_eq_true hh) (by decide)) (fun _ => iteF ?_)
          exact leave (by simp)
        | succ m =>
          have hmm : m < zs.length := hm
          refine ite2 (fun _ => ?_) (fun hh => (hh (decide_eq_true (by omega))).elim)
          have hat : atI (zs.map V.str) (((m + 1 : Nat) : Int) - 1) = some (.str zs[m]) := by
            have e : ((m + 1 : Nat) : Int) - 1 = (m : Int) := by omega
            rw [e]
            exact atI_nat (by rw [List.getElem?_map, List.getElem?_eq_getElem hmm]; rfl)
          obtain ⟨pz, ez, hpz⟩ := hd2.get hp2 zs[m]
          obtain ⟨dx, hpx1⟩ := id hpx
          refine ⟨_, rfl, px, dx, _, rfl, hpx1, shF_no _ (by decide +kernel) (by decide +kernel), _, rfl, d, rfl, .inl ⟨kvs, .inl hd2.1⟩, _, rfl, _, rfl, _, _, rfl, rfl, o, _, _, _, rfl, rfl, SqL.of ho2, hat, _, rfl, _, DGet.k (k := Sum.inr zs[m]) hd2.1, ?_⟩
          rw [ez]
          refine ⟨px, pz, ρ x, ρ zs[m], n, rfl, hpx, hpz, hS x, hS _, n0, n9, _, rfl, ?_⟩
          refine ite2 (fun g => ?_) (fun g => ?_)
          · have g' : ρ x < ρ zs[m] := of_decide_eq_true g
            refine ⟨fun σ' H'' => H'' = H' ∧ σ' = [some (.ref l), some (.ref d), some (.ref p), some (.ref o), some (.str x), some (.ref px), some (.int (m : Int))], ?_, ?_⟩
            · rintro σ' H'' ⟨rfl, rfl⟩
              refine ⟨m, Nat.lt_succ_self m, rfl, Nat.le_of_lt hmm, rfl, fun z hz => ?_⟩
              rw [List.drop_eq_getElem_cons hmm] at hz
              rcases List.mem_cons.mp hz with e | hz
              · rw [e]; exact g'
              · exact hgt z hz
            · refine ⟨_, rfl, _, _, rfl, rfl, rfl, ?_⟩
              show [_, _, _, _, _, _, some (V.int (((m + 1 : Nat) : Int) - 1))] = _
              rw [show ((m + 1 : Nat) : Int) - 1 = (m : Int) by omega]
          · have g' : ¬ ρ x < ρ zs[m] := fun z => g (decide_eq_true z)
            refine leave fun z hz => ?_
            obtain ⟨j, hj, ej⟩ := List.mem_iff_getElem.mp hz
            rw [List.length_take] at hj
            have hjm : j ≤ m := by omega
            have hjz : j < zs.length := by omega
            rw [List.getElem_take] at ej
            have hlast : ρ zs[m] ≤ ρ x := Rat.not_lt.mp g'
            rcases Nat.lt_or_ge j m with hlt | hge
            · have := List.pairwise_iff_getElem.mp zpw j m hjz hmm hlt
              rw [ej] at this
              exact Rat.le_trans (IO.le_rat this) hlast
            · have : j = m := by omega
              subst this
              rw [ej] at hlast
              exact hlast
    · rintro σ H2 ⟨s2, hq2, zs, v4, v5, v6, rfl, ho2, zperm, zpw⟩
      rw [List.length_map, List.take_length] at zperm
      exact ⟨_, rfl, hQ o zs H2 (s1.trans s2) (s1.free ho) ho2 (zperm.trans hperm) zpw⟩
end
end K16.Q
set_option Elab.async false
set_option linter.all false
set_option maxRecDepth 100000
set_option maxHeartbeats 4000000
/-! QT: a def that may raise, called where it doesn't. -/
namespace QT
open PySem PySem.Spec PyProof.Rows L2
theorem quiet {P : Program} {w : World} {K : PySem.W.Frag} {mg : Str → Option Value} {base : Heap} {k : Nat} {f : Addr} {fd : FuncData} {ps : List Str} {sp : Sp} (F : FnOk P w K mg base (L2.CX P w) k f fd ps sp) : FnOk P w K mg base CX0 k f fd ps (fun vs H Q _ => sp vs H Q E0) := by
  refine ⟨fun vs H Q E q => F.len vs H Q E0 q, fun A outer s H args us vs Q E hr he hb hv hs => codeAny_mono (F.run A outer s H args us vs Q E0 hr he hb hv hs) fun r s' h => ?_⟩
  unfold CR at h ⊢
  match r, h with
  | .ok (.ret v), h => exact h
  | .error e, h =>
    obtain ⟨_, _, _, _, _, _, _, _, _, _, _, _, hE⟩ := h
    exact hE.elim
end QT
set_option Elab.async false
set_option linter.all false
set_option maxRecDepth 100000
set_option maxHeartbeats 4000000
namespace K16
open PySem PySem.Spec PyProof.Rows L2
open C8 (Cal Mak Met pe_c pe_mk pe_mt pe_mt0)
open KW1 (dscI)
open KM (pr Sz)
section
variable {P : Program} {w : World} {K : PySem.W.Frag} {mg : Str → Option Value} {base : Heap} {f N fN C : Addr} {fd fdN : FuncData}
def spBs : Sp := fun vs H Q _ => ∃ (a : Addr) (l : List Int) (k : Nat), vs = [.ref a, .int (k : Nat)] ∧ H a = some (.lst (l.map V.int)) ∧ ∀ H', Same H H' → Q (.int (best k l)) H'
theorem ok_bs (Fd : Dn K d_best_sum f fd) (b2 : B2 mg) : FnOk P w K mg base CX0 1 f fd ["numbers", "many"] spBs := by
  refine Fd.ok sc_best_sum (fun vs H Q E h => ?_) (fun cdv A outer s H vs Q E hr h => ?_)
  · obtain ⟨_, _, _, rfl, _⟩ := h
    rfl
  · obtain ⟨a, l, k, rfl, ha, hQ⟩ := h
    have hu64 : (A.deeper (envOfC d_best_sum.qual d_best_sum.scope s.heap.objs.size f cdv)).units + 64 < cLine := by have := hr.un; omega
    refine ⟨_, PSs.nox (pss_one (ps_ret (pe_callB (cr_sum rfl) rfl b2.sum boot_sum (pa_cons (pe_slice sl_list (KW1.pe_kw1 (KW1.ck_sortRev hu64) rfl b2.srt boot_sorted (pa_cons (pv 0) pa_nil) pe_bl) po_none (po_some (pv 1))) pa_nil)))), ?_⟩
    refine ⟨_, rfl, _, rfl, a, _, rfl, rfl, SqL.of ha, fun q fq => ?_⟩
    have sq := same_new (o := .lst ((dscI l).map V.int)) fq
    refine ⟨_, rfl, _, rfl, q, _, rfl, SqL.of upd_same, fun p fp => ?_⟩
    rw [cut_take V.int (Int.natCast_nonneg k), Int.toNat_natCast]
    refine ⟨p, _, rfl, SqL.of upd_same, ?_⟩
    exact hQ _ (sq.trans (same_new fp))
end
end K16
set_option Elab.async false
set_option linter.all false
set_option maxRecDepth 100000
set_option maxHeartbeats 4000000
namespace K16
open PySem PySem.Spec PyProof.Rows L2
open C8 (Cal Mak Met pe_c pe_mk pe_mt pe_mt0)
open KM (pr Sz)
/-- what is told of a worth: top and bottom -/
structure Wq (q : Str → Int × Int) : Prop where
  t : ∀ x, -4 ≤ (q x).1 ∧ (q x).1 ≤ 4
  b : ∀ x, 1 ≤ (q x).2 ∧ (q x).2 ≤ 60
def rq (q : Str → Int × Int) (x : Str) : Rat := Rat.divInt (q x).1 (q x).2
def WD (H : Hp) (d : Addr) (kvs : List (Key × V)) (q : Str → Int × Int) : Prop := H d = some (.dK kvs) ∧ (∀ x v, valV kvs (Sum.inr x) = some v → ∃ p, v = .ref p ∧ H p = some (.tup [.int (q x).1, .int (q x).2])) ∧ ∀ x, valV kvs (Sum.inr x) = none → q x = (0, 1)
theorem WD.same {H H' : Hp} {d : Addr} {kvs : List (Key × V)} {q : Str → Int × Int} (h : WD H d kvs q) (s : Same H H') : WD H' d kvs q := ⟨s _ _ h.1, fun x v e => let ⟨p, a, b⟩ := h.2.1 x v e; ⟨p, a, s _ _ b⟩, h.2.2⟩
theorem low_up {t b : Int} (hb : 0 < b) : ∃ g : Int, 0 < g ∧ t = g * (pr (Rat.divInt t b)).1 ∧ b = g * (pr (Rat.divInt t b)).2 := by
  have ne : b ≠ 0 := by omega
  have p1 := KM.low_pos (t := t) ne
  have a1 := KM.low_top (t := t) (b := b)
  have a2 := KM.low_bot (t := t) (b := b)
  rw [← KM.low_eq (t := t) ne]
  refine ⟨KM.sg t b, ?_, a1.symm, a2.symm⟩
  generalize KM.sg t b = z at a2
  rcases Int.lt_or_le 0 z with q | q
  · exact q
  · have := Int.mul_nonneg (Int.neg_nonneg_of_nonpos q) (Int.le_of_lt p1)
    rw [Int.neg_mul] at this
    omega
theorem cross {t b u c : Int} (hb : 0 < b) (hc : 0 < c) : (t * c < u * b) ↔ Rat.divInt t b < Rat.divInt u c := by
  rw [← KM.pr_lt]
  obtain ⟨g, g0, e1, e2⟩ := low_up (t := t) hb
  obtain ⟨k, k0, e3, e4⟩ := low_up (t := u) hc
  generalize pr (Rat.divInt t b) = r at *
  generalize pr (Rat.divInt u c) = s at *
  have gk : 0 < g * k := Int.mul_pos g0 k0
  have l : t * c = g * k * (r.1 * s.2) := by rw [e1, e4]; grind
  have m : u * b = g * k * (s.1 * r.2) := by rw [e3, e2]; grind
  rw [l, m]
  exact ⟨fun h => Int.lt_of_mul_lt_mul_left h (Int.le_of_lt gk), fun h => Int.mul_lt_mul_of_pos_left h gk⟩
theorem cross_d {q : Str → Int × Int} (w : Wq q) (x z : Str) : decide ((q x).1 * (q z).2 < (q z).1 * (q x).2) = decide (rq q x < rq q z) := by
  have h1 := (w.b x).1
  have h2 := (w.b z).1
  exact decide_eq_decide.mpr (cross (by omega) (by omega))
abbrev tq (q : Str → Int × Int) (z : Str) : HO := .tup [.str z, .int (q z).1, .int (q z).2]
section
variable {P : Program} {w : World} {K : PySem.W.Frag} {mg : Str → Option Value} {base : Heap} {f : Addr} {fd : FuncData}
def spOr : Sp := fun vs H Q _ => ∃ (l d : Addr) (xs : List Str) (kvs : List (Key × V)) (q : Str → Int × Int), vs = [.ref l, .ref d] ∧ H l = some (.lst (xs.map V.str)) ∧ xs.length ≤ 12 ∧ WD H d kvs q ∧ Wq q ∧
  ∀ (o : Addr) (zs : List Str) (H' : Hp), Same H H' → H o = none → H' o = some (.lst (zs.map V.str)) → zs.Perm xs → zs.Pairwise (IO.le (rq q)) → Q (.ref o) H'
theorem ok_or (F : Dn K d_l_order f fd) (b : Bl mg) (bs : mg "sorted" = none) : FnOk P w K mg base CX0 1 f fd ["_law_folk", "_law_worths_here"] spOr := by
  refine F.ok sc_l_order (fun vs H Q E h => ?_) (fun cdv A outer s H vs Q E hr h => ?_)
  · obtain ⟨_, _, _, _, _, rfl, _⟩ := h
    rfl
  · obtain ⟨l, d, xs, kvs, q, rfl, hl, hlen, hd, wq, hQ⟩ := h
    have hu := hu_of hr
    refine ⟨_, PSs.nox (pss_cons (ps_set (i := 2) sc_l_order.nd rfl (.inl rfl) (pe_lst pa_nil))
      (pss_cons (ps_for PassesOwn.never rfl (pi_list (pe_callB cr_sortedS rfl bs boot_sorted (pa_cons (pv 0) pa_nil))) (pg_name (i := 3) sc_l_order.nd rfl (.inl rfl))
        (pss_cons (ps_asg (pe_dget2 hu (pv 1) (pv 3) (pe_tup (pa_cons pe_int (pa_cons pe_int pa_nil))) ⟨rfl, rfl, rfl, rfl⟩) (pg_tup rfl (pgs_cons (pg_name (i := 4) sc_l_order.nd rfl (.inl rfl)) (pgs_cons (pg_name (i := 5) sc_l_order.nd rfl (.inl rfl)) pgs_nil))))
        (pss_cons (ps_set (i := 6) sc_l_order.nd rfl (.inl rfl) (pe_callB call_len_seq rfl b.len boot_len (pa_cons (pv 2) pa_nil)))
        (C8.pss_cut (ps_while PassesOwn.never (PW.pt (pw_and (pt_cmpR op_gt (pv 6) pe_int (nomark _)) (pw_and1 (pt_cmpR op_lt
              (pe_op op_mul (pv 4) (pe_ix (r := rIxT K) ix_tup (pe_ix (r := rIxL K) ix_list (pv 2) (pe_op op_sub (pv 6) pe_int) (fun _ _ => rfl)) pe_int (fun _ _ => rfl)))
              (pe_op op_mul (pe_ix (r := rIxT K) ix_tup (pe_ix (r := rIxL K) ix_list (pv 2) (pe_op op_sub (pv 6) pe_int) (fun _ _ => rfl)) pe_int (fun _ _ => rfl)) (pv 5)) (nomark _)))))
          (pss_one (ps_set (i := 6) sc_l_order.nd rfl (.inl rfl) (pe_op op_sub (pv 6) pe_int))))
        (pss_one (ps_expr (pe_bm PySem.F.plainAttrs_list PySem.F.slot_list_insert PySem.F.type_list_insert mt_insert (pv 2) (pa_cons (pv 6) (pa_cons (pe_tup (pa_cons (pv 3) (pa_cons (pv 4) (pa_cons (pv 5) pa_nil)))) pa_nil)))))))))
      (pss_one (ps_ret (pe_lc (own := [("_law_one", 7)]) (g := gName 7) (tt := tYes) rfl sc_l_order.nd (pi_list (pv 2)) (blkOk_by (N := N_l_order) (sc := defScope s_l_order) (by decide +kernel))
        (fun _ _ _ _ _ => pg_name (i := 7) sc_l_order.nd rfl (Or.inl rfl)) (fun _ _ _ _ _ => pts_nil) (fun _ _ _ _ _ => pe_ix (r := rIxT K) ix_tup (pv 7) pe_int (fun _ _ => rfl))))))), ?_⟩
    refine ⟨by show 0 ≤ sizeLine; decide, fun o ho => ?_⟩
    have so := same_new (o := .lst []) ho
    refine ⟨_, rfl, l, xs, rfl, so.seq (SqL.of hl), by omega, fun ys p hperm hsort hp => ?_⟩
    have sp := same_new (o := .lst (ys.map V.str)) hp
    have nop : o ≠ p := ne_of_none upd_same hp
    have hpw := IO.sorted_pw hsort
    have s3 := so.trans sp
    have ho3 : (upd (upd H o (.lst [])) p (.lst (ys.map V.str))) o = some (.lst []) := by rw [upd_ne nop]; exact upd_same
    have hp3 : (upd (upd H o (.lst [])) p (.lst (ys.map V.str))) p = some (.lst (ys.map V.str)) := upd_same
    generalize upd (upd H o (.lst [])) p (.lst (ys.map V.str)) = H3 at s3 ho3 hp3 ⊢
    have ylen : ys.length ≤ 12 := by rw [hperm.length_eq]; exact hlen
    refine ⟨p, rfl, ⟨_, SqL.of hp3⟩, for_list (K := K) (xs := ys.map V.str) (fun i σ H2 => Same H H2 ∧ H2 p = some (.lst (ys.map V.str)) ∧ ∃ (rs : List (Addr × Str)) (v3 v4 v5 v6 : Option V), σ = [some (.ref l), some (.ref d), some (.ref o), v3, v4, v5, v6, none] ∧ H2 o = some (.lst (rs.map fun r => V.ref r.1)) ∧ (∀ r ∈ rs, H2 r.1 = some (tq q r.2)) ∧ (rs.map (·.2)).Perm (ys.take i) ∧ (rs.map (·.2)).Pairwise (IO.le (rq q)))
      ⟨s3, hp3, [], _, _, _, _, rfl, ho3, fun r hr => (nomatch hr), List.Perm.refl _, List.Pairwise.nil⟩ (fun i σ H2 _ z => SqL.of z.2.1) ?_ ?_⟩
    · rintro i y σ H2 hi ⟨s2, hp2, rs, v3, v4, v5, v6, rfl, ho2, hrs, zperm, zpw⟩
      rw [List.getElem?_map] at hi
      obtain ⟨x, hx, rfl⟩ := Option.map_eq_some_iff.mp hi
      have il := (List.getElem?_eq_some_iff.mp hx).1
      have hd2 := hd.same s2
      refine ⟨_, rfl, d, rfl, .inl ⟨kvs, .inl hd2.1⟩, _, rfl, by show 2 ≤ sizeLine; decide, fun t2 ft2 => ?_⟩
      have st := same_new (o := .tup [.int 0, .int 1]) ft2
      have ht2 : (upd H2 t2 (.tup [.int 0, .int 1])) t2 = some (.tup [.int 0, .int 1]) := upd_same
      have hd3 := hd2.same st
      have ho4 := st _ _ ho2
      have hp4 := st _ _ hp2
      have s4 := s2.trans st
      have hrs4 : ∀ r ∈ rs, (upd H2 t2 (.tup [.int 0, .int 1])) r.1 = some (tq q r.2) := fun r hr => st _ _ (hrs r hr)
      generalize upd H2 t2 (.tup [.int 0, .int 1]) = H4 at st ht2 hd3 ho4 hp4 s4 hrs4
      obtain ⟨px, ex, hpx⟩ : ∃ px, (valV kvs (Sum.inr x)).getD (.ref t2) = .ref px ∧ H4 px = some (.tup [.int (q x).1, .int (q x).2]) := by
        cases e : valV kvs (Sum.inr x) with
        | none => exact ⟨t2, rfl, by rw [hd3.2.2 x e]; exact ht2⟩
        | some v =>
          obtain ⟨u, rfl, hu2⟩ := hd3.2.1 x v e
          exact ⟨u, rfl, hu2⟩
      refine ⟨_, DGet.k (k := Sum.inr x) hd3.1, ?_⟩
      rw [ex]
      refine ⟨px, _, rfl, SqT.of hpx, rfl, _, _, rfl, _, _, rfl, rfl, ?_⟩
      refine ⟨_, rfl, o, _, rfl, Or.inl (SqL.of ho4), ?_⟩
      have rl : rs.length ≤ i := by
        have := zperm.length_eq
        rw [List.length_map, List.length_take] at this
        omega
      rw [List.length_map]
      refine ⟨fun σ' H' => H' = H4 ∧ ∃ m : Nat, m ≤ rs.length ∧ σ' = [some (.ref l), some (.ref d), some (.ref o), some (.str x), some (.int (q x).1), some (.int (q x).2), some (.int (m : Int)), none] ∧ (∀ z ∈ (rs.map (·.2)).drop m, rq q x < rq q z) ∧ ∀ z ∈ (rs.map (·.2)).take m, rq q z ≤ rq q x, ?_, ?_⟩
      refine ⟨fun m σ' H' => H' = H4 ∧ m ≤ rs.length ∧ σ' = [some (.ref l), some (.ref d), some (.ref o), some (.str x), some (.int (q x).1), some (.int (q x).2), some (.int (m : Int)), none] ∧ ∀ z ∈ (rs.map (·.2)).drop m, rq q x < rq q z, ⟨rs.length, rfl, Nat.le_refl _, rfl, fun z hz => by rw [List.drop_of_length_le (by rw [List.length_map]; exact Nat.le_refl _)] at hz; exact nomatch hz⟩, ?_⟩
      rintro m σ' H' ⟨rfl, hm, rfl, hgt⟩
      refine ⟨_, rfl, _, _, rfl, rfl, _, rfl, ?_⟩
      cases m with
      | zero =>
        refine ite2 (fun hh => absurd (of_decide_eq_true hh) (by decide)) (fun _ => iteF ?_)
        exact ⟨rfl, 0, Nat.zero_le _, rfl, hgt, fun z hz => by rw [List.take_zero] at hz; exact nomatch hz⟩
      | succ m =>
        have hmm : m < rs.length := hm
        refine ite2 (fun _ => ?_) (fun hh => (hh (decide_eq_true (by omega))).elim)
        have em : ((m + 1 : Nat) : Int) - 1 = (m : Int) := by omega
        have hat : atI (rs.map fun r => V.ref r.1) (((m + 1 : Nat) : Int) - 1) = some (.ref (rs[m]).1) := by
          rw [em]
          exact atI_nat (by rw [List.getElem?_map, List.getElem?_eq_getElem hmm]; rfl)
        have htm := hrs4 rs[m] (List.getElem_mem hmm)
        obtain ⟨t1, t2'⟩ := wq.t x
        obtain ⟨t3, t4⟩ := wq.t (rs[m]).2
        refine ⟨_, rfl, _, rfl, _, rfl, _, _, rfl, rfl, o, _, _, _, rfl, rfl, SqL.of ho4, hat, (rs[m]).1, _, _, _, rfl, rfl, SqT.of htm, atI_nat (j := 2) rfl, _, _, rfl, rfl, cb_l (by omega) (by omega), ?_⟩
        refine ⟨_, rfl, _, rfl, _, _, rfl, rfl, o, _, _, _, rfl, rfl, SqL.of ho4, hat, (rs[m]).1, _, _, _, rfl, rfl, SqT.of htm, atI_nat (j := 1) rfl, _, rfl, _, _, rfl, rfl, cb_l (by omega) (by omega), _, _, rfl, rfl, _, rfl, ?_⟩
        have hms : (rs.map (·.2))[m]'(by rw [List.length_map]; exact hmm) = (rs[m]).2 := List.getElem_map ..
        have hml : m < (rs.map (·.2)).length := by rw [List.length_map]; exact hmm
        show if decide ((q x).1 * (q (rs[m]).2).2 < (q (rs[m]).2).1 * (q x).2) = true then _ else _
        rw [cross_d wq]
        refine ite2 (fun g => ?_) (fun g => ?_)
        · have g' : rq q x < rq q (rs[m]).2 := of_decide_eq_true g
          refine ⟨fun σ' H'' => H'' = H' ∧ σ' = [some (.ref l), some (.ref d), some (.ref o), some (.str x), some (.int (q x).1), some (.int (q x).2), some (.int (m : Int)), none], ?_, ?_⟩
          · rintro σ' H'' ⟨rfl, rfl⟩
            refine ⟨m, Nat.lt_succ_self m, rfl, Nat.le_of_lt hmm, rfl, fun z hz => ?_⟩
            rw [List.drop_eq_getElem_cons hml] at hz
            rcases List.mem_cons.mp hz with e | hz
            · rw [e, hms]; exact g'
            · exact hgt z hz
          · refine ⟨_, rfl, _, _, rfl, rfl, rfl, ?_⟩
            show [_, _, _, _, _, _, some (V.int (((m + 1 : Nat) : Int) - 1)), _] = _
            rw [em]
        · have g' : ¬ rq q x < rq q (rs[m]).2 := fun z => g (decide_eq_true z)
          refine ⟨rfl, m + 1, hm, rfl, hgt, fun z hz => ?_⟩
          obtain ⟨j, hj, ej⟩ := List.mem_iff_getElem.mp hz
          rw [List.length_take] at hj
          have hjm : j ≤ m := by omega
          have hjz : j < (rs.map (·.2)).length := by omega
          rw [List.getElem_take] at ej
          have hlast : rq q ((rs.map (·.2))[m]) ≤ rq q x := by rw [hms]; exact Rat.not_lt.mp g'
          rcases Nat.lt_or_ge j m with hlt | hge
          · have := List.pairwise_iff_getElem.mp zpw j m hjz hml hlt
            rw [ej] at this
            exact Rat.le_trans (IO.le_rat this) hlast
          · have : j = m := by omega
            subst this
            rw [← ej]
            exact hlast
      rintro σ' H' ⟨rfl, m, hm, rfl, hgt, hlo⟩
      refine ⟨_, rfl, Or.inl ⟨rfl, _, SqL.of ho4⟩, _, rfl, _, rfl, _, rfl, _, rfl, by show 3 ≤ sizeLine; decide, fun u fu => ?_⟩
      have su := same_new (o := tq q x) fu
      have hu5 : (upd H' u (tq q x)) u = some (tq q x) := upd_same
      have ho5 := su _ _ ho4
      have nuo : u ≠ o := (ne_of_none ho4 fu).symm
      refine ⟨o, _, _, _, rfl, rfl, ho5, by rw [List.length_map]; exact line_lt (by omega), Int.natCast_nonneg m, by omega, ?_⟩
      rw [Int.toNat_natCast]
      have kt : ∀ b ys, H' b = some (.tup ys) → (upd (upd H' u (tq q x)) o (.lst ((rs.map fun r => V.ref r.1).take m ++ [V.ref u] ++ (rs.map fun r => V.ref r.1).drop m))) b = some (.tup ys) := fun b ys e => by rw [upd_ne (ne_of (su _ _ e) ho5 (by intro z; cases z))]; exact su _ _ e
      refine ⟨fun a v e => ?_, ?_, rs.take m ++ [(u, x)] ++ rs.drop m, _, _, _, _, rfl, ?_, fun r hr => ?_, ?_, ?_⟩
      · rw [upd_ne (fun z => by rw [z, ho] at e; cases e)]
        exact su _ _ (s4 a v e)
      · rw [upd_ne (Ne.symm nop)]
        exact su _ _ hp4
      · rw [upd_same]
        simp [List.map_append, List.map_take, List.map_drop]
      · rcases List.mem_append.mp hr with hr | hr
        · rcases List.mem_append.mp hr with hr | hr
          · exact kt _ _ (hrs4 r (List.mem_of_mem_take hr))
          · rw [List.mem_singleton.mp hr, upd_ne nuo]
            exact upd_same
        · exact kt _ _ (hrs4 r (List.mem_of_mem_drop hr))
      · have e1 : (rs.take m ++ [(u, x)] ++ rs.drop m).map (·.2) = (rs.map (·.2)).take m ++ [x] ++ (rs.map (·.2)).drop m := by simp [List.map_append, List.map_take, List.map_drop]
        rw [e1]
        refine (IO.put_perm m).trans ?_
        rw [take_one hx]
        exact (List.Perm.cons x zperm).trans (List.perm_append_singleton x _).symm
      · have e1 : (rs.take m ++ [(u, x)] ++ rs.drop m).map (·.2) = (rs.map (·.2)).take m ++ [x] ++ (rs.map (·.2)).drop m := by simp [List.map_append, List.map_take, List.map_drop]
        rw [e1]
        refine IO.put_in zpw (fun z hz => ?_) (by rw [List.length_map]; exact hm) hgt hlo
        have hz' : z ∈ ys.take i := zperm.subset hz
        have hsplit : ys = ys.take i ++ x :: ys.drop (i + 1) := by
          have h1 := List.take_append_drop i ys
          rw [List.drop_eq_getElem_cons il] at h1
          have h2 : ys[i] = x := (List.getElem?_eq_some_iff.mp hx).2
          rw [h2] at h1
          exact h1.symm
        rw [hsplit] at hpw
        exact (List.pairwise_append.mp hpw).2.2 z hz' x (List.mem_cons_self ..)
    · rintro σ H2 ⟨s2, hp2, rs, v3, v4, v5, v6, rfl, ho2, hrs, zperm, zpw⟩
      rw [List.length_map, List.take_length] at zperm
      refine ⟨_, rfl, o, rfl, ⟨_, SqL.of ho2⟩, fun D hD => lc_list (K := K) (xs := rs.map fun r => V.ref r.1) (fun j H' => H' D = some (.lst (((rs.map (·.2)).take j).map V.str)) ∧ Same H2 H') ⟨upd_same, same_new hD⟩ (fun j H' _ z => SqL.of (z.2 _ _ ho2)) ?_ ?_⟩
      · rintro j v H5 hv ⟨hD5, s5⟩
        rw [List.getElem?_map] at hv
        obtain ⟨r, hr, rfl⟩ := Option.map_eq_some_iff.mp hv
        have hr5 := s5 _ _ (hrs r (List.mem_of_getElem? hr))
        refine ⟨rfl, _, rfl, r.1, _, _, _, rfl, rfl, SqT.of hr5, atI_nat (j := 0) rfl, _, hD5, ?_, ?_, fun b o e => ?_⟩
        · rw [List.length_map, List.length_take, List.length_map]
          have := (List.getElem?_eq_some_iff.mp hr).1
          have h9 := zperm.length_eq
          rw [List.length_map] at h9
          exact line_lt (by omega)
        · rw [upd_same, take_one (show (rs.map (·.2))[j]? = some r.2 by rw [List.getElem?_map, hr]; rfl), List.map_append]
          rfl
        · rw [upd_ne (ne_of_none e hD)]
          exact s5 _ _ e
      · rintro H5 ⟨hD5, s5⟩
        rw [List.length_map] at hD5
        have e9 : (rs.map (·.2)).take rs.length = rs.map (·.2) := List.take_of_length_le (by rw [List.length_map]; exact Nat.le_refl _)
        rw [e9] at hD5
        exact hQ D (rs.map (·.2)) H5 (s2.trans s5) (s2.free hD) hD5 (zperm.trans hperm) zpw
end
end K16
set_option Elab.async false
set_option linter.all false
set_option maxRecDepth 100000
set_option maxHeartbeats 4000000
namespace K16
open PySem PySem.Spec PyProof.Rows L2
open C8 (Cal Mak Met pe_c pe_mk pe_mt pe_mt0)
open KW1 (dscI)
open KM (pr Sz)
section
variable {P : Program} {w : World} {K : PySem.W.Frag} {mg : Str → Option Value} {base : Heap} {f N fN C fM : Addr} {fd fdN fdM : FuncData}
/-- choose -/
def StV (C : Addr) (H : Hp) (st : V) (ρ : Str → Rat) : Prop := (∃ (hd : Addr) (kvs : List (Key × V)), st = .ref hd ∧ K16.Q.ShD C H hd kvs ρ) ∨ (st = .non ∧ ∀ x, ρ x = 0)
def spCho (C N : Addr) : Sp := fun vs H Q E => ∃ (a d : Addr) (st : V) (F L : List Str) (g : Str → Int) (ρ : Str → Rat) (n : Nat), vs = [.ref a, .ref d, st] ∧ Fk F L g ∧ H a = some (.lst (F.map V.str)) ∧ H d = some (.dK (idK L g)) ∧ StV C H st ρ ∧ (∀ x, Sz n (ρ x)) ∧ 0 < n ∧ n ≤ 4000 ∧
  (0 < lac F L g → ∀ dx H', Same H H' → H dx = none → H' dx = some (.xd [("lack", .int (lac F L g))]) → E (.ref N) (some dx) H') ∧
  (lac F L g ≤ 0 → ∀ (o : Addr) (Z : List Str) (H' : Hp), Same H H' → H o = none → Z.Perm F → Z.Pairwise (IO.le ρ) → H' o = some (.lst ((sortS (gr (rm L g) Z (cnt (F.length : Int) (dscI (sts F L g))) (F.length : Int))).map V.str)) → Q (.ref o) H')
theorem ok_cho (Fd : Dn K d_choose f fd) (b : Bl mg) (b2 : B2 mg) (ben : mg "enumerate" = none) (FM : FnOk P w K mg base (L2.CX P w) 4 fM fdM ["riders", "seats"] (spFe N)) (gM : mg "fewest" = some (.ref fM)) (kM : PySem.W.keepIn K (.ref fM) = true) (bM : Binds K fdM ["riders", "seats"] []) (cS : Cal P w K mg base 1 "seats_of" spSo []) (cB : Cal P w K mg base 1 "best_sum" spBs []) (cI : Cal P w K mg base 4 "in_order" (K16.Q.spInOrder K C) []) :
    FnOk P w K mg base (L2.CX P w) 5 f fd ["riders", "seats", "standing"] (spCho C N) := by
  refine Fd.ok sc_choose (fun vs H Q E h => ?_) (fun cdv A outer s H vs Q E hr h => ?_)
  · obtain ⟨_, _, _, _, _, _, _, _, rfl, _⟩ := h
    rfl
  · obtain ⟨a, d, st, F, L, g, ρ, n, rfl, fk, ha, hdd, sh, sz, n0, n4, hE, hQ⟩ := h
    have hu64 : (A.deeper (envOfC d_choose.qual d_choose.scope s.heap.objs.size f cdv)).units + 64 < cLine := by have := hr.un; omega
    refine ⟨_, pss_cons (ps_set (i := 3) sc_choose.nd rfl (.inl rfl) (pe_callS (E := fun σ cls d H => E cls d H) FM (hr.mono (by decide)) rfl gM kM bM (fun σ => passAt (takes_of rfl rfl rfl rfl) σ) (pa_cons (pv 0) (pa_cons (pv 1) pa_nil))))
      (pss_cons (ps_set (i := 4) sc_choose.nd rfl (.inl rfl) (pe_callB call_len_seq rfl b.len boot_len (pa_cons (pv 0) pa_nil)))
      (C8.pss_cut (ps_set (i := 5) sc_choose.nd rfl (.inl rfl) (pe_c cI hr (by decide) rfl (pa_cons (pv 0) (pa_cons (pe_ifExp (pt_cmpR op_isN1 (pv 2) pe_non (nomark _)) pe_dnewK (pv 2)) pa_nil))))
      (pss_cons (ps_set (i := 6) sc_choose.nd rfl (.inl rfl) (pe_c cS hr (by decide) rfl (pa_cons (pv 5) (pa_cons (pv 1) pa_nil))))
      (pss_cons (ps_set (i := 7) sc_choose.nd rfl (.inl rfl) (pe_lst pa_nil))
      (pss_cons (ps_for (passes_of rfl) rfl (pi_enum rfl ben (pa_cons (pv 5) pa_nil)) (pg_tup rfl (pgs_cons (pg_name (i := 8) sc_choose.nd rfl (.inl rfl)) (pgs_cons (pg_name (i := 9) sc_choose.nd rfl (.inl rfl)) pgs_nil)))
        (pss_one (ps_if (PW.pt (pw_and (pt_cmpR op_gt (pv 3) pe_int (nomark _)) (pw_and1 (pt_cmpR op_ge (pe_op op_add (pe_ix ix_list (pv 6) (pv 8) (fun _ _ => rfl)) (pe_c cB hr (by decide) rfl (pa_cons (pe_slice sl_list (pv 6) (po_some (pe_op op_add (pv 8) pe_int)) po_none) (pa_cons (pe_op op_sub (pv 3) pe_int) pa_nil)))) (pv 4) (nomark _)))))
          (pss_cons (ps_expr (pe_bm PySem.F.plainAttrs_list PySem.F.slot_list_append PySem.F.type_list_append mt_append (pv 7) (pa_cons (pv 9) pa_nil)))
          (pss_cons (ps_aug (i := 3) sc_choose.nd rfl (.inl rfl) pe_int ip_sub)
          (pss_one (ps_aug (i := 4) sc_choose.nd rfl (.inl rfl) (pe_ix ix_list (pv 6) (pv 8) (fun _ _ => rfl)) ip_sub)))) pss_nil)))
      (pss_one (ps_ret (pe_callB (cr_sortS hu64) rfl b2.srt boot_sorted (pa_cons (pv 7) pa_nil))))))))), ?_⟩
    have fl := fk.fl
    refine ⟨_, rfl, _, rfl, a, d, F, L, g, rfl, ha, hdd, by omega, fun lc H1 s1 => ?_, fun lc dx H1 s1 fdx hdx => hE lc dx H1 s1 fdx hdx⟩
    have hQ := hQ lc
    refine ⟨_, rfl, a, _, rfl, .inl (SqL.of (s1 _ _ ha)), ?_⟩
    refine ⟨fun σ' H' => ∃ (o : Addr) (Z : List Str), σ' = [some (.ref a), some (.ref d), some st, some (.int ((cnt (F.length : Int) (dscI (sts F L g)) : Nat) : Int)), some (.int (((F.map V.str).length : Nat) : Int)), some (.ref o), none, none, none, none] ∧ Same H1 H' ∧ H' o = some (.lst (Z.map V.str)) ∧ Z.Perm F ∧ Z.Pairwise (IO.le ρ), ?_, ?_⟩
    · rcases sh with ⟨hd, kvs, rfl, sh⟩ | ⟨rfl, r0⟩
      · refine ⟨_, rfl, _, rfl, rfl, _, rfl, iteF ⟨_, rfl, ?_⟩⟩
        exact ⟨a, hd, F, kvs, ρ, n, rfl, SqL.of (s1 _ _ ha), by omega, sh.keep s1, sz, n0, n4, fun o Z H2 s2 fo ho pm pw => ⟨o, Z, rfl, s2, ho, pm, pw⟩⟩
      · refine ⟨_, rfl, _, rfl, rfl, _, rfl, iteT fun p fp => ?_⟩
        have sp := same_new (o := .dK []) fp
        refine ⟨a, p, F, [], ρ, n, rfl, SqL.of (sp _ _ (s1 _ _ ha)), by omega, ⟨upd_same, fun x v e => (nomatch e), fun x _ => r0 x⟩, sz, n0, n4, fun o Z H2 s2 fo ho pm pw => ⟨o, Z, rfl, sp.trans s2, ho, pm, pw⟩⟩
    rintro σ' H2 ⟨o, Z, rfl, s2, ho, pm, pw⟩
    have zl := pm.length_eq
    have s02 := s1.trans s2
    refine ⟨_, rfl, _, rfl, o, d, Z, L, g, rfl, ho, s02 _ _ hdd, by omega, fun r H3 s3 fr hr3 => ?_⟩
    refine ⟨by show 0 ≤ sizeLine; decide, fun D fD => ?_⟩
    have s03 := s02.trans s3
    have sD := same_new (o := .lst []) fD
    have ho4 := sD _ _ (s3 _ _ ho)
    have hr4 := sD _ _ hr3
    have hD0 : (upd H3 D (.lst [])) D = some (.lst []) := upd_same
    have s04 := s03.trans sD
    have nrD : r ≠ D := ne_of_none hr3 fD
    have noD : o ≠ D := ne_of_none (s3 _ _ ho) fD
    have fD0 := s03.free fD
    generalize upd H3 D (.lst []) = H4 at ho4 hr4 hD0 s04 ⊢
    clear s2 s3 sD s02 s03 hr3 fr
    obtain ⟨c, ec⟩ : ∃ c, c = cnt (F.length : Int) (dscI (sts F L g)) := ⟨_, rfl⟩
    rw [← ec] at hQ ⊢
    have nn : ∀ x, 0 ≤ rm L g x := fun x => (fk.rm0 x).1
    refine ⟨_, rfl, o, _, rfl, SqL.of ho4, for_it walk_enum (fun i σ H2 => ∃ (m : Nat) (l : Int) (Dp : List Str) (v8 v9 : Option V), σ = [some (.ref a), some (.ref d), some st, some (.int (m : Nat)), some (.int l), some (.ref o), some (.ref r), some (.ref D), v8, v9] ∧ Same H H2 ∧ H2 o = some (.lst (Z.map V.str)) ∧ H2 r = some (.lst ((Z.map fun x => rm L g x).map V.int)) ∧ H2 D = some (.lst (Dp.map V.str)) ∧ Dp.length ≤ i ∧ Dp ++ gr (rm L g) (Z.drop i) m l = gr (rm L g) Z c (F.length : Int))
      ⟨c, (F.length : Int), [], _, _, by rw [List.length_map]; rfl, s04, ho4, hr4, hD0, Nat.le_refl _, rfl⟩ (fun i σ H2 _ z => by obtain ⟨_, _, _, _, _, _, _, z, _⟩ := z; exact SqL.of z) ?_ ?_⟩
    · rintro i x σ H2 H3 hi ⟨m, l, Dp, v8, v9, rfl, s2, ho2, hr2, hD2, ld, eg⟩ ⟨Tp, x1, x2, rfl, hT, rfl, e1, e2⟩
      cases e1
      obtain ⟨z, hz, rfl⟩ := strs_at (show (Z.map V.str)[i]? = some x2 from e2)
      have il : i < Z.length := (List.getElem?_eq_some_iff.mp hz).1
      have sT := same_new (o := .tup [V.int (i : Nat), V.str z]) hT
      have s3 := s2.trans sT
      have ho3 := sT _ _ ho2
      have hr3 := sT _ _ hr2
      have hD3 := sT _ _ hD2
      have hT3 : (upd H2 Tp (.tup [V.int (i : Nat), V.str z])) Tp = some (.tup [V.int (i : Nat), V.str z]) := upd_same
      generalize upd H2 Tp (.tup [V.int (i : Nat), V.str z]) = H3 at s3 ho3 hr3 hD3 hT3 ⊢
      clear s2 ho2 hr2 hD2 sT hT
      have ed : Z.drop i = z :: Z.drop (i + 1) := by
        rw [List.drop_eq_getElem_cons il, (List.getElem?_eq_some_iff.mp hz).2]
      refine ⟨Tp, _, rfl, SqT.of hT3, rfl, _, _, rfl, _, _, rfl, rfl, ?_⟩
      have hat : atI ((Z.map fun x => rm L g x).map V.int) ((i : Nat) : Int) = some (.int (rm L g z)) := atI_nat (by rw [List.getElem?_map, List.getElem?_map, hz]; rfl)
      rw [ed, gr_cons] at eg
      refine ⟨_, rfl, _, _, rfl, rfl, _, rfl, ?_⟩
      refine ite2 (fun c1 => ?_) (fun c1 => ?_)
      · have m0 : 0 < m := by have := of_decide_eq_true c1; omega
        refine ⟨_, rfl, _, rfl, r, _, _, _, rfl, rfl, SqL.of hr3, hat, ?_⟩
        have em : ((m : Nat) : Int) - 1 = ((m - 1 : Nat) : Int) := by omega
        have ei : ((i : Nat) : Int) + 1 = ((i + 1 : Nat) : Int) := by omega
        refine ⟨_, rfl, _, rfl, _, _, rfl, rfl, _, rfl, r, _, rfl, SqL.of hr3, fun q fq => ?_⟩
        have ecd : cutV ((Z.map fun x => rm L g x).map V.int) (some (((i + 1 : Nat) : Nat) : Int)) none = ((Z.drop (i + 1)).map (rm L g)).map V.int := by
          rw [cut_drop V.int (Int.natCast_nonneg (i + 1)), Int.toNat_natCast]
          congr 1
          exact List.map_drop.symm
        rw [ei, ecd]
        have sq := same_new (o := .lst (((Z.drop (i + 1)).map (rm L g)).map V.int)) fq
        have hq : (upd H3 q (.lst (((Z.drop (i + 1)).map (rm L g)).map V.int))) q = some (.lst (((Z.drop (i + 1)).map (rm L g)).map V.int)) := upd_same
        have ho4 := sq _ _ ho3
        have hr4 := sq _ _ hr3
        have hD4 := sq _ _ hD3
        have s4 := s3.trans sq
        generalize upd H3 q (.lst (((Z.drop (i + 1)).map (rm L g)).map V.int)) = H4 at hq ho4 hr4 hD4 s4 ⊢
        refine ⟨_, rfl, _, _, rfl, rfl, q, _, m - 1, (show [V.ref q, V.int ((m : Int) - 1)] = _ by rw [em]), hq, fun H5 s5 => ?_⟩
        refine ⟨_, _, rfl, rfl, _, rfl, _, _, rfl, rfl, _, rfl, ?_⟩
        have ho5 := s5 _ _ ho4
        have hr5 := s5 _ _ hr4
        have hD5 := s5 _ _ hD4
        have s55 := s4.trans s5
        refine ite2 (fun c2 => ?_) (fun c2 => ?_)
        · have c2' : l ≤ rm L g z + best (m - 1) ((Z.drop (i + 1)).map (rm L g)) := of_decide_eq_true c2
          rw [if_pos ⟨m0, c2'⟩] at eg
          refine ⟨_, rfl, .inl ⟨rfl, _, SqL.of hD5⟩, _, rfl, D, _, _, rfl, rfl, hD5, ?_, ?_⟩
          · rw [List.length_map]
            exact Nat.lt_of_lt_of_le (by omega : Dp.length < 64) (by decide)
          have rne : r ≠ D := nrD
          have hr6 : (upd H5 D (.lst (Dp.map V.str ++ [V.str z]))) r = some (.lst ((Z.map fun x => rm L g x).map V.int)) := by rw [upd_ne nrD]; exact hr5
          refine ⟨_, rfl, _, _, rfl, rfl, ?_⟩
          refine ⟨_, rfl, _, rfl, _, rfl, r, _, _, _, rfl, rfl, SqL.of hr6, hat, _, _, rfl, rfl, ?_⟩
          refine ⟨m - 1, l - rm L g z, Dp ++ [z], some (.int (i : Nat)), some (.str z), ?_, fun b u e => ?_, by rw [upd_ne noD]; exact ho5, hr6, by rw [upd_same, List.map_append]; rfl, by rw [List.length_append]; show _ + 1 ≤ _; omega, by rw [List.append_assoc]; exact eg⟩
          · show [some (V.ref a), some (V.ref d), some st, some (V.int ((m : Int) - 1)), some (V.int (l - rm L g z)), some (V.ref o), some (V.ref r), some (V.ref D), some (V.int (i : Nat)), some (V.str z)] = _
            rw [em]
          · rw [upd_ne (ne_of_none e fD0)]
            exact s55 _ _ e
        · have m1 : ¬ (0 < m ∧ l ≤ rm L g z + best (m - 1) ((Z.drop (i + 1)).map (rm L g))) := fun q => c2 (decide_eq_true q.2)
          rw [if_neg m1] at eg
          exact ⟨m, l, Dp, _, _, rfl, s55, ho5, hr5, hD5, by omega, eg⟩
      · have m0 : ¬ (0 < m ∧ l ≤ rm L g z + best (m - 1) ((Z.drop (i + 1)).map (rm L g))) := fun q => c1 (decide_eq_true (by have := q.1; omega))
        rw [if_neg m0] at eg
        exact ⟨m, l, Dp, _, _, rfl, s3, ho3, hr3, hD3, by omega, eg⟩
    · rintro σ H2 ⟨m, l, Dp, v8, v9, rfl, s2, ho2, hr2, hD2, ld, eg⟩
      rw [List.length_map, List.drop_length] at eg
      rw [gr_nil, List.append_nil] at eg
      subst eg
      refine ⟨_, rfl, D, _, rfl, .inl (SqL.of hD2), fun p fp => ?_⟩
      exact hQ p Z _ (s2.trans (same_new fp)) (s2.free fp) pm pw upd_same
end
end K16
set_option Elab.async false
set_option linter.all false
set_option maxRecDepth 100000
set_option maxHeartbeats 4000000
namespace K16
open PySem PySem.Spec PyProof.Rows L2
open C8 (Cal Mak Met pe_c pe_mk pe_mt pe_mt0)
open KW1 (dscI)
def tl (n : Nat) (t : Nat → Int) : List V := (List.range (n + 1)).map fun k => V.int (t k)
theorem tl_len (n : Nat) (t : Nat → Int) : (tl n t).length = n + 1 := by unfold tl; simp
theorem tl_at {n : Nat} {t : Nat → Int} {k : Nat} (h : k ≤ n) : (tl n t)[k]? = some (.int (t k)) := by
  unfold tl
  rw [List.getElem?_map, List.getElem?_range (by omega)]
  rfl
theorem tl_ext {n : Nat} {t u : Nat → Int} (h : ∀ k, k ≤ n → t k = u k) : tl n t = tl n u := List.map_congr_left fun k hk => by rw [h k (by have := List.mem_range.mp hk; omega)]
def mid (n : Nat) (x : Int) (t : Nat → Int) (i : Nat) : Nat → Int := fun j => if n - i < j then stp x t j else t j
theorem mid_set {n i : Nat} {x v : Int} {t : Nat → Int} (hi : i < n) (hv : v = stp x t (n - i)) : (tl n (mid n x t i)).set (n - i) (.int v) = tl n (mid n x t (i + 1)) := by
  apply List.ext_getElem?
  intro j
  rw [List.getElem?_set, tl_len]
  by_cases e : n - i = j
  · rw [if_pos e, if_pos (by omega), tl_at (by omega), hv]
    unfold mid
    rw [if_pos (by omega), e]
  · rw [if_neg e]
    by_cases hj : j ≤ n
    · rw [tl_at hj, tl_at hj]
      unfold mid
      by_cases c : n - i < j
      · rw [if_pos c, if_pos (by omega)]
      · rw [if_neg c, if_neg (by omega)]
    · rw [List.getElem?_eq_none (by rw [tl_len]; omega), List.getElem?_eq_none (by rw [tl_len]; omega)]
theorem ixN_n {n j : Nat} (h : j < n) : ixN n (j : Int) = some j := by
  unfold ixN
  rw [if_pos (by omega), if_pos (by omega)]
  simp
section
variable {P : Program} {w : World} {K : PySem.W.Frag} {mg : Str → Option Value} {base : Heap} {f : Addr} {fd : FuncData}
def spBe : Sp := fun vs H Q _ => ∃ (a d : Addr) (F L : List Str) (g : Str → Int), vs = [.ref a, .ref d] ∧ H a = some (.lst (F.map V.str)) ∧ H d = some (.dK (idK L g)) ∧ F.length ≤ 12 ∧
  ∀ (o : Addr) (H' : Hp), Same H H' → H o = none → H' o = some (.lst (tl F.length (tb (sts F L g).reverse))) → Q (.ref o) H'
theorem ok_be (Fd : Dn K d_l_best f fd) (b : Bl mg) (brev : mg "reversed" = none) : FnOk P w K mg base CX0 1 f fd ["_law_folk", "_law_rooms"] spBe := by
  refine Fd.ok sc_l_best (fun vs H Q E h => ?_) (fun cdv A outer s H vs Q E hr h => ?_)
  · obtain ⟨_, _, _, _, _, rfl, _⟩ := h
    rfl
  · obtain ⟨a, d, F, L, g, rfl, ha, hd, lF, hQ⟩ := h
    have hu := hu_of hr
    refine ⟨_, PSs.nox (pss_cons (ps_set (i := 2) sc_l_best.nd rfl (.inl rfl) (pe_op op_cat (pe_lst (pa_cons pe_int pa_nil)) (pe_op op_rep (pe_lst (pa_cons (pe_un un_neg pe_int) pa_nil)) (pe_callB call_len_seq rfl b.len boot_len (pa_cons (pv 0) pa_nil)))))
      (pss_cons (ps_for PassesOwn.never rfl (pi_list (pv 0)) (pg_name (i := 3) sc_l_best.nd rfl (.inl rfl))
        (pss_one (ps_for PassesOwn.never rfl (pi_revR rfl brev (prg_1 rfl b.range (pe_callB call_len_seq rfl b.len boot_len (pa_cons (pv 0) pa_nil)))) (pg_name (i := 4) sc_l_best.nd rfl (.inl rfl))
          (pss_one (ps_if (pt_cmpR op_ge (pe_ix ix_list (pv 2) (pv 4) (fun _ _ => rfl)) pe_int (nomark _))
            (pss_one (ps_asg (pe_callB (call_max2 rfl) rfl b.max boot_max (pa_cons (pe_ix ix_list (pv 2) (pe_op op_add (pv 4) pe_int) (fun _ _ => rfl)) (pa_cons (pe_op op_add (pe_ix ix_list (pv 2) (pv 4) (fun _ _ => rfl)) (pe_dget2 hu (pv 1) (pv 3) pe_int ⟨rfl, rfl, rfl, rfl⟩)) pa_nil)))
              (pg_sub (pv 2) (pe_op op_add (pv 4) pe_int) set_list))) pss_nil)))))
      (pss_one (ps_ret (pv 2))))), ?_⟩
    -- at first
    refine ⟨by show 1 ≤ sizeLine; decide, fun l1 f1 => ?_⟩
    have s1 := same_new (o := .lst [V.int 0]) f1
    have h1 : (upd H l1 (.lst [V.int 0])) l1 = some (.lst [V.int 0]) := upd_same
    generalize upd H l1 (.lst [V.int 0]) = H1 at s1 h1 ⊢
    refine ⟨_, rfl, by show 1 ≤ sizeLine; decide, fun l2 f2 => ?_⟩
    have s2 := same_new (o := .lst [V.int (-1)]) f2
    have h2 : (upd H1 l2 (.lst [V.int (-1)])) l2 = some (.lst [V.int (-1)]) := upd_same
    generalize upd H1 l2 (.lst [V.int (-1)]) = H2 at s2 h2 ⊢
    have s02 := s1.trans s2
    refine ⟨_, rfl, a, _, rfl, .inl (SqL.of (s02 _ _ ha)), l2, _, _, rfl, rfl, h2, ?_, ?_, ?_, fun l3 f3 => ?_⟩
    · omega
    · rw [List.length_map]
      omega
    · rw [List.length_map, Int.toNat_natCast]
      exact Nat.le_trans (by simp; omega : _ ≤ 100) (by decide)
    have er : (List.replicate ((((F.map V.str).length : Nat) : Int)).toNat [V.int (-1)]).flatten = List.replicate F.length (V.int (-1)) := by
      rw [List.length_map, Int.toNat_natCast, List.flatten_replicate_singleton]
    rw [er]
    have s3 := same_new (o := .lst (List.replicate F.length (V.int (-1)))) f3
    have h3 : (upd H2 l3 (.lst (List.replicate F.length (V.int (-1))))) l3 = some (.lst (List.replicate F.length (V.int (-1)))) := upd_same
    generalize upd H2 l3 (.lst (List.replicate F.length (V.int (-1)))) = H3 at s3 h3 ⊢
    refine ⟨l1, l3, _, _, rfl, rfl, s3 _ _ (s2 _ _ h1), h3, ?_, fun o fo => ?_⟩
    · rw [List.length_replicate]
      exact Nat.le_trans (by simp; omega : _ ≤ 100) (by decide)
    have e0 : [V.int 0] ++ List.replicate F.length (V.int (-1)) = tl F.length (tb []) := by
      unfold tl
      rw [List.range_succ_eq_map, List.map_cons, List.map_map]
      refine congrArg (V.int 0 :: ·) ?_
      exact (List.eq_replicate_iff.mpr ⟨(List.length_map ..).trans List.length_range, fun v hv => by
        obtain ⟨k, _, rfl⟩ := List.mem_map.mp hv
        rfl⟩).symm
    rw [e0]
    have s4 := same_new (o := .lst (tl F.length (tb []))) fo
    have h4 : (upd H3 o (.lst (tl F.length (tb [])))) o = some (.lst (tl F.length (tb []))) := upd_same
    have s04 : Same H (upd H3 o (.lst (tl F.length (tb [])))) := (s02.trans s3).trans s4
    have fo0 : H o = none := (s02.trans s3).free fo
    generalize upd H3 o (.lst (tl F.length (tb []))) = H4 at h4 s04 ⊢
    refine ⟨_, rfl, a, rfl, ⟨_, SqL.of (s04 _ _ ha)⟩, for_list (K := K) (xs := F.map V.str) (fun i σ H' => (∃ v3 v4 : Option V, σ = [some (.ref a), some (.ref d), some (.ref o), v3, v4]) ∧ Same H H' ∧ H' o = some (.lst (tl F.length (tb ((sts F L g).take i).reverse)))) ⟨⟨_, _, rfl⟩, s04, h4⟩ (fun i σ H' _ q => SqL.of (q.2.1 _ _ ha)) ?_ ?_⟩
    · rintro i v σ H' hv ⟨⟨v3, v4, rfl⟩, s5, ho⟩
      obtain ⟨x, hx, rfl⟩ := strs_at hv
      have ex : (sts F L g)[i]? = some (rm L g x) := by unfold sts; rw [List.getElem?_map, hx]; rfl
      have et : ((sts F L g).take (i + 1)).reverse = rm L g x :: ((sts F L g).take i).reverse := by rw [List.take_succ, ex]; simp
      rw [et]
      generalize ((sts F L g).take i).reverse = l at ho ⊢
      have ln : (((((F.map V.str).length : Nat) : Int) - 0).toNat) = F.length := by rw [List.length_map]; omega
      refine ⟨_, rfl, a, _, rfl, .inl (SqL.of (s5 _ _ ha)), _, rfl, by decide, by decide, ?_, ?_, ?_⟩
      · rw [List.length_map]
        omega
      · rw [List.length_map]
        omega
      rw [ln]
      refine for_it walk_rangeC (fun j σ H' => (∃ v4 : Option V, σ = [some (.ref a), some (.ref d), some (.ref o), some (.str x), v4]) ∧ Same H H' ∧ H' o = some (.lst (tl F.length (mid F.length (rm L g x) (tb l) j)))) ?_ (fun _ _ _ _ _ => trivial) ?_ ?_
      · refine ⟨⟨_, rfl⟩, s5, ?_⟩
        rw [ho]
        refine congrArg (fun z => some (HO.lst z)) (tl_ext fun k hk => ?_)
        unfold mid
        rw [if_neg (by omega)]
      · rintro j y σ H6 H7 hj ⟨⟨v4, rfl⟩, s6, h6⟩ ⟨eH, ey⟩
        have eH := eH
        subst eH
        have ek : (0 : Int) + ((F.length : Nat) : Int) - 1 + ((j : Nat) : Int) * (-1) = ((F.length - 1 - j : Nat) : Int) := by omega
        have ey : y = V.int ((F.length - 1 - j : Nat) : Int) := by rw [← ek]; exact ey
        subst ey
        generalize ekk : F.length - 1 - j = k
        have k1 : k + 1 = F.length - j := by omega
        have ha6 := s6 _ _ ha
        have nk : k ≤ F.length := by omega
        have mk : mid F.length (rm L g x) (tb l) j k = tb l k := if_neg (by omega)
        have mk1 : mid F.length (rm L g x) (tb l) j (k + 1) = tb l (k + 1) := if_neg (by omega)
        have a0 : atI (tl F.length (mid F.length (rm L g x) (tb l) j)) ((k : Nat) : Int) = some (.int (tb l k)) := by rw [← mk]; exact atI_nat (tl_at nk)
        have a1 : atI (tl F.length (mid F.length (rm L g x) (tb l) j)) (((k : Nat) : Int) + 1) = some (.int (tb l (k + 1))) := by rw [← mk1]; exact atI_nat (j := k + 1) (tl_at (by omega))
        obtain ⟨ov, o1, o2⟩ := id_rm (s6 _ _ hd) x
        refine ⟨_, rfl, _, rfl, o, _, _, _, rfl, rfl, SqL.of h6, a0, _, _, rfl, rfl, _, rfl, ?_⟩
        refine ite2 (fun c1 => ?_) (fun c1 => ?_)
        · have c2 : 0 ≤ tb l k := of_decide_eq_true c1
          refine ⟨_, rfl, _, rfl, _, _, rfl, rfl, o, _, _, _, rfl, rfl, SqL.of h6, a1, ?_⟩
          refine ⟨_, rfl, _, rfl, o, _, _, _, rfl, rfl, SqL.of h6, a0, _, rfl, d, rfl, .inl ⟨_, .inl (s6 _ _ hd)⟩, _, rfl, ov, o1, _, _, rfl, o2, ?_⟩
          refine ⟨_, _, rfl, _, rfl, _, rfl, _, _, rfl, rfl, o, _, _, k + 1, rfl, rfl, h6, ?_, ?_⟩
          · rw [tl_len]
            exact ixN_n (j := k + 1) (by omega)
          · refine ⟨⟨_, rfl⟩, fun b u e => ?_, ?_⟩
            · rw [upd_ne (ne_of_none e fo0)]
              exact s6 _ _ e
            · rw [upd_same, k1, mid_set (by omega)]
              rw [← k1]
              show _ = if 0 ≤ tb l k then max (tb l (k + 1)) (tb l k + rm L g x) else tb l (k + 1)
              rw [if_pos c2]
              by_cases c3 : tb l k + rm L g x > tb l (k + 1)
              · rw [if_pos c3, Int.max_eq_right (by omega)]
              · rw [if_neg c3, Int.max_eq_left (by omega)]
        · have c2 : ¬ 0 ≤ tb l k := fun z => c1 (decide_eq_true z)
          refine ⟨⟨_, rfl⟩, s6, ?_⟩
          rw [h6]
          refine congrArg (fun z => some (HO.lst z)) (tl_ext fun m hm => ?_)
          unfold mid
          by_cases e : m = k + 1
          · subst e
            rw [if_neg (by omega), if_pos (by omega)]
            show _ = if 0 ≤ tb l k then max (tb l (k + 1)) (tb l k + rm L g x) else tb l (k + 1)
            rw [if_neg c2]
          · by_cases c : F.length - j < m
            · rw [if_pos c, if_pos (by omega)]
            · rw [if_neg c, if_neg (by omega)]
      · rintro σ H6 ⟨⟨v4, rfl⟩, s6, h6⟩
        refine ⟨⟨_, _, rfl⟩, s6, ?_⟩
        rw [h6]
        refine congrArg (fun z => some (HO.lst z)) (tl_ext fun k hk => ?_)
        unfold mid
        rw [Nat.sub_self]
        match k with
        | 0 => rfl
        | k + 1 => rw [if_pos (Nat.succ_pos k)]; rfl
    · rintro σ H' ⟨⟨v3, v4, rfl⟩, s5, ho⟩
      rw [List.length_map, List.take_of_length_le (by unfold sts; simp)] at ho
      exact ⟨_, rfl, hQ o H' s5 fo0 ho⟩
end
end K16
set_option Elab.async false
set_option linter.all false
set_option maxRecDepth 100000
set_option maxHeartbeats 4000000
/-! ts.index(x) of a tuple of texts -/
namespace TI
open PySem PySem.Spec PyProof.Rows L2
def rIxOf (K : PySem.W.Frag) : V → List V → Hp → VK → Prop := fun x xs H Q => ∃ (a : Addr) (ys : List Str) (k : Str), x = .ref a ∧ xs = [.str k] ∧ SqT K H a (ys.map V.str) ∧ k ∈ ys ∧ Q (.int (ys.idxOf k : Nat)) H
theorem mt_tindex {X : Cx} : MtR X "tuple.index" (rIxOf X.K) := by
  intro pins s σ H x xs v us Q I rx rxs h
  obtain ⟨a, ys, k, rfl, rfl, hs, hk, q⟩ := h
  cases rx
  obtain ⟨u, rfl, ru⟩ := rxs.one
  obtain ⟨t, rfl⟩ := ru
  obtain ⟨its, rv, it, hlen⟩ := I.tuple hs
  exact PySem.SeqAt.tuple_index_strs (vs := its) it (Vals.strs rv) hk ⟨.int _, H, I.tok _, ⟨_, rfl⟩, q⟩
/-- len of a list or a tuple, where the reading must be named -/
def rLen (K : PySem.W.Frag) : List V → Hp → VK → Prop := fun xs H Q => ∃ (p : Addr) (ys : List V), xs = [V.ref p] ∧ (SqL K H p ys ∨ SqT K H p ys) ∧ Q (V.int (ys.length : Nat)) H
theorem call_lenK {X : Cx} : CallR X (.builtin "len") (rLen X.K) := call_len_seq
end TI
set_option Elab.async false
set_option linter.all false
set_option maxRecDepth 100000
set_option maxHeartbeats 4000000
namespace K16
open PySem PySem.Spec PyProof.Rows L2
open C8 (Cal Mak Met pe_c pe_mk pe_mt pe_mt0)
open KW1 (dscI)
/-! ### the least of the ones that are enough -/
theorem fmin_ok : ∀ (ns : List Int) (n : Int), (ns.foldl min n = n ∨ ns.foldl min n ∈ ns) ∧ ns.foldl min n ≤ n ∧ ∀ y ∈ ns, ns.foldl min n ≤ y
  | [], n => ⟨.inl rfl, Int.le_refl _, by simp⟩
  | m :: ns, n => by
    obtain ⟨h1, h2, h3⟩ := fmin_ok ns (min n m)
    rw [List.foldl_cons]
    have k1 : min n m ≤ n := Int.min_le_left _ _
    have k2 : min n m ≤ m := Int.min_le_right _ _
    refine ⟨?_, by omega, fun y hy => ?_⟩
    · rcases h1 with e | e
      · rw [e]
        rcases (show min n m = n ∨ min n m = m by omega) with q | q
        · exact .inl q
        · exact .inr (by rw [q]; exact List.mem_cons_self)
      · exact .inr (List.mem_cons_of_mem _ e)
    · rcases List.mem_cons.mp hy with rfl | hy
      · omega
      · exact h3 y hy
theorem take_le {S : List Int} (nn : ∀ x ∈ S, 0 ≤ x) (k : Nat) : (S.take k).sum ≤ S.sum := by
  have h : S.sum = (S.take k).sum + (S.drop k).sum := by rw [← List.sum_append, List.take_append_drop]
  have := sum_nn (l := S.drop k) fun x hx => nn x (List.mem_of_mem_drop hx)
  omega
/-- those that are enough -/
def enf (n : Int) (N : Nat) (t : Nat → Int) : List Nat := (List.range (N + 1)).filter fun k => decide (n ≤ t k)
theorem enf_none {l : List Int} (nn : ∀ x ∈ l, 0 ≤ x) {n : Int} (h : l.sum < n) : enf n l.length (tb l.reverse) = [] := by
  unfold enf
  refine List.filter_eq_nil_iff.mpr fun k hk => ?_
  have hk := List.mem_range.mp hk
  have pm : (dscI l).Perm l.reverse := (dsc_perm l).trans (List.reverse_perm l).symm
  rw [tb_eq l.reverse (dscI l) pm (dsc_pw l) (fun x hx => nn x (List.mem_reverse.mp hx)) k, List.length_reverse, if_pos (by omega)]
  have h1 := take_le (S := dscI l) (fun x hx => nn x ((dsc_perm l).subset hx)) k
  have h2 : (dscI l).sum = l.sum := perm_sum (dsc_perm l)
  simp only [decide_eq_true_eq]
  omega
theorem enf_some {l : List Int} (nn : ∀ x ∈ l, 0 ≤ x) {n : Int} (h : n ≤ l.sum) : (∀ k ∈ enf n l.length (tb l.reverse), cnt n (dscI l) ≤ k) ∧ cnt n (dscI l) ∈ enf n l.length (tb l.reverse) := by
  have pm : (dscI l).Perm l.reverse := (dsc_perm l).trans (List.reverse_perm l).symm
  have ll := (dsc_perm l).length_eq
  have te : ∀ k, k ≤ l.length → tb l.reverse k = ((dscI l).take k).sum := fun k hk => by
    rw [tb_eq l.reverse (dscI l) pm (dsc_pw l) (fun x hx => nn x (List.mem_reverse.mp hx)) k, List.length_reverse, if_pos hk]
  have h2 : (dscI l).sum = l.sum := perm_sum (dsc_perm l)
  refine ⟨fun k hk => ?_, ?_⟩
  · obtain ⟨h3, h4⟩ := List.mem_filter.mp hk
    have h3 := List.mem_range.mp h3
    have h4 := of_decide_eq_true h4
    rw [te k (by omega)] at h4
    refine Nat.le_of_not_lt fun z => ?_
    have := cnt_lt (dscI l) n k z
    omega
  · have c1 := cnt_le (dscI l) n
    refine List.mem_filter.mpr ⟨List.mem_range.mpr (by omega), decide_eq_true ?_⟩
    rw [te _ (by omega)]
    exact cnt_at (dscI l) n (by omega)
/-- how few, as the law tells -/
noncomputable def fwV (F L : List Str) (g : Str → Int) : V := if lac F L g ≤ 0 then .int ((cnt (F.length : Int) (dscI (sts F L g)) : Nat) : Int) else .non
section
variable {P : Program} {w : World} {K : PySem.W.Frag} {mg : Str → Option Value} {base : Heap} {f : Addr} {fd : FuncData}
def spLf : Sp := fun vs H Q _ => ∃ (a d : Addr) (F L : List Str) (g : Str → Int), vs = [.ref a, .ref d] ∧ H a = some (.lst (F.map V.str)) ∧ H d = some (.dK (idK L g)) ∧ F.length ≤ 12 ∧ (∀ x, 0 ≤ rm L g x) ∧ ∀ H', Same H H' → Q (fwV F L g) H'
theorem ok_lf (Fd : Dn K d_l_fewest f fd) (b : Bl mg) (ben : mg "enumerate" = none) (cB : Cal P w K mg base 1 "_law_best" spBe []) : FnOk P w K mg base CX0 2 f fd ["_law_folk", "_law_rooms"] spLf := by
  refine Fd.ok sc_l_fewest (fun vs H Q E h => ?_) (fun cdv A outer s H vs Q E hr h => ?_)
  · obtain ⟨_, _, _, _, _, rfl, _⟩ := h
    rfl
  · obtain ⟨a, d, F, L, g, rfl, ha, hd, lF, nn, hQ⟩ := h
    have hu64 : (A.deeper (envOfC d_l_fewest.qual d_l_fewest.scope s.heap.objs.size f cdv)).units + 64 < cLine := by have := hr.un; omega
    refine ⟨_, PSs.nox (pss_cons (ps_setLc (i := 2) (own := [("_law_k", 3), ("_law_most", 4)]) (g := gTup K 2 (gCons (gName 3) (gCons (gName 4) gNil))) rfl sc_l_fewest.nd rfl rfl (sw_true rfl rfl rfl (by decide +kernel)) (pi_enum rfl ben (pa_cons (pe_c cB hr (by decide) rfl (pa_cons (pv 0) (pa_cons (pv 1) pa_nil))) pa_nil)) (blkOk_by (N := N_l_fewest) (sc := defScope s_l_fewest) (by decide +kernel))
          (fun _ _ _ _ _ => pg_tup rfl (pgs_cons (pg_name (i := 3) sc_l_fewest.nd rfl (Or.inl rfl)) (pgs_cons (pg_name (i := 4) sc_l_fewest.nd rfl (Or.inl rfl)) pgs_nil))) (fun _ _ _ _ _ => pts_one (pt_cmpR (r := rI0 fun i j => .bl (decide (j ≤ i))) op_ge (pv 4) (pe_callB (r := TI.rLen K) TI.call_lenK rfl b.len boot_len (pa_cons (pv 0) pa_nil)) (nomark _))) (fun _ _ _ _ _ => pv 3))
      (pss_one (ps_ret (KW1.pe_kw1 (KW1.ck_minDef rfl hu64) rfl b.min boot_min (pa_cons (pv 2) pa_nil) pe_non)))), ?_⟩
    refine ⟨_, rfl, _, rfl, a, d, F, L, g, rfl, ha, hd, lF, fun o H1 s1 fo ho => ?_⟩
    have ls : (sts F L g).length = F.length := by unfold sts; rw [List.length_map]
    have snn : ∀ x ∈ sts F L g, 0 ≤ x := fun x hx => by
      obtain ⟨y, _, rfl⟩ := List.mem_map.mp hx
      exact nn y
    have es : enf (F.length : Int) F.length (tb (sts F L g).reverse) = enf (F.length : Int) (sts F L g).length (tb (sts F L g).reverse) := by rw [ls]
    refine ⟨o, _, rfl, SqL.of ho, fun D fD => lc_it walk_enum (fun i H' => Same H1 H' ∧ H' D = some (.lst (((List.range i).filter fun k => decide ((F.length : Int) ≤ tb (sts F L g).reverse k)).map fun k : Nat => V.int (k : Int)))) ⟨same_new fD, upd_same⟩ (fun i H' _ q => SqL.of (q.1 _ _ ho)) ?_ ?_⟩
    · rintro i x H2 H3 hi ⟨s2, hD⟩ ⟨Tp, x1, x2, rfl, hT, rfl, e1, e2⟩
      cases e1
      rw [tl_len] at hi
      have e2 : (tl F.length (tb (sts F L g).reverse))[i]? = some x2 := e2
      rw [tl_at (by omega)] at e2
      cases e2
      have sT := same_new (o := .tup [V.int (i : Nat), V.int (tb (sts F L g).reverse i)]) hT
      have s3 := s2.trans sT
      refine ⟨Tp, _, rfl, SqT.of upd_same, rfl, _, _, rfl, _, _, rfl, rfl, ?_⟩
      have hD3 := sT _ _ hD
      have hT3 : (upd H2 Tp (.tup [V.int (i : Nat), V.int (tb (sts F L g).reverse i)])) Tp = some (.tup [V.int (i : Nat), V.int (tb (sts F L g).reverse i)]) := upd_same
      generalize upd H2 Tp (.tup [V.int (i : Nat), V.int (tb (sts F L g).reverse i)]) = H4 at sT s3 hD3 hT3 ⊢
      refine ⟨rfl, ?_⟩
      refine ⟨_, rfl, _, rfl, a, _, rfl, .inl (SqL.of (s3 _ _ (s1 _ _ ha))), _, _, rfl, rfl, _, rfl, ?_⟩
      rw [List.length_map]
      have er : List.range (i + 1) = List.range i ++ [i] := List.range_succ
      refine ite2 (fun c1 => ?_) (fun c1 => ?_)
      · have c2 := of_decide_eq_true c1
        refine ⟨_, rfl, _, hD3, ?_, fun b u e => ?_, ?_⟩
        · rw [List.length_map]
          have h1 := List.length_filter_le (fun k => decide ((F.length : Int) ≤ tb (sts F L g).reverse k)) (List.range i)
          rw [List.length_range] at h1
          exact Nat.lt_of_lt_of_le (by omega : _ < 64) (by decide)
        · rw [upd_ne (ne_of_none e fD)]
          exact s3 _ _ e
        · rw [upd_same, er, List.filter_append]
          simp [c2]
      · have c2 : ¬ (F.length : Int) ≤ tb (sts F L g).reverse i := fun z => c1 (decide_eq_true z)
        refine ⟨s3, ?_⟩
        rw [er, List.filter_append]
        simpa [c2] using hD3
    rintro H2 ⟨s2, hD⟩
    rw [tl_len] at hD
    have hD : H2 D = some (.lst (((enf (F.length : Int) F.length (tb (sts F L g).reverse)).map fun k : Nat => (k : Int)).map V.int)) := by rw [hD, List.map_map]; rfl
    refine ⟨_, rfl, _, rfl, D, _, rfl, SqL.of hD, fun e => ?_, fun n ns e => ?_⟩
    · have q := hQ H2 (s1.trans s2)
      have e0 : enf (F.length : Int) (sts F L g).length (tb (sts F L g).reverse) = [] := by
        rw [← es]
        exact List.map_eq_nil_iff.mp e
      have h0 : ¬ lac F L g ≤ 0 := fun z => by
        have h1 : (F.length : Int) ≤ (sts F L g).sum := by
          unfold lac at z
          split at z <;> omega
        have := (enf_some snn h1).2
        rw [e0] at this
        cases this
      unfold fwV at q
      rw [if_neg h0] at q
      exact q
    · have q := hQ H2 (s1.trans s2)
      have h0 : lac F L g ≤ 0 := by
        unfold lac
        split
        · have h1 : (sts F L g).sum < (F.length : Int) := by omega
          have := enf_none snn h1
          rw [← es] at this
          rw [this] at e
          cases e
        · exact Int.le_refl _
      have h1 : (F.length : Int) ≤ (sts F L g).sum := by
        unfold lac at h0
        split at h0 <;> omega
      unfold fwV at q
      rw [if_pos h0] at q
      obtain ⟨k1, k2⟩ := enf_some snn h1
      rw [← es] at k1 k2
      obtain ⟨f1, f2, f3⟩ := fmin_ok ns n
      have em : ns.foldl min n = ((cnt (F.length : Int) (dscI (sts F L g)) : Nat) : Int) := by
        have mem : ns.foldl min n ∈ n :: ns := by
          rcases f1 with z | z
          · rw [z]
            exact List.mem_cons_self
          · exact List.mem_cons_of_mem _ z
        rw [← e] at mem
        obtain ⟨k, hk, ek⟩ := List.mem_map.mp mem
        have h2 := k1 k hk
        have h3 : ((cnt (F.length : Int) (dscI (sts F L g)) : Nat) : Int) ∈ n :: ns := by
          rw [← e]
          exact List.mem_map.mpr ⟨_, k2, rfl⟩
        have h4 : ns.foldl min n ≤ ((cnt (F.length : Int) (dscI (sts F L g)) : Nat) : Int) := by
          rcases List.mem_cons.mp h3 with z | z
          · rw [z]
            exact f2
          · exact f3 _ z
        omega
      rw [em]
      exact q
end
end K16
set_option Elab.async false
set_option linter.all false
set_option maxRecDepth 100000
set_option maxHeartbeats 4000000
namespace K16
open PySem PySem.Spec PyProof.Rows L2
open C8 (Cal Mak Met pe_c pe_mk pe_mt pe_mt0)
open KW1 (dscI)
theorem find_first {α : Type} {p : α → Bool} : ∀ {l : List α} {i : Nat} {x : α}, l[i]? = some x → p x = true → (∀ (j : Nat) (y : α), j < i → l[j]? = some y → p y = false) → l.find? p = some x
  | [], i, x, h, _, _ => by simp at h
  | a :: l, 0, x, h, hp, _ => by
    have e : a = x := Option.some.inj h
    subst e
    rw [List.find?_cons, hp]
  | a :: l, i + 1, x, h, hp, hn => by
    rw [List.find?_cons, hn 0 a (Nat.succ_pos _) rfl]
    exact find_first (l := l) (i := i) h hp fun j y hj hy => hn (j + 1) y (by omega) hy
/-- who is chosen, sorted -/
noncomputable def cho (F L : List Str) (g : Str → Int) (Z : List Str) : List Str := sortS (gr (rm L g) Z (cnt (F.length : Int) (dscI (sts F L g))) (F.length : Int))
/-- the first of the sets that is enough -/
theorem first_cho {F L Z : List Str} {g : Str → Int} (fk : Fk F L g) (pm : Z.Perm F) (lc : lac F L g ≤ 0) : cnt (F.length : Int) (dscI (sts F L g)) ≤ Z.length ∧
    (rows Z.length 0 (cnt (F.length : Int) (dscI (sts F L g))) []).find? (fun I => decide ((F.length : Int) ≤ sat (rm L g) Z I)) = some (gri (rm L g) Z 0 (cnt (F.length : Int) (dscI (sts F L g))) (F.length : Int)) := by
  have nn : ∀ x, 0 ≤ rm L g x := fun x => (fk.rm0 x).1
  have pz : (Z.map (rm L g)).Perm (sts F L g) := pm.map _
  have ed : dscI (Z.map (rm L g)) = dscI (sts F L g) := dsc_eq pz
  have zl := pm.length_eq
  have hc : cnt (F.length : Int) (dscI (sts F L g)) ≤ Z.length := by
    have h1 := cnt_le (dscI (sts F L g)) (F.length : Int)
    have h2 := (dsc_perm (sts F L g)).length_eq
    have h3 : (sts F L g).length = F.length := by unfold sts; rw [List.length_map]
    omega
  have hs : (F.length : Int) ≤ (sts F L g).sum := by
    unfold lac at lc
    split at lc <;> omega
  have hb : (F.length : Int) ≤ best (cnt (F.length : Int) (dscI (sts F L g))) (Z.map (rm L g)) := by
    have := cnt_at (dscI (Z.map (rm L g))) (F.length : Int) (by rw [perm_sum (dsc_perm _), perm_sum pz]; exact hs)
    rw [ed] at this
    unfold best
    rw [ed]
    exact this
  refine ⟨hc, ?_⟩
  have h := first_rows nn Z (F.length : Int) Z 0 (cnt (F.length : Int) (dscI (sts F L g))) [] rfl hc
  rw [h]
  have e0 : sat (rm L g) Z [] = 0 := rfl
  rw [e0, Int.sub_zero, if_pos hb]
  rfl
section
variable {P : Program} {w : World} {K : PySem.W.Frag} {mg : Str → Option Value} {base : Heap} {f : Addr} {fd : FuncData}
def spDu : Sp := fun vs H Q _ => ∃ (a d wd : Addr) (F L : List Str) (g : Str → Int) (kvs : List (Key × V)) (q : Str → Int × Int), vs = [.ref a, .ref d, .ref wd] ∧ Fk F L g ∧ H a = some (.lst (F.map V.str)) ∧ H d = some (.dK (idK L g)) ∧ WD H wd kvs q ∧ Wq q ∧
  (0 < lac F L g → ∀ (t : Addr) (H' : Hp), Same H H' → H' t = some (.tup [.str "seats", .int (lac F L g)]) → Q (.ref t) H') ∧
  (lac F L g ≤ 0 → ∀ (t o : Addr) (Z : List Str) (H' : Hp), Same H H' → H' t = some (.tup [.str "told", .ref o]) → H' o = some (.lst ((cho F L g Z).map V.str)) → Z.Perm F → Z.Pairwise (IO.le (rq q)) → Q (.ref t) H')
theorem ok_du (Fd : Dn K d_l_due f fd) (b : Bl mg) (b2 : B2 mg) (cLf : Cal P w K mg base 2 "_law_fewest" spLf []) (cOr : Cal P w K mg base 1 "_law_order" spOr []) (cSs : Cal P w K mg base 1 "_law_sets" spSs []) :
    FnOk P w K mg base CX0 3 f fd ["_law_folk", "_law_rooms", "_law_worths_here"] spDu := by
  refine Fd.ok sc_l_due (fun vs H Q E h => ?_) (fun cdv A outer s H vs Q E hr h => ?_)
  · obtain ⟨_, _, _, _, _, _, _, _, rfl, _⟩ := h
    rfl
  · obtain ⟨a, d, wd, F, L, g, kvs, q, rfl, fk, ha, hd, hw, wq, hQ1, hQ2⟩ := h
    have hu := hu_of hr
    have hu64 : (A.deeper (envOfC d_l_due.qual d_l_due.scope s.heap.objs.size f cdv)).units + 64 < cLine := by have := hr.un; omega
    refine ⟨_, PSs.nox (pss_cons (ps_set (i := 3) sc_l_due.nd rfl (.inl rfl) (pe_c cLf hr (by decide) rfl (pa_cons (pv 0) (pa_cons (pv 1) pa_nil))))
      (pss_cons (ps_if (pt_cmpR op_isN1 (pv 3) pe_non (nomark _)) (pss_one (ps_ret (pe_tup (pa_cons pe_str (pa_cons (pe_op op_sub (pe_callB call_len_seq rfl b.len boot_len (pa_cons (pv 0) pa_nil)) (pe_callB (cr_sum rfl) rfl b2.sum boot_sum (pa_cons
          (pe_lc (own := [("_law_called", 7)]) (g := gName 7) (tt := tYes) rfl sc_l_due.nd (pi_list (pv 0)) (blkOk_by (N := N_l_due) (sc := defScope s_l_due) (by decide +kernel)) (fun _ _ _ _ _ => pg_name (i := 7) sc_l_due.nd rfl (Or.inl rfl)) (fun _ _ _ _ _ => pts_nil) (fun _ _ _ _ _ => pe_dget2 hu (pv 1) (pv 7) pe_int ⟨rfl, rfl, rfl, rfl⟩)) pa_nil))) pa_nil))))) pss_nil)
      (pss_cons (ps_set (i := 4) sc_l_due.nd rfl (.inr rfl) (pe_c cOr hr (by decide) rfl (pa_cons (pv 0) (pa_cons (pv 2) pa_nil))))
      (pss_cons (ps_for PassesOwn.never rfl (pi_list (pe_c cSs hr (by decide) rfl (pa_cons (pe_callB call_len_seq rfl b.len boot_len (pa_cons (pv 4) pa_nil)) (pa_cons (pv 3) pa_nil)))) (pg_name (i := 5) sc_l_due.nd rfl (.inl rfl))
        (pss_one (ps_if (pt_cmpR op_ge (pe_callB (cr_sum rfl) rfl b2.sum boot_sum (pa_cons
            (pe_lc (own := [("_law_k", 6)]) (g := gName 6) (tt := tYes) rfl sc_l_due.nd (pi_list (pv 5)) (blkOk_by (N := N_l_due) (sc := defScope s_l_due) (by decide +kernel)) (fun _ _ _ _ _ => pg_name (i := 6) sc_l_due.nd rfl (Or.inl rfl)) (fun _ _ _ _ _ => pts_nil) (fun _ _ _ _ _ => pe_dget2 hu (pv 1) (pe_ix (r := rIxL K) ix_list (pv 4) (pv 6) (fun _ _ => rfl)) pe_int ⟨rfl, rfl, rfl, rfl⟩)) pa_nil)) (pe_callB call_len_seq rfl b.len boot_len (pa_cons (pv 4) pa_nil)) (nomark _))
          (pss_one (ps_ret (pe_tup (pa_cons pe_str (pa_cons (pe_callB (cr_sortS hu64) rfl b2.srt boot_sorted (pa_cons
            (pe_lc (own := [("_law_k", 6)]) (g := gName 6) (tt := tYes) rfl sc_l_due.nd (pi_list (pv 5)) (blkOk_by (N := N_l_due) (sc := defScope s_l_due) (by decide +kernel)) (fun _ _ _ _ _ => pg_name (i := 6) sc_l_due.nd rfl (Or.inl rfl)) (fun _ _ _ _ _ => pts_nil) (fun _ _ _ _ _ => pe_ix (r := rIxL K) ix_list (pv 4) (pv 6) (fun _ _ => rfl))) pa_nil)) pa_nil))))) pss_nil)))
      (pss_one (ps_ret (pe_tup (pa_cons pe_str (pa_cons pe_non pa_nil))))))))), ?_⟩
    have l12 := fk.fl
    refine ⟨_, rfl, _, rfl, a, d, F, L, g, rfl, ha, hd, l12, fun x => (fk.rm0 x).1, fun H1 s1 => ?_⟩
    by_cases k0 : lac F L g ≤ 0
    · have e1 : fwV F L g = .int ((cnt (F.length : Int) (dscI (sts F L g)) : Nat) : Int) := if_pos k0
      rw [e1]
      refine ⟨_, rfl, rfl, _, rfl, iteF ?_⟩
      have hQ2 := hQ2 k0
      refine ⟨_, rfl, _, rfl, a, wd, F, kvs, q, rfl, s1 _ _ ha, l12, hw.same s1, wq, fun o Z H2 s2 fo ho pm pw => ?_⟩
      obtain ⟨hc, hf⟩ := first_cho fk pm k0
      obtain ⟨c, ec⟩ : ∃ c, c = cnt (F.length : Int) (dscI (sts F L g)) := ⟨_, rfl⟩
      rw [← ec] at hc hf ⊢
      have zl := pm.length_eq
      have s02 := s1.trans s2
      refine ⟨_, rfl, o, _, rfl, .inl (SqL.of ho), _, rfl, Z.length, c, (by rw [List.length_map]; rfl), hc, by omega, fun so ps H3 s3 fso rw3 er => ?_⟩
      have s03 := s02.trans s3
      have ho3 := s3 _ _ ho
      refine ⟨so, rfl, ⟨_, SqL.of rw3.1⟩, for_list (K := K) (xs := ps.map fun p => V.ref p.1) (fun i σ H' => ∃ (v5 : Option V), σ = [some (.ref a), some (.ref d), some (.ref wd), some (.int ((c : Nat) : Int)), some (.ref o), v5, none, none] ∧ Same H3 H' ∧ ∀ (j : Nat) (I : List Nat), j < i → (ps.map (·.2))[j]? = some I → decide ((F.length : Int) ≤ sat (rm L g) Z I) = false)
        ⟨_, rfl, Same.refl _, fun j I hj => absurd hj (Nat.not_lt_zero _)⟩ (fun i σ H' _ z => by obtain ⟨_, _, z, _⟩ := z; exact SqL.of (z _ _ rw3.1)) ?_ ?_⟩
      · rintro i v σ H4 hv ⟨v5, rfl, s4, hn⟩
        rw [List.getElem?_map] at hv
        obtain ⟨p, hp, rfl⟩ := Option.map_eq_some_iff.mp hv
        obtain ⟨pa, I⟩ := p
        have hpm := List.mem_of_getElem? hp
        have hI : (ps.map (·.2))[i]? = some I := by rw [List.getElem?_map, hp]; rfl
        have hIr : I ∈ rows Z.length 0 c [] := by rw [← er]; exact List.mem_of_getElem? hI
        obtain ⟨il, ib⟩ := rows_mem Z.length 0 c [] I hIr (fun k hk => nomatch hk)
        have hat : ∀ {j k : Nat}, I[j]? = some k → atI (Z.map V.str) ((k : Nat) : Int) = some (.str (Z.getD k "")) := fun {j k} hj => by
          have hk := ib k (List.mem_of_getElem? hj)
          refine atI_nat ?_
          rw [List.getElem?_map, List.getD_eq_getElem?_getD, List.getElem?_eq_getElem (by omega : k < Z.length)]
          rfl
        have s4' := s03.trans s4
        refine ⟨_, rfl, pa, rfl, ⟨_, SqL.of (s4 _ _ (rw3.2 _ hpm))⟩, fun E2 hE2 => lc_list (K := K) (xs := nV I) (fun j H' => Same H4 H' ∧ H' E2 = some (.lst (((I.take j).map fun k => rm L g (Z.getD k "")).map V.int))) ⟨same_new hE2, upd_same⟩ (fun j H' _ z => SqL.of (z.1 _ _ (s4 _ _ (rw3.2 _ hpm)))) ?_ ?_⟩
        · rintro j v H5 hv ⟨s5, hE5⟩
          rw [List.getElem?_map] at hv
          obtain ⟨k, hk, rfl⟩ := Option.map_eq_some_iff.mp hv
          have jl := (List.getElem?_eq_some_iff.mp hk).1
          obtain ⟨ov, h1, h2⟩ := id_rm (s5 _ _ (s4' _ _ hd)) (Z.getD k "")
          refine ⟨rfl, ?_⟩
          refine ⟨_, rfl, d, rfl, .inl ⟨_, .inl (s5 _ _ (s4' _ _ hd))⟩, _, rfl, _, rfl, o, _, _, _, rfl, rfl, SqL.of (s5 _ _ (s4 _ _ ho3)), hat hk, ov, h1, ?_⟩
          rw [h2]
          refine ⟨_, hE5, ?_, fun b u e => ?_, ?_⟩
          · rw [List.length_map, List.length_map, List.length_take]
            have : I.length = 0 + c := il
            exact line_lt (by omega)
          · rw [upd_ne (ne_of_none e hE2)]
            exact s5 _ _ e
          · rw [upd_same, List.take_succ, hk]
            simp
        rintro H5 ⟨s5, hE5⟩
        rw [List.length_map, List.take_of_length_le (Nat.le_refl _)] at hE5
        refine ⟨E2, _, rfl, SqL.of hE5, _, rfl, o, _, rfl, .inl (SqL.of (s5 _ _ (s4 _ _ ho3))), _, _, rfl, rfl, _, rfl, ?_⟩
        have eg : decide ((((Z.map V.str).length : Nat) : Int) ≤ (I.map fun k => rm L g (Z.getD k "")).sum) = decide ((F.length : Int) ≤ sat (rm L g) Z I) := by
          rw [List.length_map, zl]
          rfl
        have s45 := s4.trans s5
        refine ite2 (fun c1 => ?_) (fun c1 => ?_)
        · have hp1 : decide ((F.length : Int) ≤ sat (rm L g) Z I) = true := by rw [← eg]; exact c1
          have hfi := find_first (p := fun I => decide ((F.length : Int) ≤ sat (rm L g) Z I)) hI hp1 hn
          rw [er, hf] at hfi
          have eI := Option.some.inj hfi
          refine ⟨_, rfl, pa, rfl, ⟨_, SqL.of (s45 _ _ (rw3.2 _ hpm))⟩, fun E3 hE3 => lc_list (K := K) (xs := nV I) (fun j H' => Same H5 H' ∧ H' E3 = some (.lst (((I.take j).map fun k => Z.getD k "").map V.str))) ⟨same_new hE3, upd_same⟩ (fun j H' _ z => SqL.of (z.1 _ _ (s45 _ _ (rw3.2 _ hpm)))) ?_ ?_⟩
          · rintro j v H6 hv ⟨s6, hE6⟩
            rw [List.getElem?_map] at hv
            obtain ⟨k, hk, rfl⟩ := Option.map_eq_some_iff.mp hv
            refine ⟨rfl, ?_⟩
            refine ⟨_, rfl, _, rfl, o, _, _, _, rfl, rfl, SqL.of (s6 _ _ (s45 _ _ ho3)), hat hk, _, hE6, ?_, fun b u e => ?_, ?_⟩
            · rw [List.length_map, List.length_map, List.length_take]
              have : I.length = 0 + c := il
              exact line_lt (by omega)
            · rw [upd_ne (ne_of_none e hE3)]
              exact s6 _ _ e
            · rw [upd_same, List.take_succ, hk]
              simp
          rintro H6 ⟨s6, hE6⟩
          rw [List.length_map, List.take_of_length_le (Nat.le_refl _)] at hE6
          refine ⟨E3, _, rfl, .inl (SqL.of hE6), fun sp fsp => ⟨by show 2 ≤ sizeLine; decide, fun t ft => ?_⟩⟩
          have ss := same_new (o := .lst ((sortS (I.map fun k => Z.getD k "")).map V.str)) fsp
          have stt := same_new (o := .tup [.str "told", .ref sp]) ft
          refine hQ2 t sp Z _ (((s03.trans s45).trans s6).trans (ss.trans stt)) upd_same ?_ pm pw
          rw [stt _ _ upd_same]
          have e9 := gri_at (s := rm L g) Z Z 0 c (F.length : Int) rfl
          unfold cho
          rw [← ec, ← e9, eI]
        · refine ⟨_, rfl, s45, fun j J hj hJ => ?_⟩
          rcases Nat.lt_or_ge j i with q | q
          · exact hn j J q hJ
          · have : j = i := by omega
            subst this
            rw [hI] at hJ
            cases hJ
            rw [← eg]
            exact Bool.eq_false_iff.mpr c1
      · rintro σ H4 ⟨v5, rfl, s4, hn⟩
        exfalso
        rw [List.length_map] at hn
        obtain ⟨j, hj⟩ := List.mem_iff_getElem?.mp (List.mem_of_find?_eq_some hf)
        have hp := List.find?_some hf
        rw [← er] at hj
        have jl := (List.getElem?_eq_some_iff.mp hj).1
        rw [List.length_map] at jl
        have := hn j _ jl hj
        rw [hp] at this
        exact nomatch this
    · have e1 : fwV F L g = .non := if_neg k0
      rw [e1]
      refine ⟨_, rfl, rfl, _, rfl, iteT ?_⟩
      refine ⟨_, rfl, a, _, rfl, .inl (SqL.of (s1 _ _ ha)), _, rfl, a, rfl, ⟨_, SqL.of (s1 _ _ ha)⟩, fun o fo => lc_list (K := K) (xs := F.map V.str) (fun i H' => Same H1 H' ∧ H' o = some (.lst (((F.take i).map fun x => rm L g x).map V.int))) ⟨same_new fo, upd_same⟩ (fun i H' _ q => SqL.of (q.1 _ _ (s1 _ _ ha))) ?_ ?_⟩
      · rintro i v H' hv ⟨s2, ho⟩
        obtain ⟨x, hx, rfl⟩ := strs_at hv
        have il : i < F.length := (List.getElem?_eq_some_iff.mp hx).1
        obtain ⟨ov, h1, h2⟩ := id_rm (s2 _ _ (s1 _ _ hd)) x
        refine ⟨rfl, ?_⟩
        refine ⟨_, rfl, d, rfl, .inl ⟨_, .inl (s2 _ _ (s1 _ _ hd))⟩, _, rfl, ov, h1, ?_⟩
        rw [h2]
        refine ⟨_, ho, ?_, fun b u e => ?_, ?_⟩
        · rw [List.length_map, List.length_map, List.length_take]
          exact Nat.lt_of_lt_of_le (by omega : min i F.length < 64) (by decide)
        · rw [upd_ne (ne_of_none e fo)]
          exact s2 _ _ e
        · rw [upd_same, List.take_succ, hx]
          simp
      rintro H7 ⟨s7, ho⟩
      rw [List.length_map, List.take_of_length_le (Nat.le_refl _)] at ho
      have s07 := s1.trans s7
      refine ⟨o, _, rfl, SqL.of ho, _, _, rfl, rfl, ?_⟩
      have elac : (((F.map V.str).length : Nat) : Int) - (F.map fun x => rm L g x).sum = lac F L g := by
        rw [List.length_map]
        unfold lac sts at k0 ⊢
        split
        · rfl
        · rename_i z
          rw [if_neg z] at k0
          exact absurd (Int.le_refl 0) k0
      refine ⟨by show 2 ≤ sizeLine; decide, fun t ft => hQ1 (by omega) t _ (s07.trans (same_new ft)) ?_⟩
      rw [upd_same, ← elac]
end
end K16
set_option Elab.async false
set_option linter.all false
set_option maxRecDepth 100000
set_option maxHeartbeats 4000000
/-! EQD: a dict beside things of other kinds: never equal; x in a list or tuple of any things, == and != of lists of any things. -/
namespace EQD
open PySem PySem.Spec PyProof.Rows L2
open PySem.SeqAt
abbrev dO (es : Array DictEntry) (ep : Nat) (dd : Option Addr) (sl : Array (Option Value)) : Obj := { cls := .type "dict", dict := dd, data := .dict es ep, slots := sl }

theorem dict_declines_none (l : Addr) (es : Array DictEntry) (ep : Nat) (dd : Option Addr) (sl : Array (Option Value))  :
    Meets (Builtin.«dict.__eq__» ⟨[.ref l, .none], []⟩) (fun _ R s => s.heap.get? l = some (dO es ep dd sl) ∧ R (.ok (.ret .notImplemented)) s) :=
  .of_wp fun prog w A R s h => by obtain ⟨hp, g, d, tk, os⟩ := s; obtain ⟨hl, h⟩ := h; have f1 := F.sub_NoneType_dict; wp_walk using wpAny_loadPart' hl; exact ⟨_, rfl, h⟩
theorem dict_declines_bool (l : Addr) (es : Array DictEntry) (ep : Nat) (dd : Option Addr) (sl : Array (Option Value)) (b : Bool) :
    Meets (Builtin.«dict.__eq__» ⟨[.ref l, .bool b], []⟩) (fun _ R s => s.heap.get? l = some (dO es ep dd sl) ∧ R (.ok (.ret .notImplemented)) s) :=
  .of_wp fun prog w A R s h => by obtain ⟨hp, g, d, tk, os⟩ := s; obtain ⟨hl, h⟩ := h; have f1 := F.sub_bool_dict; wp_walk using wpAny_loadPart' hl; exact ⟨_, rfl, h⟩
theorem dict_declines_int (l : Addr) (es : Array DictEntry) (ep : Nat) (dd : Option Addr) (sl : Array (Option Value)) (b : Int) (u : Tok) :
    Meets (Builtin.«dict.__eq__» ⟨[.ref l, .int b u], []⟩) (fun _ R s => s.heap.get? l = some (dO es ep dd sl) ∧ R (.ok (.ret .notImplemented)) s) :=
  .of_wp fun prog w A R s h => by obtain ⟨hp, g, d, tk, os⟩ := s; obtain ⟨hl, h⟩ := h; have f1 := F.sub_int_dict; wp_walk using wpAny_loadPart' hl; exact ⟨_, rfl, h⟩
theorem dict_declines_str (l : Addr) (es : Array DictEntry) (ep : Nat) (dd : Option Addr) (sl : Array (Option Value)) (b : Str) (u : Tok) :
    Meets (Builtin.«dict.__eq__» ⟨[.ref l, .str b u], []⟩) (fun _ R s => s.heap.get? l = some (dO es ep dd sl) ∧ R (.ok (.ret .notImplemented)) s) :=
  .of_wp fun prog w A R s h => by obtain ⟨hp, g, d, tk, os⟩ := s; obtain ⟨hl, h⟩ := h; have f1 := F.sub_str_dict; wp_walk using wpAny_loadPart' hl; exact ⟨_, rfl, h⟩
theorem bool_declines_dict (l : Addr) (es : Array DictEntry) (ep : Nat) (dd : Option Addr) (sl : Array (Option Value)) (b : Bool) :
    Meets (Builtin.«int.__eq__» ⟨[.bool b, .ref l], []⟩) (fun _ R s => s.heap.get? l = some (dO es ep dd sl) ∧ R (.ok (.ret .notImplemented)) s) :=
  .of_wp fun prog w A R s h => by obtain ⟨hp, g, d, tk, os⟩ := s; obtain ⟨hl, h⟩ := h; wp_walk using wpAny_loadPart' hl, wpAny_load hl; exact ⟨_, rfl, h⟩
theorem int_declines_dict (l : Addr) (es : Array DictEntry) (ep : Nat) (dd : Option Addr) (sl : Array (Option Value)) (b : Int) (u : Tok) :
    Meets (Builtin.«int.__eq__» ⟨[.int b u, .ref l], []⟩) (fun _ R s => s.heap.get? l = some (dO es ep dd sl) ∧ R (.ok (.ret .notImplemented)) s) :=
  .of_wp fun prog w A R s h => by obtain ⟨hp, g, d, tk, os⟩ := s; obtain ⟨hl, h⟩ := h; wp_walk using wpAny_loadPart' hl, wpAny_load hl; exact ⟨_, rfl, h⟩
theorem str_declines_dict (l : Addr) (es : Array DictEntry) (ep : Nat) (dd : Option Addr) (sl : Array (Option Value)) (b : Str) (u : Tok) :
    Meets (Builtin.«str.__eq__» ⟨[.str b u, .ref l], []⟩) (fun _ R s => s.heap.get? l = some (dO es ep dd sl) ∧ R (.ok (.ret .notImplemented)) s) :=
  .of_wp fun prog w A R s h => by obtain ⟨hp, g, d, tk, os⟩ := s; obtain ⟨hl, h⟩ := h; wp_walk using wpAny_loadPart' hl, wpAny_load hl; exact ⟨_, rfl, h⟩
theorem dict_declines_list (l b : Addr) (es : Array DictEntry) (ep : Nat) (dd dd2 : Option Addr) (sl sl2 : Array (Option Value)) (items : Array Value) (n : Nat) :
    Meets (Builtin.«dict.__eq__» ⟨[.ref l, .ref b], []⟩) (fun _ R s => s.heap.get? l = some (dO es ep dd sl) ∧ s.heap.get? b = some { cls := .type "list", dict := dd2, data := .seq items n, slots := sl2 } ∧ R (.ok (.ret .notImplemented)) s) :=
  .of_wp fun prog w A R s h => by obtain ⟨hp, g, d, tk, os⟩ := s; obtain ⟨hl, hb, h⟩ := h; have f1 := F.sub_list_dict; wp_walk using wpAny_loadPart' hl, wpAny_loadPart' hb; exact ⟨_, rfl, h⟩
theorem list_declines_dict (l b : Addr) (es : Array DictEntry) (ep : Nat) (dd dd2 : Option Addr) (sl sl2 : Array (Option Value)) (items : Array Value) (n : Nat) :
    Meets (Builtin.«list.__eq__» ⟨[.ref b, .ref l], []⟩) (fun _ R s => s.heap.get? l = some (dO es ep dd sl) ∧ s.heap.get? b = some { cls := .type "list", dict := dd2, data := .seq items n, slots := sl2 } ∧ R (.ok (.ret .notImplemented)) s) :=
  .of_wp fun prog w A R s h => by obtain ⟨hp, g, d, tk, os⟩ := s; obtain ⟨hl, hb, h⟩ := h; have f1 := F.sub_dict_list; wp_walk using wpAny_loadPart' hl, wpAny_loadPart' hb; exact ⟨_, rfl, h⟩
theorem dict_declines_tuple (l b : Addr) (es : Array DictEntry) (ep : Nat) (dd dd2 : Option Addr) (sl sl2 : Array (Option Value)) (items : Array Value) (n : Nat) :
    Meets (Builtin.«dict.__eq__» ⟨[.ref l, .ref b], []⟩) (fun _ R s => s.heap.get? l = some (dO es ep dd sl) ∧ s.heap.get? b = some { cls := .type "tuple", dict := dd2, data := .seq items n, slots := sl2 } ∧ R (.ok (.ret .notImplemented)) s) :=
  .of_wp fun prog w A R s h => by obtain ⟨hp, g, d, tk, os⟩ := s; obtain ⟨hl, hb, h⟩ := h; have f1 := F.sub_tuple_dict; wp_walk using wpAny_loadPart' hl, wpAny_loadPart' hb; exact ⟨_, rfl, h⟩
theorem tuple_declines_dict (l b : Addr) (es : Array DictEntry) (ep : Nat) (dd dd2 : Option Addr) (sl sl2 : Array (Option Value)) (items : Array Value) (n : Nat) :
    Meets (Builtin.«tuple.__eq__» ⟨[.ref b, .ref l], []⟩) (fun _ R s => s.heap.get? l = some (dO es ep dd sl) ∧ s.heap.get? b = some { cls := .type "tuple", dict := dd2, data := .seq items n, slots := sl2 } ∧ R (.ok (.ret .notImplemented)) s) :=
  .of_wp fun prog w A R s h => by obtain ⟨hp, g, d, tk, os⟩ := s; obtain ⟨hl, hb, h⟩ := h; have f1 := F.sub_dict_tuple; wp_walk using wpAny_loadPart' hl, wpAny_loadPart' hb; exact ⟨_, rfl, h⟩
/-- a dict stands at l -/
def IsDct (h : Heap) (l : Addr) : Prop := ∃ (o : Obj) (es : Array DictEntry) (ep : Nat), h.get? l = some o ∧ o.cls = .type "dict" ∧ o.data = .dict es ep
section
variable {A : Around} {s : Shared}
theorem RcAt_dict_none {l : Addr}  (hl : IsDct s.heap l) (hu : A.units < cLine) : RcAt A s (.ref l) .none false := fun prog w E Q h => by
  obtain ⟨⟨cls, dd, data, sl⟩, es, ep, ho, hc, hd⟩ := id hl
  simp only at hc hd
  subst hc hd
  exact rc_eq_decline_or (k := false) ⟨_, ho, rfl⟩ rfl (by decide) F.sub_NoneType_dict F.slot_dict_eq F.slot_NoneType_eq_refl
    (fun _ hq => call_meets F.slot_dict_eq ⟨_, ho, rfl⟩ F.entry_dict_eq (F.args_dict_eq_2 _ _) (dict_declines_none l es ep dd sl ) ⟨ho, hq⟩)
    (fun _ hq => call_gives F.slot_NoneType_eq_refl rfl F.entry_NoneType_eq (F.args_NoneType_eq_2 _ _) (NoneType___eq___none_ref_0 l) hq)
    (fun _ hq => wpAny_of_eq (rfl : isSame (.ref l) .none = pure false) hq) (.inr hu) h
theorem RcAt_none_dict {l : Addr}  (hl : IsDct s.heap l) (hu : A.units < cLine) : RcAt A s .none (.ref l) false := fun prog w E Q h => by
  obtain ⟨⟨cls, dd, data, sl⟩, es, ep, ho, hc, hd⟩ := id hl
  simp only at hc hd
  subst hc hd
  exact rc_eq_decline_or (k := false) rfl ⟨_, ho, rfl⟩ (by decide) F.sub_dict_NoneType F.slot_NoneType_eq F.slot_dict_eq_refl
    (fun _ hq => call_gives F.slot_NoneType_eq rfl F.entry_NoneType_eq (F.args_NoneType_eq_2 _ _) (NoneType___eq___none_ref_0 l) hq)
    (fun _ hq => call_meets F.slot_dict_eq_refl ⟨_, ho, rfl⟩ F.entry_dict_eq (F.args_dict_eq_2 _ _) (dict_declines_none l es ep dd sl ) ⟨ho, hq⟩)
    (fun _ hq => wpAny_of_eq (rfl : isSame .none (.ref l) = pure false) hq) (.inr hu) h
theorem EqAt_dict_none {l : Addr}  (hl : IsDct s.heap l) (hu : A.units < cLine) : EqAt A s (.ref l) .none false := fun prog w E Q h => by
  unfold eqBool
  refine wpAny_holding ?_
  refine wpAny_ite_split (fun hab => absurd (eq_of_beq hab) nofun) (fun _ => ?_)
  exact wpAny_bind (RcAt_dict_none  hl hu prog w E _ (wpAny_truthy_bool h))
theorem EqAt_none_dict {l : Addr}  (hl : IsDct s.heap l) (hu : A.units < cLine) : EqAt A s .none (.ref l) false := fun prog w E Q h => by
  unfold eqBool
  refine wpAny_holding ?_
  refine wpAny_ite_split (fun hab => absurd (eq_of_beq hab) nofun) (fun _ => ?_)
  exact wpAny_bind (RcAt_none_dict  hl hu prog w E _ (wpAny_truthy_bool h))
theorem RcAt_dict_bool {l : Addr} (b : Bool) (hl : IsDct s.heap l) (hu : A.units < cLine) : RcAt A s (.ref l) (.bool b) false := fun prog w E Q h => by
  obtain ⟨⟨cls, dd, data, sl⟩, es, ep, ho, hc, hd⟩ := id hl
  simp only at hc hd
  subst hc hd
  exact rc_eq_decline_or (k := false) ⟨_, ho, rfl⟩ rfl (by decide) F.sub_bool_dict F.slot_dict_eq F.slot_bool_eq_refl
    (fun _ hq => call_meets F.slot_dict_eq ⟨_, ho, rfl⟩ F.entry_dict_eq (F.args_dict_eq_2 _ _) (dict_declines_bool l es ep dd sl b) ⟨ho, hq⟩)
    (fun _ hq => call_meets F.slot_bool_eq_refl rfl F.entry_int_eq (F.args_int_eq_2 _ _) (bool_declines_dict l es ep dd sl b) ⟨ho, hq⟩)
    (fun _ hq => wpAny_of_eq (rfl : isSame (.ref l) (.bool b) = pure false) hq) (.inr hu) h
theorem RcAt_bool_dict {l : Addr} (b : Bool) (hl : IsDct s.heap l) (hu : A.units < cLine) : RcAt A s (.bool b) (.ref l) false := fun prog w E Q h => by
  obtain ⟨⟨cls, dd, data, sl⟩, es, ep, ho, hc, hd⟩ := id hl
  simp only at hc hd
  subst hc hd
  exact rc_eq_decline_or (k := false) rfl ⟨_, ho, rfl⟩ (by decide) F.sub_dict_bool F.slot_bool_eq F.slot_dict_eq_refl
    (fun _ hq => call_meets F.slot_bool_eq rfl F.entry_int_eq (F.args_int_eq_2 _ _) (bool_declines_dict l es ep dd sl b) ⟨ho, hq⟩)
    (fun _ hq => call_meets F.slot_dict_eq_refl ⟨_, ho, rfl⟩ F.entry_dict_eq (F.args_dict_eq_2 _ _) (dict_declines_bool l es ep dd sl b) ⟨ho, hq⟩)
    (fun _ hq => wpAny_of_eq (rfl : isSame (.bool b) (.ref l) = pure false) hq) (.inr hu) h
theorem EqAt_dict_bool {l : Addr} (b : Bool) (hl : IsDct s.heap l) (hu : A.units < cLine) : EqAt A s (.ref l) (.bool b) false := fun prog w E Q h => by
  unfold eqBool
  refine wpAny_holding ?_
  refine wpAny_ite_split (fun hab => absurd (eq_of_beq hab) nofun) (fun _ => ?_)
  exact wpAny_bind (RcAt_dict_bool b hl hu prog w E _ (wpAny_truthy_bool h))
theorem EqAt_bool_dict {l : Addr} (b : Bool) (hl : IsDct s.heap l) (hu : A.units < cLine) : EqAt A s (.bool b) (.ref l) false := fun prog w E Q h => by
  unfold eqBool
  refine wpAny_holding ?_
  refine wpAny_ite_split (fun hab => absurd (eq_of_beq hab) nofun) (fun _ => ?_)
  exact wpAny_bind (RcAt_bool_dict b hl hu prog w E _ (wpAny_truthy_bool h))
theorem RcAt_dict_int {l : Addr} (b : Int) (u : Tok) (hl : IsDct s.heap l) (hu : A.units < cLine) : RcAt A s (.ref l) (.int b u) false := fun prog w E Q h => by
  obtain ⟨⟨cls, dd, data, sl⟩, es, ep, ho, hc, hd⟩ := id hl
  simp only at hc hd
  subst hc hd
  exact rc_eq_decline_or (k := false) ⟨_, ho, rfl⟩ (typeIs_int s b u) (by decide) F.sub_int_dict F.slot_dict_eq F.slot_int_eq_refl
    (fun _ hq => call_meets F.slot_dict_eq ⟨_, ho, rfl⟩ F.entry_dict_eq (F.args_dict_eq_2 _ _) (dict_declines_int l es ep dd sl b u) ⟨ho, hq⟩)
    (fun _ hq => call_meets F.slot_int_eq_refl (typeIs_int s b u) F.entry_int_eq (F.args_int_eq_2 _ _) (int_declines_dict l es ep dd sl b u) ⟨ho, hq⟩)
    (fun _ hq => wpAny_of_eq (rfl : isSame (.ref l) (.int b u) = pure false) hq) (.inr hu) h
theorem RcAt_int_dict {l : Addr} (b : Int) (u : Tok) (hl : IsDct s.heap l) (hu : A.units < cLine) : RcAt A s (.int b u) (.ref l) false := fun prog w E Q h => by
  obtain ⟨⟨cls, dd, data, sl⟩, es, ep, ho, hc, hd⟩ := id hl
  simp only at hc hd
  subst hc hd
  exact rc_eq_decline_or (k := false) (typeIs_int s b u) ⟨_, ho, rfl⟩ (by decide) F.sub_dict_int F.slot_int_eq F.slot_dict_eq_refl
    (fun _ hq => call_meets F.slot_int_eq (typeIs_int s b u) F.entry_int_eq (F.args_int_eq_2 _ _) (int_declines_dict l es ep dd sl b u) ⟨ho, hq⟩)
    (fun _ hq => call_meets F.slot_dict_eq_refl ⟨_, ho, rfl⟩ F.entry_dict_eq (F.args_dict_eq_2 _ _) (dict_declines_int l es ep dd sl b u) ⟨ho, hq⟩)
    (fun _ hq => wpAny_of_eq (rfl : isSame (.int b u) (.ref l) = pure false) hq) (.inr hu) h
theorem EqAt_dict_int {l : Addr} (b : Int) (u : Tok) (hl : IsDct s.heap l) (hu : A.units < cLine) : EqAt A s (.ref l) (.int b u) false := fun prog w E Q h => by
  unfold eqBool
  refine wpAny_holding ?_
  refine wpAny_ite_split (fun hab => absurd (eq_of_beq hab) nofun) (fun _ => ?_)
  exact wpAny_bind (RcAt_dict_int b u hl hu prog w E _ (wpAny_truthy_bool h))
theorem EqAt_int_dict {l : Addr} (b : Int) (u : Tok) (hl : IsDct s.heap l) (hu : A.units < cLine) : EqAt A s (.int b u) (.ref l) false := fun prog w E Q h => by
  unfold eqBool
  refine wpAny_holding ?_
  refine wpAny_ite_split (fun hab => absurd (eq_of_beq hab) nofun) (fun _ => ?_)
  exact wpAny_bind (RcAt_int_dict b u hl hu prog w E _ (wpAny_truthy_bool h))
theorem RcAt_dict_str {l : Addr} (b : Str) (u : Tok) (hl : IsDct s.heap l) (hu : A.units < cLine) : RcAt A s (.ref l) (.str b u) false := fun prog w E Q h => by
  obtain ⟨⟨cls, dd, data, sl⟩, es, ep, ho, hc, hd⟩ := id hl
  simp only at hc hd
  subst hc hd
  exact rc_eq_decline_or (k := false) ⟨_, ho, rfl⟩ (typeIs_str s b u) (by decide) F.sub_str_dict F.slot_dict_eq F.slot_str_eq_refl
    (fun _ hq => call_meets F.slot_dict_eq ⟨_, ho, rfl⟩ F.entry_dict_eq (F.args_dict_eq_2 _ _) (dict_declines_str l es ep dd sl b u) ⟨ho, hq⟩)
    (fun _ hq => call_meets F.slot_str_eq_refl (typeIs_str s b u) F.entry_str_eq (F.args_str_eq_2 _ _) (str_declines_dict l es ep dd sl b u) ⟨ho, hq⟩)
    (fun _ hq => wpAny_of_eq (rfl : isSame (.ref l) (.str b u) = pure false) hq) (.inr hu) h
theorem RcAt_str_dict {l : Addr} (b : Str) (u : Tok) (hl : IsDct s.heap l) (hu : A.units < cLine) : RcAt A s (.str b u) (.ref l) false := fun prog w E Q h => by
  obtain ⟨⟨cls, dd, data, sl⟩, es, ep, ho, hc, hd⟩ := id hl
  simp only at hc hd
  subst hc hd
  exact rc_eq_decline_or (k := false) (typeIs_str s b u) ⟨_, ho, rfl⟩ (by decide) F.sub_dict_str F.slot_str_eq F.slot_dict_eq_refl
    (fun _ hq => call_meets F.slot_str_eq (typeIs_str s b u) F.entry_str_eq (F.args_str_eq_2 _ _) (str_declines_dict l es ep dd sl b u) ⟨ho, hq⟩)
    (fun _ hq => call_meets F.slot_dict_eq_refl ⟨_, ho, rfl⟩ F.entry_dict_eq (F.args_dict_eq_2 _ _) (dict_declines_str l es ep dd sl b u) ⟨ho, hq⟩)
    (fun _ hq => wpAny_of_eq (rfl : isSame (.str b u) (.ref l) = pure false) hq) (.inr hu) h
theorem EqAt_dict_str {l : Addr} (b : Str) (u : Tok) (hl : IsDct s.heap l) (hu : A.units < cLine) : EqAt A s (.ref l) (.str b u) false := fun prog w E Q h => by
  unfold eqBool
  refine wpAny_holding ?_
  refine wpAny_ite_split (fun hab => absurd (eq_of_beq hab) nofun) (fun _ => ?_)
  exact wpAny_bind (RcAt_dict_str b u hl hu prog w E _ (wpAny_truthy_bool h))
theorem EqAt_str_dict {l : Addr} (b : Str) (u : Tok) (hl : IsDct s.heap l) (hu : A.units < cLine) : EqAt A s (.str b u) (.ref l) false := fun prog w E Q h => by
  unfold eqBool
  refine wpAny_holding ?_
  refine wpAny_ite_split (fun hab => absurd (eq_of_beq hab) nofun) (fun _ => ?_)
  exact wpAny_bind (RcAt_str_dict b u hl hu prog w E _ (wpAny_truthy_bool h))
theorem ne_dict_list {l b : Addr} {items : Array Value} (hl : IsDct s.heap l) (hb : s.heap.IsList b items) : l ≠ b := fun e => by
  subst e
  obtain ⟨o, _, _, ho, hc, _⟩ := hl
  obtain ⟨o2, ho2, hc2, _⟩ := hb
  rw [ho] at ho2
  cases ho2
  rw [hc] at hc2
  exact absurd hc2 (by simp)
theorem RcAt_dict_list {l b : Addr} {items : Array Value} (hl : IsDct s.heap l) (hb : s.heap.IsList b items) (hu : A.units < cLine) : RcAt A s (.ref l) (.ref b) false := fun prog w E Q h => by
  have hne := ne_dict_list hl hb
  obtain ⟨⟨cls, dd, data, sl⟩, es, ep, ho, hc, hd⟩ := id hl
  obtain ⟨⟨cls2, dd2, data2, sl2⟩, ho2, hc2, n2, hd2⟩ := id hb
  simp only at hc hd hc2 hd2
  subst hc hd hc2 hd2
  exact (rc_eq_decline_or (k := false) ⟨_, ho, rfl⟩ ⟨_, ho2, rfl⟩ (by decide) F.sub_list_dict F.slot_dict_eq F.slot_list_eq_refl
    (fun _ hq => call_meets F.slot_dict_eq ⟨_, ho, rfl⟩ F.entry_dict_eq (F.args_dict_eq_2 _ _) (dict_declines_list l b es ep dd dd2 sl sl2 items n2) ⟨ho, ho2, hq⟩)
    (fun _ hq => call_meets F.slot_list_eq_refl ⟨_, ho2, rfl⟩ F.entry_list_eq (F.args_list_eq_2 _ _) (list_declines_dict l b es ep dd dd2 sl sl2 items n2) ⟨ho, ho2, hq⟩)
    (fun _ hq => wpAny_isSame_ref_other hne ho ho2 (by simp) hq) (.inr hu) h)
theorem RcAt_list_dict {l b : Addr} {items : Array Value} (hl : IsDct s.heap l) (hb : s.heap.IsList b items) (hu : A.units < cLine) : RcAt A s (.ref b) (.ref l) false := fun prog w E Q h => by
  have hne := (ne_dict_list hl hb).symm
  obtain ⟨⟨cls, dd, data, sl⟩, es, ep, ho, hc, hd⟩ := id hl
  obtain ⟨⟨cls2, dd2, data2, sl2⟩, ho2, hc2, n2, hd2⟩ := id hb
  simp only at hc hd hc2 hd2
  subst hc hd hc2 hd2
  exact (rc_eq_decline_or (k := false) ⟨_, ho2, rfl⟩ ⟨_, ho, rfl⟩ (by decide) F.sub_dict_list F.slot_list_eq F.slot_dict_eq_refl
    (fun _ hq => call_meets F.slot_list_eq ⟨_, ho2, rfl⟩ F.entry_list_eq (F.args_list_eq_2 _ _) (list_declines_dict l b es ep dd dd2 sl sl2 items n2) ⟨ho, ho2, hq⟩)
    (fun _ hq => call_meets F.slot_dict_eq_refl ⟨_, ho, rfl⟩ F.entry_dict_eq (F.args_dict_eq_2 _ _) (dict_declines_list l b es ep dd dd2 sl sl2 items n2) ⟨ho, ho2, hq⟩)
    (fun _ hq => wpAny_isSame_ref_other' hne ho2 ho (by simp) hq) (.inr hu) h)
theorem EqAt_dict_list {l b : Addr} {items : Array Value} (hl : IsDct s.heap l) (hb : s.heap.IsList b items) (hu : A.units < cLine) : EqAt A s (.ref l) (.ref b) false := .of_refs (ne_dict_list hl hb) (RcAt_dict_list hl hb hu)
theorem EqAt_list_dict {l b : Addr} {items : Array Value} (hl : IsDct s.heap l) (hb : s.heap.IsList b items) (hu : A.units < cLine) : EqAt A s (.ref b) (.ref l) false := .of_refs (ne_dict_list hl hb).symm (RcAt_list_dict hl hb hu)
theorem ne_dict_tuple {l b : Addr} {items : Array Value} (hl : IsDct s.heap l) (hb : s.heap.IsTuple b items) : l ≠ b := fun e => by
  subst e
  obtain ⟨o, _, _, ho, hc, _⟩ := hl
  obtain ⟨o2, ho2, hc2, _⟩ := hb
  rw [ho] at ho2
  cases ho2
  rw [hc] at hc2
  exact absurd hc2 (by simp)
theorem RcAt_dict_tuple {l b : Addr} {items : Array Value} (hl : IsDct s.heap l) (hb : s.heap.IsTuple b items) (hu : A.units < cLine) : RcAt A s (.ref l) (.ref b) false := fun prog w E Q h => by
  have hne := ne_dict_tuple hl hb
  obtain ⟨⟨cls, dd, data, sl⟩, es, ep, ho, hc, hd⟩ := id hl
  obtain ⟨⟨cls2, dd2, data2, sl2⟩, ho2, hc2, n2, hd2⟩ := id hb
  simp only at hc hd hc2 hd2
  subst hc hd hc2 hd2
  exact (rc_eq_decline_or (k := false) ⟨_, ho, rfl⟩ ⟨_, ho2, rfl⟩ (by decide) F.sub_tuple_dict F.slot_dict_eq F.slot_tuple_eq_refl
    (fun _ hq => call_meets F.slot_dict_eq ⟨_, ho, rfl⟩ F.entry_dict_eq (F.args_dict_eq_2 _ _) (dict_declines_tuple l b es ep dd dd2 sl sl2 items n2) ⟨ho, ho2, hq⟩)
    (fun _ hq => call_meets F.slot_tuple_eq_refl ⟨_, ho2, rfl⟩ F.entry_tuple_eq (F.args_tuple_eq_2 _ _) (tuple_declines_dict l b es ep dd dd2 sl sl2 items n2) ⟨ho, ho2, hq⟩)
    (fun _ hq => wpAny_isSame_ref_other hne ho ho2 (by simp) hq) (.inr hu) h)
theorem RcAt_tuple_dict {l b : Addr} {items : Array Value} (hl : IsDct s.heap l) (hb : s.heap.IsTuple b items) (hu : A.units < cLine) : RcAt A s (.ref b) (.ref l) false := fun prog w E Q h => by
  have hne := (ne_dict_tuple hl hb).symm
  obtain ⟨⟨cls, dd, data, sl⟩, es, ep, ho, hc, hd⟩ := id hl
  obtain ⟨⟨cls2, dd2, data2, sl2⟩, ho2, hc2, n2, hd2⟩ := id hb
  simp only at hc hd hc2 hd2
  subst hc hd hc2 hd2
  exact (rc_eq_decline_or (k := false) ⟨_, ho2, rfl⟩ ⟨_, ho, rfl⟩ (by decide) F.sub_dict_tuple F.slot_tuple_eq F.slot_dict_eq_refl
    (fun _ hq => call_meets F.slot_tuple_eq ⟨_, ho2, rfl⟩ F.entry_tuple_eq (F.args_tuple_eq_2 _ _) (tuple_declines_dict l b es ep dd dd2 sl sl2 items n2) ⟨ho, ho2, hq⟩)
    (fun _ hq => call_meets F.slot_dict_eq_refl ⟨_, ho, rfl⟩ F.entry_dict_eq (F.args_dict_eq_2 _ _) (dict_declines_tuple l b es ep dd dd2 sl sl2 items n2) ⟨ho, ho2, hq⟩)
    (fun _ hq => wpAny_isSame_ref_other' hne ho2 ho (by simp) hq) (.inr hu) h)
theorem EqAt_dict_tuple {l b : Addr} {items : Array Value} (hl : IsDct s.heap l) (hb : s.heap.IsTuple b items) (hu : A.units < cLine) : EqAt A s (.ref l) (.ref b) false := .of_refs (ne_dict_tuple hl hb) (RcAt_dict_tuple hl hb hu)
theorem EqAt_tuple_dict {l b : Addr} {items : Array Value} (hl : IsDct s.heap l) (hb : s.heap.IsTuple b items) (hu : A.units < cLine) : EqAt A s (.ref b) (.ref l) false := .of_refs (ne_dict_tuple hl hb).symm (RcAt_tuple_dict hl hb hu)
end
end EQD
set_option Elab.async false
set_option linter.all false
set_option maxRecDepth 100000
set_option maxHeartbeats 4000000
/-! EQB: things of any kind compared one by one: x in a list or tuple, == and != of lists. -/
namespace EQB
open PySem PySem.Spec PyProof.Rows L2
open EQD
theorem relV_inj {x y : V} {u : Value} (h : RelV x u) (h' : RelV y u) : x = y := by
  cases x <;> cases y <;> simp only [L2.RelV] at h h' <;> grind
section
variable {X : Cx}
/-- y == x tells b, and changes nothing -/
def EqB (X : Cx) (y x : V) (H : Hp) (b : Bool) : Prop := ∀ (pins : List (Addr × Obj)) (σ : L2.St) (s : Shared) (v u : Value) (A : Around), Inv X pins σ H s → RelV y v → RelV x u → A.units + 64 < cLine → SeqAt.EqAt A s v u b
theorem EqB.dp {y x : V} {H : Hp} {d e : PyData} (hy : Dp X.K H y d) (hx : Dp X.K H x e) (sd : SeqAt.shaped d = true) (se : SeqAt.shaped e = true) : EqB X y x H (PyData.eqv d e) := fun pins σ s v u A I ry rx hu => by
  obtain ⟨as, r1⟩ := Dp.reads I d y v hy ry
  obtain ⟨bs, r2⟩ := Dp.reads I e x u hx rx
  exact SeqAt.eqAt_reads d e A s v u as bs r1 r2 (SeqAt.canLay_of_shaped sd) (SeqAt.canLay_of_shaped se) (SeqAt.room_of_shaped sd hu)
theorem isDct {pins : List (Addr × Obj)} {σ : L2.St} {s : Shared} {H : Hp} {a : Addr} {kvs : List (Key × V)} (I : Inv X pins σ H s) (h : H a = some (.dK kvs)) : IsDct s.heap a := by
  obtain ⟨_, _, _, _, o, es, ep, e, x, d, _⟩ := I.hok a _ h
  exact ⟨o, es, ep, e, x.1, d⟩
/-- a dict is no data else -/
theorem EqB.dctR {y : V} {a : Addr} {H : Hp} {d : PyData} {kvs : List (Key × V)} (hy : Dp X.K H y d) (h : H a = some (.dK kvs)) : EqB X y (.ref a) H false := fun pins σ s v u A I ry rx hu => by
  have D := isDct I h
  have hu0 : A.units < cLine := by omega
  cases (show u = Value.ref a from rx)
  cases hy with
  | non => cases ry; exact EqAt_none_dict D hu0
  | bl b => cases ry; exact EqAt_bool_dict b D hu0
  | int i => obtain ⟨t, rfl⟩ := ry; exact EqAt_int_dict i t D hu0
  | str z => obtain ⟨t, rfl⟩ := ry; exact EqAt_str_dict z t D hu0
  | lst hs _ =>
    cases ry
    obtain ⟨its, _, ⟨o, n, ho, hc, _, hd⟩, _⟩ := I.list hs
    exact EqAt_list_dict D ⟨o, ho, hc, n, hd⟩ hu0
  | tup hs _ =>
    cases ry
    obtain ⟨its, _, ⟨o, ho, hc, n, hd⟩, _⟩ := I.tuple hs
    exact EqAt_tuple_dict D ⟨o, ho, hc, n, hd⟩ hu0
theorem EqB.dctL {x : V} {a : Addr} {H : Hp} {d : PyData} {kvs : List (Key × V)} (hx : Dp X.K H x d) (h : H a = some (.dK kvs)) : EqB X (.ref a) x H false := fun pins σ s v u A I ry rx hu => by
  have D := isDct I h
  have hu0 : A.units < cLine := by omega
  cases (show v = Value.ref a from ry)
  cases hx with
  | non => cases rx; exact EqAt_dict_none D hu0
  | bl b => cases rx; exact EqAt_dict_bool b D hu0
  | int i => obtain ⟨t, rfl⟩ := rx; exact EqAt_dict_int i t D hu0
  | str z => obtain ⟨t, rfl⟩ := rx; exact EqAt_dict_str z t D hu0
  | lst hs _ =>
    cases rx
    obtain ⟨its, _, ⟨o, n, ho, hc, _, hd⟩, _⟩ := I.list hs
    exact EqAt_dict_list D ⟨o, ho, hc, n, hd⟩ hu0
  | tup hs _ =>
    cases rx
    obtain ⟨its, _, ⟨o, ho, hc, n, hd⟩, _⟩ := I.tuple hs
    exact EqAt_dict_tuple D ⟨o, ho, hc, n, hd⟩ hu0
/-- x in a list or a tuple -/
def rInB (X : Cx) (neg : Bool) : R2 := fun x y H Q => ∃ (p : Addr) (ys : List V) (e : V → Bool), y = .ref p ∧ (SqL X.K H p ys ∨ SqT X.K H p ys) ∧ (∀ z ∈ ys, EqB X z x H (e z)) ∧ Q (.bl (if neg = true then !ys.any e else ys.any e)) H
open Classical in
noncomputable def eOf (ys : List V) (e : V → Bool) (u : Value) : Bool := if h : ∃ z, z ∈ ys ∧ RelV z u then e h.choose else false
theorem eOf_eq {ys : List V} {e : V → Bool} {z : V} {u : Value} (hz : z ∈ ys) (r : RelV z u) : eOf ys e u = e z := by
  have h : ∃ z, z ∈ ys ∧ RelV z u := ⟨z, hz, r⟩
  unfold eOf
  rw [dif_pos h, relV_inj h.choose_spec.2 r]
theorem any_eOf {ws : List V} {e : V → Bool} : ∀ {ys : List V} {its : List Value}, (∀ z ∈ ys, z ∈ ws) → Vals ys its → its.any (eOf ws e) = ys.any e
  | [], _, _, .nil => rfl
  | z :: ys, _, hs, .cons r t => by
    rw [List.any_cons, List.any_cons, eOf_eq (hs z List.mem_cons_self) r, any_eOf (fun x hx => hs x (List.mem_cons_of_mem _ hx)) t]
theorem vals_mem {ys : List V} {its : List Value} (r : Vals ys its) {u : Value} (hu : u ∈ its) : ∃ z, z ∈ ys ∧ RelV z u := by
  induction r with
  | nil => cases hu
  | cons r t ih =>
    rcases List.mem_cons.mp hu with rfl | hu
    · exact ⟨_, List.mem_cons_self, r⟩
    · obtain ⟨z, hz, q⟩ := ih hu
      exact ⟨z, List.mem_cons_of_mem _ hz, q⟩
theorem op_inB (hu : X.A.units + 65 < cLine) : OpR X (compareOp .In) (rInB X false) := by
  intro pins s σ H x y v u Q I rx ry h
  obtain ⟨p, ys, e, rfl, hs, he, q⟩ := h
  cases (show u = Value.ref p from ry)
  have go : ∀ {its : List Value}, Vals ys its → (∀ w, w ∈ its.toArray → SeqAt.EqAt X.A.in1 s w v (eOf ys e w)) := fun {its} r w hw => by
    obtain ⟨z, hz, rz⟩ := vals_mem r (by simpa using hw)
    rw [eOf_eq hz rz]
    exact he z hz pins σ s w v X.A.in1 I rz rx (by show X.A.units + 1 + 64 < cLine; omega)
  rcases hs with hs | hs
  · obtain ⟨its, r, ⟨o, n, ho, hc, _, hd⟩, _⟩ := I.list hs
    refine SeqAt.in_listAt (eOf ys e) ⟨o, ho, hc, n, hd⟩ (go r) ⟨.bl _, H, I, rfl, ?_⟩
    rw [List.any_toArray, any_eOf (fun _ h => h) r]
    exact q
  · obtain ⟨its, r, ⟨o, ho, hc, n, hd⟩, _⟩ := I.tuple hs
    refine SeqAt.in_tupleAt (eOf ys e) ⟨o, ho, hc, n, hd⟩ (go r) ⟨.bl _, H, I, rfl, ?_⟩
    rw [List.any_toArray, any_eOf (fun _ h => h) r]
    exact q
theorem op_notInB (hu : X.A.units + 65 < cLine) : OpR X (compareOp .NotIn) (rInB X true) := by
  intro pins s σ H x y v u Q I rx ry h
  obtain ⟨p, ys, e, rfl, hs, he, q⟩ := h
  cases (show u = Value.ref p from ry)
  have go : ∀ {its : List Value}, Vals ys its → (∀ w, w ∈ its.toArray → SeqAt.EqAt X.A.in1 s w v (eOf ys e w)) := fun {its} r w hw => by
    obtain ⟨z, hz, rz⟩ := vals_mem r (by simpa using hw)
    rw [eOf_eq hz rz]
    exact he z hz pins σ s w v X.A.in1 I rz rx (by show X.A.units + 1 + 64 < cLine; omega)
  rcases hs with hs | hs
  · obtain ⟨its, r, ⟨o, n, ho, hc, _, hd⟩, _⟩ := I.list hs
    refine SeqAt.notIn_listAt (eOf ys e) ⟨o, ho, hc, n, hd⟩ (go r) ⟨.bl _, H, I, rfl, ?_⟩
    rw [List.any_toArray, any_eOf (fun _ h => h) r]
    exact q
  · obtain ⟨its, r, ⟨o, ho, hc, n, hd⟩, _⟩ := I.tuple hs
    refine SeqAt.notIn_tupleAt (eOf ys e) ⟨o, ho, hc, n, hd⟩ (go r) ⟨.bl _, H, I, rfl, ?_⟩
    rw [List.any_toArray, any_eOf (fun _ h => h) r]
    exact q
/-- two lists: of unlike lengths, or compared item by item -/
inductive EqL (X : Cx) (H : Hp) : List V → List V → Bool → Prop
  | len {xs ys : List V} : xs.length ≠ ys.length → EqL X H xs ys false
  | all {xs ys : List V} {e : Nat → Bool} : xs.length = ys.length → (∀ i x y, xs[i]? = some x → ys[i]? = some y → EqB X x y H (e i)) → EqL X H xs ys ((List.range xs.length).all e)
/-- == and != of two lists -/
def rLsB (X : Cx) (neg : Bool) : R2 := fun x y H Q => ∃ (p q : Addr) (xs ys : List V) (b : Bool), x = .ref p ∧ y = .ref q ∧ p ≠ q ∧ SqL X.K H p xs ∧ SqL X.K H q ys ∧ EqL X H xs ys b ∧ Q (.bl (if neg = true then !b else b)) H
theorem items {pins : List (Addr × Obj)} {σ : L2.St} {s : Shared} {H : Hp} {xs ys : List V} {e : Nat → Bool} {its js : List Value} {A : Around} (I : Inv X pins σ H s) (r1 : Vals xs its) (r2 : Vals ys js) (hu : A.units + 64 < cLine) (he : ∀ i x y, xs[i]? = some x → ys[i]? = some y → EqB X x y H (e i)) :
    ∀ j (h1 : j < its.toArray.size) (h2 : j < js.toArray.size), SeqAt.EqAt A s its.toArray[j] js.toArray[j] (e j) := fun j h1 h2 => by
  have l1 := r1.length
  have l2 := r2.length
  have h1' : j < xs.length := by rw [l1]; simpa using h1
  have h2' : j < ys.length := by rw [l2]; simpa using h2
  obtain ⟨u1, e1, q1⟩ := r1.get (List.getElem?_eq_getElem h1')
  obtain ⟨u2, e2, q2⟩ := r2.get (List.getElem?_eq_getElem h2')
  have f1 : its.toArray[j] = u1 := by
    have := (List.getElem?_eq_some_iff.mp e1).2
    simpa using this
  have f2 : js.toArray[j] = u2 := by
    have := (List.getElem?_eq_some_iff.mp e2).2
    simpa using this
  rw [f1, f2]
  exact he j _ _ (List.getElem?_eq_getElem h1') (List.getElem?_eq_getElem h2') pins σ s u1 u2 A I q1 q2 hu
theorem op_eqL (hu : X.A.units + 65 < cLine) : OpR X (compareOp .Eq) (rLsB X false) := by
  intro pins s σ H x y v u Q I rx ry h
  obtain ⟨p, q, xs, ys, b, rfl, rfl, pq, hp, hq, eb, k⟩ := h
  cases (show v = Value.ref p from rx)
  cases (show u = Value.ref q from ry)
  obtain ⟨its, r1, ⟨o, n, ho, hc, _, hd⟩, _⟩ := I.list hp
  obtain ⟨js, r2, ⟨o2, n2, ho2, hc2, _, hd2⟩, _⟩ := I.list hq
  have L1 : s.heap.IsList p its.toArray := ⟨o, ho, hc, n, hd⟩
  have L2' : s.heap.IsList q js.toArray := ⟨o2, ho2, hc2, n2, hd2⟩
  have l1 := r1.length
  have l2 := r2.length
  show wpAny _ _ (richCompare .Eq (.ref p) (.ref q)) _ _ _
  cases eb with
  | len hne => exact SeqAt.RcAt.lists_lengths L1 L2' (by simp; omega) (by omega) _ _ _ _ ⟨.bl _, H, I, rfl, k⟩
  | @all e hl he =>
    have hz : its.toArray.size = js.toArray.size := by simp; omega
    refine SeqAt.RcAt.lists L1 L2' hz (by omega) (items (A := X.A.in1) I r1 r2 (by show X.A.units + 1 + 64 < cLine; omega) he) _ _ _ _ ⟨.bl _, H, I, rfl, ?_⟩
    have : its.toArray.size = xs.length := by simp; omega
    rw [this]
    exact k
theorem op_neL (hu : X.A.units + 65 < cLine) : OpR X (compareOp .NotEq) (rLsB X true) := by
  intro pins s σ H x y v u Q I rx ry h
  obtain ⟨p, q, xs, ys, b, rfl, rfl, pq, hp, hq, eb, k⟩ := h
  cases (show v = Value.ref p from rx)
  cases (show u = Value.ref q from ry)
  obtain ⟨its, r1, ⟨o, n, ho, hc, _, hd⟩, _⟩ := I.list hp
  obtain ⟨js, r2, ⟨o2, n2, ho2, hc2, _, hd2⟩, _⟩ := I.list hq
  have L1 : s.heap.IsList p its.toArray := ⟨o, ho, hc, n, hd⟩
  have L2' : s.heap.IsList q js.toArray := ⟨o2, ho2, hc2, n2, hd2⟩
  have l1 := r1.length
  have l2 := r2.length
  show wpAny _ _ (richCompare .NotEq (.ref p) (.ref q)) _ _ _
  cases eb with
  | len hne => exact SeqAt.RcNeAt.lists_lengths L1 L2' (by simp; omega) (by omega) _ _ _ _ ⟨.bl _, H, I, rfl, k⟩
  | @all e hl he =>
    have hz : its.toArray.size = js.toArray.size := by simp; omega
    refine SeqAt.RcNeAt.lists L1 L2' hz (by omega) (items (A := X.A.in1) I r1 r2 (by show X.A.units + 1 + 64 < cLine; omega) he) _ _ _ _ ⟨.bl _, H, I, rfl, ?_⟩
    have : its.toArray.size = xs.length := by simp; omega
    rw [this]
    exact k
end
end EQB
set_option Elab.async false
set_option linter.all false
set_option maxRecDepth 100000
set_option maxHeartbeats 4000000
/-! THI: THG with the type of each thing, and the text that it is: things of many kinds (None, a bool, a number, a text, lists, tuples, dicts), each with its repr's text. -/
namespace THI
open PySem PySem.Spec PyProof.Rows L2
open Builtin Builtin.List
/-- is it a whole number, a bool, or else -/
inductive Kn where
  | whole (i : Int)
  | flag (b : Bool)
  | text (s : Str)
  | non
  | lst
  | tup
  | dct
def Kn.tyn : Kn → String
  | .whole _ => "int"
  | .flag _ => "bool"
  | .text _ => "str"
  | .non => "NoneType"
  | .lst => "list"
  | .tup => "tuple"
  | .dct => "dict"
def Kn.eqI : Kn → Int → Bool
  | .whole j, i => decide (i = j)
  | .flag b, i => decide (i = if b then 1 else 0)
  | _, _ => false
def Kn.isInt : Kn → Bool
  | .whole _ => true
  | .flag _ => true
  | _ => false
def Kn.isFlag : Kn → Bool
  | .flag _ => true
  | _ => false
def Kn.isStr : Kn → Bool
  | .text _ => true
  | _ => false
def Kn.isLst : Kn → Bool
  | .lst => true
  | _ => false
def Kn.isTup : Kn → Bool
  | .tup => true
  | _ => false
theorem Kn.kInt {K : PySem.W.Frag} (k : Kn) : PySem.W.kitOne K (.type k.tyn) (.type "int") = some k.isInt :=
  match k with
  | .whole i => (kit_ty (by decide +kernel) : PySem.W.kitOne K (.type "int") (.type "int") = some true)
  | .flag b => (kit_ty (by decide +kernel) : PySem.W.kitOne K (.type "bool") (.type "int") = some true)
  | .text s => (kit_ty (by decide +kernel) : PySem.W.kitOne K (.type "str") (.type "int") = some false)
  | .non => (kit_ty (by decide +kernel) : PySem.W.kitOne K (.type "NoneType") (.type "int") = some false)
  | .lst => (kit_ty (by decide +kernel) : PySem.W.kitOne K (.type "list") (.type "int") = some false)
  | .tup => (kit_ty (by decide +kernel) : PySem.W.kitOne K (.type "tuple") (.type "int") = some false)
  | .dct => (kit_ty (by decide +kernel) : PySem.W.kitOne K (.type "dict") (.type "int") = some false)
theorem Kn.kFlag {K : PySem.W.Frag} (k : Kn) : PySem.W.kitOne K (.type k.tyn) (.type "bool") = some k.isFlag :=
  match k with
  | .whole i => (kit_ty (by decide +kernel) : PySem.W.kitOne K (.type "int") (.type "bool") = some false)
  | .flag b => (kit_ty (by decide +kernel) : PySem.W.kitOne K (.type "bool") (.type "bool") = some true)
  | .text s => (kit_ty (by decide +kernel) : PySem.W.kitOne K (.type "str") (.type "bool") = some false)
  | .non => (kit_ty (by decide +kernel) : PySem.W.kitOne K (.type "NoneType") (.type "bool") = some false)
  | .lst => (kit_ty (by decide +kernel) : PySem.W.kitOne K (.type "list") (.type "bool") = some false)
  | .tup => (kit_ty (by decide +kernel) : PySem.W.kitOne K (.type "tuple") (.type "bool") = some false)
  | .dct => (kit_ty (by decide +kernel) : PySem.W.kitOne K (.type "dict") (.type "bool") = some false)
theorem Kn.kStr {K : PySem.W.Frag} (k : Kn) : PySem.W.kitOne K (.type k.tyn) (.type "str") = some k.isStr :=
  match k with
  | .whole i => (kit_ty (by decide +kernel) : PySem.W.kitOne K (.type "int") (.type "str") = some false)
  | .flag b => (kit_ty (by decide +kernel) : PySem.W.kitOne K (.type "bool") (.type "str") = some false)
  | .text s => (kit_ty (by decide +kernel) : PySem.W.kitOne K (.type "str") (.type "str") = some true)
  | .non => (kit_ty (by decide +kernel) : PySem.W.kitOne K (.type "NoneType") (.type "str") = some false)
  | .lst => (kit_ty (by decide +kernel) : PySem.W.kitOne K (.type "list") (.type "str") = some false)
  | .tup => (kit_ty (by decide +kernel) : PySem.W.kitOne K (.type "tuple") (.type "str") = some false)
  | .dct => (kit_ty (by decide +kernel) : PySem.W.kitOne K (.type "dict") (.type "str") = some false)
theorem Kn.kLst {K : PySem.W.Frag} (k : Kn) : PySem.W.kitOne K (.type k.tyn) (.type "list") = some k.isLst :=
  match k with
  | .whole i => (kit_ty (by decide +kernel) : PySem.W.kitOne K (.type "int") (.type "list") = some false)
  | .flag b => (kit_ty (by decide +kernel) : PySem.W.kitOne K (.type "bool") (.type "list") = some false)
  | .text s => (kit_ty (by decide +kernel) : PySem.W.kitOne K (.type "str") (.type "list") = some false)
  | .non => (kit_ty (by decide +kernel) : PySem.W.kitOne K (.type "NoneType") (.type "list") = some false)
  | .lst => (kit_ty (by decide +kernel) : PySem.W.kitOne K (.type "list") (.type "list") = some true)
  | .tup => (kit_ty (by decide +kernel) : PySem.W.kitOne K (.type "tuple") (.type "list") = some false)
  | .dct => (kit_ty (by decide +kernel) : PySem.W.kitOne K (.type "dict") (.type "list") = some false)
theorem Kn.kTup {K : PySem.W.Frag} (k : Kn) : PySem.W.kitOne K (.type k.tyn) (.type "tuple") = some k.isTup :=
  match k with
  | .whole i => (kit_ty (by decide +kernel) : PySem.W.kitOne K (.type "int") (.type "tuple") = some false)
  | .flag b => (kit_ty (by decide +kernel) : PySem.W.kitOne K (.type "bool") (.type "tuple") = some false)
  | .text s => (kit_ty (by decide +kernel) : PySem.W.kitOne K (.type "str") (.type "tuple") = some false)
  | .non => (kit_ty (by decide +kernel) : PySem.W.kitOne K (.type "NoneType") (.type "tuple") = some false)
  | .lst => (kit_ty (by decide +kernel) : PySem.W.kitOne K (.type "list") (.type "tuple") = some false)
  | .tup => (kit_ty (by decide +kernel) : PySem.W.kitOne K (.type "tuple") (.type "tuple") = some true)
  | .dct => (kit_ty (by decide +kernel) : PySem.W.kitOne K (.type "dict") (.type "tuple") = some false)
/-- all but tables stay -/
def SN (H H' : Hp) : Prop := ∀ b o, H b = some o → (∀ ps, o ≠ .tbl ps) → H' b = some o
theorem SN.of {H H' : Hp} (s : Same H H') : SN H H' := fun b o e _ => s b o e
theorem SN.up {H0 H H' : Hp} (s : Same H0 H) (s1 : SN H H') : SN H0 H' := fun b o e n => s1 b o (s b o e) n
theorem SN.trans {H0 H H' : Hp} (s : SN H0 H) (s1 : SN H H') : SN H0 H' := fun b o e n => s1 b o (s b o e n) n
/-- no cell but a table's -/
def NT (H : Hp) (a : Addr) : Prop := ∀ v, H a = some v → ∃ ps, v = .tbl ps
theorem NT.of {H : Hp} {a : Addr} (h : H a = none) : NT H a := fun v e => by
  rw [h] at e
  cases e
theorem NT.up {H H' : Hp} {a : Addr} (s : SN H H') (h : NT H' a) : NT H a := fun v e => Classical.byContradiction fun n => n (h v (s a v e fun ps z => n ⟨ps, z⟩))
/-- data, with its repr's text -/
structure Dt (H : Hp) (x : V) (y : PyData) (t : Str) (n : Nat) : Prop where
  dpN : ∀ K H1, SN H H1 → Dp K H1 x y
  rpN : ∀ X outs H1, SN H H1 → (∀ o ∈ outs, NT H o) → RPO.RpU X n outs H1 x t
inductive DtAll (H : Hp) : List V → List PyData → List Str → Nat → Prop
  | nil {n : Nat} : DtAll H [] [] [] n
  | cons {x : V} {y : PyData} {t : Str} {xs : List V} {ys : List PyData} {ts : List Str} {n : Nat} : Dt H x y t n → DtAll H xs ys ts n → DtAll H (x :: xs) (y :: ys) (t :: ts) n
theorem none_up {H H' : Hp} {o : Addr} (s : Same H H') (h : H' o = none) : H o = none := by
  cases e : H o with
  | none => rfl
  | some z =>
    rw [s _ _ e] at h
    cases h
theorem Dt.same {H H' : Hp} {x : V} {y : PyData} {t : Str} {n : Nat} (h : Dt H x y t n) (s : Same H H') : Dt H' x y t n :=
  ⟨fun K H1 s1 => h.dpN K H1 (SN.up s s1), fun X outs H1 s1 ho => h.rpN X outs H1 (SN.up s s1) fun o q => NT.up (SN.of s) (ho o q)⟩
theorem Dt.mono {H : Hp} {x : V} {y : PyData} {t : Str} {n m : Nat} (h : Dt H x y t n) (nm : n ≤ m) : Dt H x y t m :=
  ⟨h.dpN, fun X outs H1 s1 ho => (h.rpN X outs H1 s1 ho).mono nm⟩
theorem DtAll.dp {H H1 : Hp} {K : PySem.W.Frag} (s : SN H H1) : ∀ {xs : List V} {ys : List PyData} {ts : List Str} {n : Nat}, DtAll H xs ys ts n → DpAll K H1 xs ys
  | _, _, _, _, .nil => .nil
  | _, _, _, _, .cons a b => .cons (a.dpN _ _ s) (DtAll.dp s b)
theorem DtAll.rp {H H1 : Hp} {X : Cx} {outs : List Addr} (s : SN H H1) (ho : ∀ o ∈ outs, NT H o) : ∀ {xs : List V} {ys : List PyData} {ts : List Str} {n : Nat}, DtAll H xs ys ts n → RPO.RpAll X n outs H1 xs ts
  | _, _, _, _, .nil => .nil
  | _, _, _, _, .cons a b => .cons (a.rpN _ _ _ s ho) (DtAll.rp s ho b)
/-- nothing is there -/
def N0 : Hp := fun _ => none
theorem s0 (H : Hp) : Same N0 H := fun _ _ e => nomatch e
theorem Dt.non {n : Nat} : Dt N0 .non .none "None" n := ⟨fun _ _ _ => .non, fun _ _ _ _ _ => .non⟩
theorem Dt.bl {n : Nat} (b : Bool) : Dt N0 (.bl b) (.bool b) (if b then "True" else "False") n := ⟨fun _ _ _ => .bl b, fun _ _ _ _ _ => .bl⟩
theorem Dt.int {n : Nat} {i : Int} (h : i.natAbs.log2 < 1920) : Dt N0 (.int i) (.int i) (toString i) n := ⟨fun _ _ _ => .int i, fun _ _ _ _ _ => .int h⟩
theorem Dt.str {n : Nat} (z : Str) : Dt N0 (.str z) (.str z) (reprText z) n := ⟨fun _ _ _ => .str z, fun _ _ _ _ _ => .str⟩
section
variable {H0 H : Hp} {a : Addr} {xs : List V} {ys : List PyData} {ts : List Str} {n : Nat}
theorem out_of {H : Hp} {a : Addr} {o : HO} {outs : List Addr} (h : H a = some o) (nt : ∀ ps, o ≠ .tbl ps) (ho : ∀ o ∈ outs, NT H o) : a ∉ outs := fun z => by
  obtain ⟨ps, e⟩ := ho a z _ h
  exact nt ps e
theorem SN.tup {H1 : Hp} (s : SN H H1) (h : H a = some (.tup xs)) : H1 a = some (.tup xs) := s _ _ h fun _ z => nomatch z
theorem SN.lst {H1 : Hp} (s : SN H H1) (h : H a = some (.lst xs)) : H1 a = some (.lst xs) := s _ _ h fun _ z => nomatch z
theorem SN.dK {H1 : Hp} {kvs : List (Key × V)} (s : SN H H1) (h : H a = some (.dK kvs)) : H1 a = some (.dK kvs) := s _ _ h fun _ z => nomatch z
theorem Dt.tup (h : H a = some (.tup xs)) (hs : DtAll H0 xs ys ts n) (s : Same H0 H) (z : H0 a = none) : Dt H (.ref a) (.tuple ys) (tupleText ts) (n + 1) :=
  ⟨fun K H1 s1 => .tup (SqT.of (s1.tup h)) (hs.dp (SN.up s s1)), fun X outs H1 s1 ho => .tup (s1.tup h) (out_of h (fun _ z => nomatch z) ho) (hs.rp (SN.up s s1) fun o q => by
    rcases List.mem_cons.mp q with rfl | q
    · exact NT.of z
    · exact NT.up (SN.of s) (ho o q))⟩
theorem Dt.list (h : H a = some (.lst xs)) (hx : xs ≠ []) (hs : DtAll H0 xs ys ts n) (s : Same H0 H) (z : H0 a = none) : Dt H (.ref a) (.list ys) (listText ts) (n + 1) :=
  ⟨fun K H1 s1 => .lst (SqL.of (s1.lst h)) (hs.dp (SN.up s s1)), fun X outs H1 s1 ho => .list (s1.lst h) (out_of h (fun _ z => nomatch z) ho) hx (hs.rp (SN.up s s1) fun o q => by
    rcases List.mem_cons.mp q with rfl | q
    · exact NT.of z
    · exact NT.up (SN.of s) (ho o q))⟩
theorem Dt.list0 (h : H a = some (.lst [])) : Dt H (.ref a) (.list []) "[]" n :=
  ⟨fun K H1 s1 => .lst (SqL.of (s1.lst h)) .nil, fun X outs H1 s1 ho => .list0 (s1.lst h) (out_of h (fun _ z => nomatch z) ho)⟩
end
/-- a thing -/
structure Thg (H : Hp) (x : V) (k : Kn) (t : Str) (n : Nat) : Prop where
  eqN : ∀ X H1, SN H H1 → ∀ i : Int, EQB.EqB X (.int i) x H1 (k.eqI i)
  rpN : ∀ X outs H1, SN H H1 → (∀ o ∈ outs, NT H o) → RPO.RpU X n outs H1 x t
  tyN : ∀ K H1, SN H H1 → TyX K H1 x (.type k.tyn)
  val : ∀ i, k = .whole i → x = .int i
  flg : ∀ b, k = .flag b → x = .bl b
  txt : ∀ s, k = .text s → x = .str s
  len : t.length ≤ 100
section
variable {H H' : Hp} {x : V} {k : Kn} {t : Str} {n : Nat}
theorem Thg.eq (h : Thg H x k t n) (X : Cx) (H1 : Hp) (s : Same H H1) (i : Int) : EQB.EqB X (.int i) x H1 (k.eqI i) := h.eqN X H1 (SN.of s) i
theorem Thg.rp (h : Thg H x k t n) (X : Cx) (outs : List Addr) (H1 : Hp) (s : Same H H1) (ho : ∀ o ∈ outs, H o = none) : RPO.RpU X n outs H1 x t := h.rpN X outs H1 (SN.of s) fun o q => NT.of (ho o q)
theorem Thg.ty (h : Thg H x k t n) (K : PySem.W.Frag) (H1 : Hp) (s : Same H H1) : ∃ ty : String, TyX K H1 x (.type ty) ∧ PySem.W.kitOne K (.type ty) (.type "int") = some k.isInt ∧ PySem.W.kitOne K (.type ty) (.type "bool") = some k.isFlag := ⟨k.tyn, h.tyN K H1 (SN.of s), k.kInt, k.kFlag⟩
theorem Thg.same (h : Thg H x k t n) (s : Same H H') : Thg H' x k t n :=
  ⟨fun X H1 s1 => h.eqN X H1 (SN.up s s1), fun X outs H1 s1 ho => h.rpN X outs H1 (SN.up s s1) fun o q => NT.up (SN.of s) (ho o q), fun K H1 s1 => h.tyN K H1 (SN.up s s1), h.val, h.flg, h.txt, h.len⟩
theorem Thg.mono {m : Nat} (h : Thg H x k t n) (nm : n ≤ m) : Thg H x k t m := ⟨h.eqN, fun X outs H1 s1 ho => (h.rpN X outs H1 s1 ho).mono nm, h.tyN, h.val, h.flg, h.txt, h.len⟩
theorem Thg.of {y : PyData} (d : Dt H x y t n) (sh : SeqAt.shaped y = true) (e : ∀ i : Int, PyData.eqv (.int i) y = k.eqI i) (ty : ∀ K H1, SN H H1 → TyX K H1 x (.type k.tyn))
    (val : ∀ i, k = .whole i → x = .int i) (flg : ∀ b, k = .flag b → x = .bl b) (txt : ∀ s, k = .text s → x = .str s) (len : t.length ≤ 100) : Thg H x k t n :=
  ⟨fun X H1 s i => by
    rw [← e i]
    exact EQB.EqB.dp (.int i) (d.dpN _ _ s) rfl sh, d.rpN, ty, val, flg, txt, len⟩
theorem Thg.int {i : Int} (h : i.natAbs.log2 < 1920) (l : ((toString i : String) : Str).length ≤ 100) : Thg N0 (.int i) (.whole i) (toString i) n :=
  .of (Dt.int h) rfl (fun j => by rw [Bool.eq_iff_iff]; simp [PyData.eqv, Kn.eqI]) (fun K H1 _ => .base (.int i)) (fun j e => by cases e; rfl) (fun b e => by cases e) (fun s e => by cases e) l
theorem Thg.bl (b : Bool) : Thg N0 (.bl b) (.flag b) (if b then "True" else "False") n :=
  .of (Dt.bl b) rfl (fun j => by rw [Bool.eq_iff_iff]; cases b <;> simp [PyData.eqv, Kn.eqI]) (fun K H1 _ => .base (.bl b)) (fun j e => by cases e) (fun c e => by cases e; rfl) (fun s e => by cases e) (by cases b <;> decide)
theorem Thg.non : Thg N0 .non .non "None" n :=
  .of Dt.non rfl (fun j => by simp [PyData.eqv, Kn.eqI]) (fun K H1 _ => .base .non) (fun j e => by cases e) (fun b e => by cases e) (fun s e => by cases e) (by decide)
theorem Thg.str (z : Str) (ok : PyData.strOk z = true) (l : (reprText z).length ≤ 100) : Thg N0 (.str z) (.text z) (reprText z) n :=
  .of (Dt.str z) (by simp [SeqAt.shaped, PyData.canLay0, PyData.depth, ok]) (fun j => by simp [PyData.eqv, Kn.eqI]) (fun K H1 _ => .base (.str z)) (fun j e => by cases e) (fun b e => by cases e) (fun s e => by cases e; rfl) l
theorem Thg.lst {a : Addr} {xs : List V} {ys : List PyData} (h : H a = some (.lst xs)) (d : Dt H (.ref a) (.list ys) t n) (sh : SeqAt.shaped (.list ys) = true) (l : t.length ≤ 100) : Thg H (.ref a) .lst t n :=
  .of d sh (fun j => by simp [PyData.eqv, Kn.eqI]) (fun K H1 s => .base (.lst (s.lst h))) (fun j e => by cases e) (fun b e => by cases e) (fun s e => by cases e) l
theorem Thg.tup {a : Addr} {xs : List V} {ys : List PyData} (h : H a = some (.tup xs)) (d : Dt H (.ref a) (.tuple ys) t n) (sh : SeqAt.shaped (.tuple ys) = true) (l : t.length ≤ 100) : Thg H (.ref a) .tup t n :=
  .of d sh (fun j => by simp [PyData.eqv, Kn.eqI]) (fun K H1 s => .base (.tup (s.tup h))) (fun j e => by cases e) (fun b e => by cases e) (fun s e => by cases e) l
theorem Thg.dct {a : Addr} {kvs : List (Key × V)} {ps : List Str} (h : H a = some (.dK kvs)) (es : ∀ X outs H1, RPO.RpEnt X n (a :: outs) H1 kvs ps) (l : (dictText ps).length ≤ 100) : Thg H (.ref a) .dct (dictText ps) (n + 1) :=
  ⟨fun X H1 s i => EQB.EqB.dctR (.int i) (s.dK h), fun X outs H1 s ho => .dct (s.dK h) (out_of h (fun _ z => nomatch z) ho) (es X outs H1), fun K H1 s => .base (.dK (s.dK h)), fun j e => (by cases e), fun b e => (by cases e), fun s e => (by cases e), l⟩
end
open Classical in
/-- all but some cells -/
noncomputable def out (q : Addr → Prop) (H : Hp) : Hp := fun a => if q a then none else H a
section
variable {q : Addr → Prop} {H H' : Hp} {a : Addr}
theorem out_le : Same (out q H) H := fun a o e => by
  unfold out at e
  by_cases c : q a
  · rw [if_pos c] at e
    cases e
  · rw [if_neg c] at e
    exact e
theorem out_not {o : HO} (e : out q H a = some o) : ¬ q a := fun c => by
  unfold out at e
  rw [if_pos c] at e
  cases e
theorem out_at {o : HO} (e : H a = some o) (n : ¬ q a) : out q H a = some o := by
  unfold out
  rw [if_neg n]
  exact e
theorem out_none (e : H a = none) : out q H a = none := by
  unfold out
  rw [e, ite_self]
theorem out_kp (k : ∀ b o, H b = some o → ¬ q b → H' b = some o) : Same (out q H) (out q H') := fun a o e => out_at (k a o (out_le a o e) (out_not e)) (out_not e)
theorem out_same (s : Same H H') : Same (out q H) (out q H') := out_kp fun b o e _ => s b o e
theorem out_ne (e : H a = none) (n : ∀ b, q b → H b ≠ none) : ¬ q a := fun z => n a z e
theorem same_some (s : Same H H') (n : ∀ b, q b → H b ≠ none) : ∀ b, q b → H' b ≠ none := fun b c z => n b c (none_up s z)
end
/-- x in a list or a tuple, within a comprehension too -/
def rInA (K : PySem.W.Frag) (neg : Bool) : R2 := fun x y H Q => ∃ (p : Addr) (ys : List V) (e : V → Bool), y = .ref p ∧ (SqL K H p ys ∨ SqT K H p ys) ∧ (∀ X : Cx, X.K = K → ∀ z ∈ ys, EQB.EqB X z x H (e z)) ∧ Q (.bl (if neg = true then !(ys.any e) else ys.any e)) H
theorem op_inA {X : Cx} {K : PySem.W.Frag} (hX : X.K = K) (hu : X.A.units + 65 < cLine) : OpR X (compareOp .In) (rInA K false) := fun pins s σ H x y v u Q I rx ry ⟨p, ys, e, ey, hs, he, q⟩ => by
  subst hX
  exact EQB.op_inB hu pins s σ H x y v u Q I rx ry ⟨p, ys, e, ey, hs, fun z hz => he X rfl z hz, q⟩
theorem op_notInA {X : Cx} {K : PySem.W.Frag} (hX : X.K = K) (hu : X.A.units + 65 < cLine) : OpR X (compareOp .NotIn) (rInA K true) := fun pins s σ H x y v u Q I rx ry ⟨p, ys, e, ey, hs, he, q⟩ => by
  subst hX
  exact EQB.op_notInB hu pins s σ H x y v u Q I rx ry ⟨p, ys, e, ey, hs, fun z hz => he X rfl z hz, q⟩
end THI
set_option Elab.async false
set_option linter.all false
set_option maxRecDepth 100000
set_option maxHeartbeats 4000000
/-! EXV: a caught exception that is kept behind its except clause: isinstance of it, its fields. -/
namespace EXV
open PySem PySem.Spec PyProof.Rows L2
/-- an exception object at a, of the class cls, with the dict d -/
def XcP (cls : Value) (d : Option Addr) (a : Addr) (h : Heap) : Prop := ∃ (oe : Obj) (vs : Array Value), h.get? a = some oe ∧ Zc cls d oe ∧ oe.data = .fields vs
def Xc (cls : Value) (d : Option Addr) (a : Addr) : HO := .ext (XcP cls d a)
theorem xc_ok {P : Program} {w : World} {H : Hp} {h : Heap} {a : Addr} {cls : Value} {d : Option Addr} {oe : Obj} {vs : Array Value} (g : h.get? a = some oe) (z : Zc cls d oe) (f : oe.data = .fields vs) : ObjOk P w H h a (Xc cls d a) :=
  ⟨⟨oe, vs, g, z, f⟩, ⟨oe, g⟩, fun h1 h2 ⟨u, v, g1, z1, f1⟩ k => ⟨u, v, k u g1, z1, f1⟩⟩
theorem xc_at {P : Program} {w : World} {H : Hp} {h : Heap} {a : Addr} {cls : Value} {d : Option Addr} (ok : HOk P w H h) (e : H a = some (Xc cls d a)) : XcP cls d a h := by
  have x : ObjOk P w H h a (.ext (XcP cls d a)) := ok a _ e
  exact x.1
theorem xc_lst {a b : Addr} {cls : Value} {d : Option Addr} {xs : List V} {H : Hp} (e : H a = some (Xc cls d a)) (e2 : H b = some (.lst xs)) : a ≠ b := fun z => by
  rw [z, e2] at e
  have e' : HO.lst xs = HO.ext (XcP cls d b) := Option.some.inj (z ▸ e)
  cases e'
section
variable {X : Cx} {pins : List (Addr × Obj)} {σ : L2.St} {H : Hp} {s : Shared}
theorem into_suite (I : Inv X pins σ H s) (a : Addr) : Inv (X.suite a (X.pn ++ pins)) [] σ H s where
  ok := I.ok.suite a (X.pn ++ pins)
  os := I.os
  bare := I.bare
  base := I.base
  loc := I.loc
  cell := I.cell
  free := I.free
  freeC := I.freeC
  pin := fun p hp => I.pin p (by simpa using hp)
  hok := I.hok
  len := I.len
theorem out_suite {a : Addr} {ps : List (Addr × Obj)} (I : Inv (X.suite a (X.pn ++ pins)) ps σ H s) (good : X.Ok) : Inv X pins σ H s where
  ok := good
  os := I.os
  bare := I.bare
  base := I.base
  loc := I.loc
  cell := I.cell
  free := I.free
  freeC := I.freeC
  pin := fun p hp => I.pin p (List.mem_append_left ps hp)
  hok := I.hok
  len := I.len
end
/-- what an except clause that keeps the exception wishes of the body: slot i is the clause's name -/
def wKeep (K : PySem.W.Frag) (c : Value) (i : Nat) (ts : Addr → Value → Option Addr → TS) (Wout : WX) (D : Ends) : WX := fun cls d σ H => ∃ b, PySem.W.exmOne K cls c = some b ∧
  (b = true → ∀ a, H a = none → ts a cls d { nx := fun σ' H' => D.nx (σ'.set i none) H', rt := D.rt, bk := fun σ' H' => D.bk (σ'.set i none) H', ct := fun σ' H' => D.ct (σ'.set i none) H' } (σ.set i (some (.ref a))) (upd H a (Xc cls d a))) ∧ (b = false → Wout cls d σ H)
section
variable {X : Cx} {x n : Str} {c : Value} {i : Nat} {body suite : List Stmt} {b₀ : Stmt} {np pos pos' : Pos} {tb : WX → TS} {ts : Addr → Value → Option Addr → TS} {Wout : WX}
theorem ps_try_keep (stk : X.stack = X.env :: X.outer) (frm : X.env.frame = some X.env.locals) (nod : X.N.Nodup) (at_ : X.N[i]? = some n) (kln : X.env.kindOf n = some .local) (nm : Names X x c) (out : Takes X Wout)
    (bdy : ∀ (W : WX) (pn : List (Addr × Obj)) (xe : Value → Shared → Prop), Takes (X.tr pn xe) W → PassesOwn (model X.prog X.w) X.A X.env xe → PSs (X.tr pn xe) body (tb W))
    (sui : ∀ (a : Addr) (cls : Value) (d : Option Addr) (pn : List (Addr × Obj)), PSs (X.suite a pn) (b₀ :: suite) (ts a cls d)) :
    PS X (.Try body [.ExceptHandler (some (.Name x np)) (some n) (b₀ :: suite) pos'] [] [] pos) (fun D σ H => tb (wKeep X.K c i ts Wout D) D σ H) := by
  refine ⟨fun pins s σ H D I h => ?_⟩
  have good := I.ok
  have frs2 : X.A.frames = some (X.env :: X.outer) := by rw [good.frames, stk]
  have isLoc : Loc X.env.scope n := .inl kln
  have start := (bdy (wKeep X.K c i ts Wout D) (X.pn ++ pins) (fun e s₁ => wpAny (model X.prog X.w) X.A (noteFrame e X.env) (fun _ s₂ => wpAny (model X.prog X.w) X.A (setFlight e none)
      (fun _ s₃ => wpAny (model X.prog X.w) X.A (handleBy e X.env [.ExceptHandler (some (.Name x np)) (some n) (b₀ :: suite) pos']) (SP X pins D) X.xe s₃) X.xe s₂) X.xe s₁) (fun u s' xx => ?_) PassesOwn.looking).run [] s σ H D (I.toTry _) h
  · refine wpAny_Try_except (wpAny_mono start (fun f s1 fin => ?_) fun _ _ he => he)
    cases f with
    | next =>
      obtain ⟨σ1, H1, J1, q1⟩ := fin
      exact wpAny_execs_nil ⟨σ1, H1, J1.ofTry good, q1⟩
    | brk =>
      obtain ⟨σ1, H1, J1, q1⟩ := fin
      exact ⟨σ1, H1, J1.ofTry good, q1⟩
    | cont =>
      obtain ⟨σ1, H1, J1, q1⟩ := fin
      exact ⟨σ1, H1, J1.ofTry good, q1⟩
    | ret u =>
      obtain ⟨v1, σ1, H1, J1, r1, q1⟩ := fin
      exact ⟨v1, σ1, H1, J1.ofTry good, r1, q1⟩
  -- what the body lets out
  obtain ⟨a, B, sI, pins', σ', H', cls, d, rfl, J0, nb, up, sky0, na, os, ag, b, tst, yes, no⟩ := xx
  have J : Inv X pins σ' H' sI := J0.ofTry good
  have sky : Sky B (X.env :: X.outer) a (Zc cls d) X.env.locals s'.heap := by rw [← stk]; exact sky0
  show wpAny (model X.prog X.w) X.A (noteFrame (.ref a) X.env) _ _ _
  refine Sky.land Zc.steady frs2 frm sky fun h3 fl3 up3 => ?_
  have J3 : Inv X pins σ' H' { s' with heap := h3 } := J.landed nb fl3.1 (up.trans up3) os ag
  obtain ⟨oe3, vs3, he3, hz3, hd3⟩ := fl3.there
  have notFr : a ∉ frs (X.env :: X.outer) := fun hm => by
    obtain ⟨_, o', e', hnf⟩ := fl3.2.2.1.mem hm
    rw [he3] at e'
    cases e'
    exact hnf _ hd3
  have Ba : B.get? a = none := fl3.2.1
  -- the heap without it
  have cut : ∀ {h4 : Heap}, B.StaysIn h4 → s'.heap.UpToSlots h4 → ∃ G : Heap, (∀ b o, G.get? b = some o → h4.get? b = some o) ∧ G.get? a = none ∧ Inv X pins σ' H' { s' with heap := G } := fun {h4} st4 up4 => by
    obtain ⟨G, g1, g2⟩ := restrict h4 fun b => decide (b ≠ a)
    have ga : G.get? a = none := g2 a (decide_eq_false fun z => z rfl)
    have ge : ∀ b, b ≠ a → G.get? b = h4.get? b := fun b hb => g1 b (decide_eq_true hb)
    have keepB : B.StaysIn G := fun b o e => by
      rw [ge b fun z => by rw [z, Ba] at e; cases e]
      exact st4 b o e
    have upG : sI.heap.UpToSlots G := fun b o e nf => by
      have hb : b ≠ a := fun z => by
        have := nb a o (z ▸ e) (by rw [stk]; exact notFr)
        rw [Ba] at this
        cases this
      rw [ge b hb]
      exact (up.trans up4) b o e nf
    refine ⟨G, fun b o e => ?_, ga, J.landed (s' := { s' with heap := G }) nb keepB upG os ag⟩
    by_cases hb : b = a
    · rw [hb, ga] at e
      cases e
    · rw [← ge b hb]
      exact e
  have S3 := into_suite J3 a
  refine wpAny_handleBy_cons (codeAny_handlers_test ?_) (by intro q; cases q)
  have typed : PySem.W.Looks (model X.prog X.w) h3 (typeOf (.ref a)) cls := fun A Q E s k q => wpAny_typeOf_ref (k _ _ he3) (by rw [hz3.1]; exact q)
  have matched := PySem.W.exm_one (M := model X.prog X.w) (J3.kIn) typed tst
  have named : ∀ {Q : Value → Shared → Prop} {E : Value → Shared → Prop}, Q c { s' with heap := h3 } → wpAny (model X.prog X.w) (X.A.mark (some (.ref a))) (eval (.Name x np) X.env) Q E { s' with heap := h3 } := fun {Q E} q => by
    obtain ⟨hg, hdbg, hm | ⟨hm, hv, hnn⟩⟩ := nm
    · exact ld_glob (X := X.suite a (X.pn ++ pins)) S3 hg hm q hdbg
    · exact ld_blt (X := X.suite a (X.pn ++ pins)) S3 hg hm hv q hnn hdbg
  refine named (matched.here ?_)
  cases b with
  | true =>
    refine codeAny_handlers_suite_as ?_
    refine HandSPX.lands_againZ fl3 fun h4 fl4 up4 => ?_
    obtain ⟨oe4, vs4, he4, hz4, hd4⟩ := fl4.there
    obtain ⟨G, gk, ga, JG⟩ := cut fl4.1 (up3.trans up4)
    have JK : Inv X pins σ' (upd H' a (Xc cls d a)) { s' with heap := h4 } := JG.laidN (t' := s'.toks) (h' := h4) gk ga na (xc_ok he4 hz4 hd4)
    refine store_ok (X := X.suite a (X.pn ++ pins)) (v := .ref a) (into_suite JK a) nod at_ isLoc rfl (fun s5 S5 => ?_) (.inr kln)
    refine wpAny_mono ((sui a cls d (X.pn ++ pins)).run [] s5 _ _ _ S5 (yes rfl a na)) (fun f s6 fin => ?_) (fun _ _ z => False.elim z)
    have ends : ∀ {σ6 : L2.St} {H6 : Hp} {Q : Shared → Prop}, Inv (X.suite a (X.pn ++ pins)) [] σ6 H6 s6 → (∀ s7, Inv X pins (σ6.set i none) H6 s7 → Q s7) →
        wpAny (model X.prog X.w) X.A (do bindName X.env n .none; unbindBehindTheSuite X.env n pos') (fun _ s7 => Q s7) X.xe s6 := fun {σ6 H6 Q} S6 hq => gone_ok (out_suite S6 good) nod at_ kln hq
    cases f with
    | next =>
      obtain ⟨σ6, H6, S6, q6⟩ := fin
      exact ends S6 fun s7 J7 => ⟨_, _, J7, q6⟩
    | brk =>
      obtain ⟨σ6, H6, S6, q6⟩ := fin
      exact ends S6 fun s7 J7 => ⟨_, _, J7, q6⟩
    | cont =>
      obtain ⟨σ6, H6, S6, q6⟩ := fin
      exact ends S6 fun s7 J7 => ⟨_, _, J7, q6⟩
    | ret u =>
      obtain ⟨v6, σ6, H6, S6, r6, q6⟩ := fin
      exact ends S6 fun s7 J7 => ⟨_, _, _, J7, r6, q6⟩
  | false =>
    show wpAny _ X.A (handleBy (.ref a) X.env []) _ _ _
    refine wpAny_handleBy_nil ?_
    obtain ⟨k1, k2, k3, oe, vs, T, oT, ts', he, hz, hd, h1, hr⟩ := id fl3
    unfold PySem.passOn
    refine wpAny_bind (wpAny_field he hd h1 ?_)
    rw [if_neg (show ¬ ((Value.ref T == Value.none) = true) from by simp)]
    have fin : wpAny (model X.prog X.w) X.A (setFlight (.ref a) X.env.frame) (fun _ s4 => wpAny (model X.prog X.w) X.A (throw (.ref a) : Sem Flow) (SP X pins D) X.xe s4) X.xe { s' with heap := h3 } := by
      rw [frm]
      refine HandSPX.setFlight_upZ fl3 fun h4 hh4 up4 => wpAny_throw (out _ _ ?_)
      exact ⟨a, B, sI, pins, σ', H', cls, d, rfl, J, nb, (up.trans up3).trans up4, .inr (.inr (by rw [stk]; exact hh4)), na, os, ag, no rfl⟩
    first
      | exact wpAny_bind (wpAny_pure (wpAny_bind fin))
      | exact wpAny_bind fin
end
end EXV
set_option Elab.async false
set_option linter.all false
set_option maxRecDepth 100000
set_option maxHeartbeats 4000000
/-! EXW: isinstance of a kept exception, and its fields -/
namespace EXW
open PySem PySem.Spec PySem.Calls PyProof.Rows
section
open PySem.W
variable {prog : Program} {w : World} {A : Around} {E : Value → Shared → Prop} {s : Shared} {K : Frag} {x D : Addr} {ox : Obj} {od : Option Obj}
theorem bound {C : Addr} {m : Str} {a g : Value} (hc : (clsIn K C).isSome = true) (ha : findIn K (.ref C) m = some (some a)) (hg : specialIn K a "__get__" = some (some g)) (ht : takesIn K a = some true) : findObj K C od m = some (.bind g a) := by
  obtain ⟨cd, hc⟩ := Option.isSome_iff_exists.mp hc
  simp only [findObj, hc, ha, hg, ht, Option.bind_some]
theorem cls_of {Q : Option Value → Shared → Prop} (X : L2.ExcC K D) (kin : K.In s.heap) (I : InstAt s.heap x ox D od) (post : Q (some (.ref D)) { s with toks := s.toks + 1 }) : wpAny (model prog w) A (getAttr? (.ref x) "__class__") Q E s := by
  have hf : findObj K D od "__class__" = some (.bind (.builtin "getset_descriptor.__get__") (.builtin "object.__class__")) := bound (by obtain ⟨cd, hc, _⟩ := any_some X.hd; rw [hc]; rfl) X.ha X.hn X.ht
  obtain ⟨hp, g, d, t, os⟩ := s
  have t0 := I.type (M := model prog w)
  have g1 := looks_findIn (M := model prog w) kin X.hg
  have g2 := looks_findIn (M := model prog w) kin X.hk
  have g3 := looks_find (M := model prog w) kin I hf
  have exc : Looks (model prog w) hp (isInstance (.ref x) (.type "BaseException")) true := t0.andThen (looks_subIn kin X.hs)
  have no1 : (Value.builtin "BaseException.__getattribute__" == Value.builtin "object.__getattribute__") = false := by decide +kernel
  have no2 : (onTheHeap (Value.ref D) && Value.builtin "BaseException.__getattribute__" == Value.builtin "object.__getattribute__") = false := by rw [no1]; rfl
  have no3 : (false && onTheHeap (Value.builtin "BaseException.__getattribute__")) = false := rfl
  unfold getAttr? getAttrBy? getAttrBy
  refine wpAny_bind (wpAny_mkText (wpAny_bind (wpAny_attempt (wpAny_holding (wpAny_bind (t0.at (wpAny_bind (g1.at ?_))))))))
  show wpAny _ _ (if (onTheHeap (Value.ref D) && Value.builtin "BaseException.__getattribute__" == Value.builtin "object.__getattribute__") = true then _ else _) _ _ _; rw [no2, if_neg Bool.false_ne_true]
  unfold getAttrByItsOwn hookBefore; refine wpAny_bind ?_
  rw [if_pos (show onTheHeap (Value.ref D) = true from rfl)]; refine g2.at ?_
  refine wpAny_bind (wpAny_attempt (wpAny_holding ?_)); unfold callGetattribute
  rw [no3, if_neg Bool.false_ne_true]; unfold boundAndCalled
  rw [PySem.F.excAttr_ValueError.ga.bind (.ref x)]; refine wpAny_bind (wpAny_pure ?_)
  show wpAny _ _ (call (.builtin "BaseException.__getattribute__") [.ref x, .str "__class__" t]) _ _ _; refine wpAny_call (codeAny_call_builtin PySem.F.excAttr_ValueError.ga.plain PySem.F.entry_bexc_ga ?_)
  refine @check_slot (model prog w) _ _ ⟨hp, g, d, t + 1, os⟩ "BaseException.__getattribute__" "BaseException" "__getattribute__" (.ref x) [.str "__class__" t] [] _ (by decide +kernel) (by decide +kernel) exc (PySem.F.args_bexc_ga (.ref x) (.str "__class__" t)) ?_
  unfold Builtin.«object.__getattribute__»; refine wpAny_bind (wpAny_of_eq (a := ((Value.ref x : Value), [Value.str "__class__" t])) (by first | rfl | (simp only [slotArgs]; rfl)) ?_)
  refine wpAny_bind (wpAny_pure (wpAny_bind (t0.at (wpAny_bind (g3.at ?_)))))
  show wpAny _ _ (holding [Value.builtin "object.__class__"] (call (.builtin "getset_descriptor.__get__") [.builtin "object.__class__", .ref x, .ref D]) >>= ret) _ _ _; refine wpAny_bind (wpAny_holding (wpAny_call (class_get (s := ⟨hp, g, d, t + 1, os⟩) (ox := ox) (od := od) kin I X.hm ?_)))
  refine wpAny_pure ?_; show wpAny _ _ (handedOut (.ref D)) _ _ _
  rw [handedOut_of (v := .ref D) rfl]
  first | exact wpAny_pure (wpAny_pure post) | exact wpAny_pure post | exact wpAny_pure (wpAny_bind (wpAny_pure (wpAny_pure post)))
theorem kit_of (X : L2.ExcC K D) : KitX K (.ref x) (.ref D) (fun h => ∃ ox od, InstAt h x ox D od) where
  ty := fun _ _ _ ⟨_, _, I⟩ => I.type
  it := fun _ _ kin _ => by
    obtain ⟨cdD, hcD, _⟩ := any_some X.hd
    unfold clsIn at hcD
    split at hcD
    · rename_i c' d' cd' sl' ho
      intro A' Q' E' s' k q; unfold isType loadHead
      exact wpAny_bind (wpAny_loadPart (k _ _ (kin _ _ ho)) (wpAny_pure q))
    · cases hcD
  ne := fun h tp dd its n sl kin htp => by
    obtain ⟨cdD, hcD, _⟩ := any_some X.hd
    refine Bool.eq_false_iff.mpr fun q => ?_
    obtain rfl : D = tp := Value.ref.inj (beq_iff_eq.mp q)
    unfold clsIn at hcD
    split at hcD
    · rename_i c' d' cd' sl' ho
      cases (kin _ _ ho).symm.trans htp
    · cases hcD
  ca := fun kin ⟨_, _, I⟩ k => cls_of X kin I k
end
open L2 EXV
/-- the dict of a kept exception, if it has one, is ours too -/
def Dct (H : Hp) (d : Option Addr) : Prop := d = none ∨ ∃ (dd : Addr) (fs : List (Str × V)), d = some dd ∧ H dd = some (.xd fs)
section
variable {X : Cx} {pins : List (Addr × Obj)} {σ : L2.St} {H : Hp} {s : Shared} {a D : Addr} {d : Option Addr}
theorem inst (I : Inv X pins σ H s) (e : H a = some (Xc (.ref D) d a)) (hd : Dct H d) : ∃ ox od, PySem.W.InstAt s.heap a ox D od ∧ ∀ dd fs, d = some dd → H dd = some (.xd fs) → ∃ (o : Obj) (mA : Str → Option Value), od = some o ∧ (∀ m, RelO (fs.lookup m) (mA m)) ∧ ∀ m, PySem.W.lookIn m o = some (mA m) := by
  obtain ⟨oe, vs, g, z, f⟩ := xc_at I.hok e
  have nc : PySem.W.notCls oe = true := by unfold PySem.W.notCls; rw [f] <;> rfl
  rcases hd with rfl | ⟨dd, fs, rfl, hx⟩
  · exact ⟨oe, none, ⟨g, z.1, nc, by rw [z.2]; trivial⟩, fun dd fs e => by cases e⟩
  · have hx' : ObjOk X.prog X.w H s.heap dd (.xd fs) := I.hok dd _ hx
    obtain ⟨mA, hns, hr⟩ := hx'
    obtain ⟨o, ho, hl⟩ := lookIn_ns hns
    refine ⟨oe, some o, ⟨g, z.1, nc, by rw [z.2]; exact ho⟩, fun dd' fs' e1 e2 => ?_⟩
    cases e1
    rw [hx] at e2
    cases e2
    exact ⟨o, mA, rfl, hr, hl⟩
/-- isinstance(e, c) of a kept exception -/
def rIsK (K : PySem.W.Frag) : List V → Hp → VK → Prop := fun xs H Q => ∃ (a D : Addr) (d : Option Addr) (c : V) (cv : Value) (b : Bool), xs = [.ref a, c] ∧ H a = some (Xc (.ref D) d a) ∧ Dct H d ∧ ExcC K D ∧ (∀ u, RelV c u → u = cv) ∧ PySem.W.kitOne K (.ref D) cv = some b ∧ Q (.bl b) H
theorem call_isK : CallR X (.builtin "isinstance") (rIsK X.K) := by
  intro pins s σ H xs us Q I r h
  obtain ⟨a, D, d, c, cv, b, rfl, ea, hd, C, hcv, e, q⟩ := h
  match us, r with
  | [_, _], .cons rx (.cons rt .nil) =>
    cases rx
    have ec := hcv _ rt
    subst ec
    obtain ⟨ox, od, J, _⟩ := inst I ea hd
    exact PySem.W.kia_one (kit_of C) I.kIn ⟨ox, od, J⟩ e (fun z => nomatch z) fun tk => ⟨.bl b, H, I.kept (t' := tk) fun _ _ z => z, rfl, q⟩
end
/-- e.f of a kept exception -/
def tXk (K : PySem.W.Frag) (f : Str) (te : TE) : TE := fun σ H Q => te σ H fun x H1 => ∃ (a C dd : Addr) (fs : List (Str × V)) (v : V), x = .ref a ∧ H1 a = some (Xc (.ref C) (some dd) a) ∧ H1 dd = some (.xd fs) ∧ XfC K C ∧ PySem.W.findIn K (.ref C) f = some none ∧ fs.lookup f = some v ∧ Q v H1
theorem pe_xk {X : Cx} {e : Expr} {te : TE} {pos : Pos} {n : Str} (he : PE X e te) (hb : attributeBase e n X.env (eval e X.env) = eval e X.env := by rfl) : PE X (.Attribute e n pos) (tXk X.K n te) := by
  refine ⟨fun pins s σ H Q I h => ?_⟩
  refine attr_of hb (thn (he.run pins s σ H _ I h) fun u s1 hh => ?_)
  obtain ⟨x, H1, I1, rx, a, C, dd, fs, v, rfl, ea, ed, T, hno, l, q⟩ := hh
  obtain rfl : u = Value.ref a := rx
  obtain ⟨ox, od, J, more⟩ := inst I1 ea (.inr ⟨dd, fs, rfl, ed⟩)
  obtain ⟨o, mA, rfl, hr, hl⟩ := more dd fs rfl ed
  obtain ⟨u, hu, ru⟩ := RelO.some_of (v := v) (o := mA n) (by rw [← l]; exact hr n)
  exact HandSPX.exc_get I1.kIn J T.ga T.gg T.exC (PySem.W.findObj_own T.hdC hno rfl (by rw [hl, hu])) (handed_of ru) ⟨v, H1, I1.tok _, ru, q⟩
end EXW
set_option Elab.async false
set_option linter.all false
set_option maxRecDepth 100000
set_option maxHeartbeats 4000000
/-! KTN: an except clause with a tuple of classes, however many. -/
namespace KTN
open PySem PySem.Spec PySem.Calls PyProof.Rows PySem.W
section
variable {M : Model} {A : Around} {E : Value → Shared → Prop} {s : Shared}
theorem skip {α β : Type} {f : α → β → Sem (ForInStep β)} {u : β} : ∀ (cs : List α) {Q : β → Shared → Prop}, (∀ c ∈ cs, ∀ Q' : ForInStep β → Shared → Prop, Q' (.yield u) s → wpAny M A (f c u) Q' E s) → Q u s → wpAny M A (forIn cs u f) Q E s
  | [], Q, _, q => by
    rw [List.forIn_nil]
    exact wpAny_pure q
  | c :: cs, Q, h, q => by
    rw [List.forIn_cons]
    exact wpAny_bind (h c List.mem_cons_self _ (skip cs (fun d hd => h d (List.mem_cons_of_mem _ hd)) q))
theorem find {α β : Type} {f : α → β → Sem (ForInStep β)} {u d : β} {p : α → Bool} : ∀ (cs : List α) {Q : β → Shared → Prop}, (∀ c ∈ cs, ∀ Q' : ForInStep β → Shared → Prop, Q' (if p c = true then .done d else .yield u) s → wpAny M A (f c u) Q' E s) → Q (if cs.any p = true then d else u) s → wpAny M A (forIn cs u f) Q E s
  | [], Q, _, q => by
    rw [List.forIn_nil]
    exact wpAny_pure q
  | c :: cs, Q, h, q => by
    rw [List.forIn_cons]
    refine wpAny_bind (h c List.mem_cons_self _ ?_)
    rw [List.any_cons] at q
    cases hp : p c with
    | true =>
      rw [hp] at q
      exact wpAny_pure q
    | false =>
      rw [hp] at q
      exact find cs (fun d hd => h d (List.mem_cons_of_mem _ hd)) q
end
/-- which of them an exception of the class is -/
def hit (K : Frag) (cls c : Value) : Bool := (exmOne K cls c).getD false
theorem any_hit {K : Frag} {cls : Value} : ∀ {cs : List Value} {b : Bool}, exmAny K cls cs = some b → (∀ c ∈ cs, exmOne K cls c = some (hit K cls c)) ∧ cs.any (hit K cls) = b
  | [], b, h => by
    cases h
    exact ⟨fun c hc => (nomatch hc), rfl⟩
  | c :: cs, b, h => by
    obtain ⟨b1, d1, e1, e2, rfl⟩ := exmAny_cons h
    obtain ⟨i1, i2⟩ := any_hit e2
    have hc : hit K cls c = b1 := by unfold hit; rw [e1]; rfl
    refine ⟨fun d hd => ?_, ?_⟩
    · rcases List.mem_cons.mp hd with rfl | hd
      · rw [hc]; exact e1
      · exact i1 d hd
    · rw [List.any_cons, hc, i2]
section
variable {M : Model} {K : Frag}
theorem exm_tupN {cs : List Value} {cls : Value} {tp e : Addr} {b : Bool} {h : Heap} (X : K.In h) (LT : Looks M h (typeOf (.ref e)) cls) (hp : h.get? tp = some { cls := .type "tuple", data := .seq cs.toArray }) (hx : exmAny K cls cs = some b) :
    Looks M h (excMatches (.ref e) (.ref tp)) b := by
  intro A Q E s k q
  have L0 : Looks M h (isInstance (.ref tp) (.type "tuple")) true := ((Looks.ld hp).andThen .now).andThen (Looks.of_pure isSubtype_tuple_tuple)
  obtain ⟨each, any⟩ := any_hit hx
  unfold excMatches
  refine wpAny_bind ((L0.keeps k).at ?_)
  dsimp only
  rw [if_pos rfl]
  first
    | refine wpAny_bind (wpAny_seqItems (k _ _ hp) rfl ?_)
    | refine wpAny_bind (wpAny_bind (wpAny_seqItems (k _ _ hp) rfl (wpAny_pure ?_)))
  dsimp only [Option.getD_some, Option.getD]
  refine wpAny_bind (wpAny_pure ?_)
  refine wpAny_bind (skip _ (fun c hc Q' q' => ?_) ?_)
  · refine wpAny_bind (((exm_cls (M := M) X (each c hc)).1.keeps k).at ?_)
    simp only [Bool.not_true, Bool.false_eq_true, if_false]
    first
      | exact wpAny_pure q'
      | exact wpAny_bind (wpAny_pure (wpAny_pure q'))
  refine wpAny_bind ((LT.keeps k).at ?_)
  refine wpAny_bind (find (p := hit K cls) (d := (some true, ())) _ (fun c hc Q' q' => ?_) ?_)
  · refine wpAny_bind (((exm_cls (M := M) X (each c hc)).2.keeps k).at ?_)
    revert q'
    cases hit K cls c <;> intro q' <;> simp only [Bool.false_eq_true, if_false, if_true] at q' ⊢
    · exact wpAny_pure q'
    · exact wpAny_pure q'
  rw [any]
  cases b <;> simp only [Bool.false_eq_true, if_false, if_true] <;> first
    | exact wpAny_pure q
    | exact q
end
end KTN
set_option Elab.async false
set_option linter.all false
set_option maxRecDepth 100000
set_option maxHeartbeats 4000000
/-! EXWT: isinstance of a kept exception, with a tuple of classes -/
namespace EXW
open PySem PySem.Spec PySem.Calls PyProof.Rows
open L2 EXV
section
variable {X : Cx}
/-- classes as values -/
def ClsVs (xs : List V) (cs : List Value) : Prop := ∀ us, Vals xs us → us = cs
theorem ClsVs.refs {as : List Addr} : ClsVs (as.map V.ref) (as.map Value.ref) := by
  induction as with
  | nil =>
    intro us r
    cases r
    rfl
  | cons a as ih =>
    intro us r
    cases r with
    | cons r t =>
      cases (show _ = Value.ref a from r)
      rw [ih _ t]
      rfl
/-- isinstance(e, (c, ..)) of a kept exception -/
def rIsKT (K : PySem.W.Frag) : List V → Hp → VK → Prop := fun xs H Q => ∃ (a D t : Addr) (d : Option Addr) (ys : List V) (cs : List Value) (b : Bool), xs = [.ref a, .ref t] ∧ H a = some (Xc (.ref D) d a) ∧ Dct H d ∧ ExcC K D ∧ SqT K H t ys ∧ ClsVs ys cs ∧ PySem.W.kitAny K (.ref D) cs = some b ∧ Q (.bl b) H
theorem call_isKT : CallR X (.builtin "isinstance") (rIsKT X.K) := by
  intro pins s σ H xs us Q I r h
  obtain ⟨a, D, t, d, ys, cs, b, rfl, ea, hd, C, ht, hcs, e, q⟩ := h
  match us, r with
  | [_, _], .cons rx (.cons rt .nil) =>
    cases rx
    cases (show _ = Value.ref t from rt)
    obtain ⟨ox, od, J, _⟩ := inst I ea hd
    obtain ⟨its, rv, ⟨⟨oc, dd, dt, sl⟩, ho, hc, n, hdt⟩, _⟩ := I.tuple ht
    have ei := hcs its rv
    subst ei
    simp only at hc hdt
    subst hc hdt
    exact PySem.W.kia_tup (kit_of C) I.kIn ⟨ox, od, J⟩ ho e (fun z => nomatch z) fun tk => ⟨.bl b, H, I.kept (t' := tk) fun _ _ z => z, rfl, q⟩
end
end EXW
set_option Elab.async false
set_option linter.all false
set_option maxRecDepth 100000
set_option maxHeartbeats 4000000
/-! R2: dict(zip(keys, values)) of two lists; xs.count(b) of truths. -/
namespace R2
open PySem PySem.Spec PyProof.Rows L2
section
variable {X : Cx}
def eqb (b : Bool) : Value → Bool
  | .bool c => c == b
  | _ => false
theorem vals_bl {bs : List Bool} : ∀ {us : List Value}, Vals (bs.map V.bl) us → us = bs.map Value.bool := by
  induction bs with
  | nil =>
    intro us r
    cases r
    rfl
  | cons b bs ih =>
    intro us r
    rw [List.map_cons] at r
    cases r with
    | cons h t =>
      rw [ih t]
      have : _ = Value.bool b := h
      rw [this]
      rfl
theorem count_b (b : Bool) : ∀ bs : List Bool, (bs.map Value.bool).countP (eqb b) = bs.count b
  | [] => rfl
  | c :: bs => by
    rw [List.map_cons, List.countP_cons, List.count_cons, count_b b bs]
    rfl
theorem mt_bcount : MtR X "list.count" (fun x xs H Q => ∃ (p : Addr) (bs : List Bool) (b : Bool), x = .ref p ∧ xs = [.bl b] ∧ SqL X.K H p (bs.map V.bl) ∧ Q (.int (bs.count b : Nat)) H) := by
  intro pins s σ H x xs v us Q I rx rxs h
  obtain ⟨p, bs, b, rfl, rfl, hs, q⟩ := h
  cases rx
  obtain ⟨u, rfl, ru⟩ := rxs.one
  cases (show u = Value.bool b from ru)
  obtain ⟨its, rv, ⟨⟨cls, dd, data, sl⟩, n, ho, hc, hdn, hd⟩, hlen⟩ := I.list hs
  simp only at hc hd
  subst hc hd
  have hi := vals_bl rv
  subst hi
  refine call_meets PySem.F.slot_list_count ⟨_, ho, rfl⟩ PySem.F.entry_list_count (PySem.F.args_list_count_2 _ _) (SeqAt.list_countAt p _ n dd sl (.bool b) (eqb b)) ⟨ho, fun y hy => ?_, ?_⟩
  · have hy' : y ∈ bs.map Value.bool := by simpa using hy
    obtain ⟨c, _, rfl⟩ := List.mem_map.mp hy'
    exact SeqAt.EqAt.bool_bool c b
  · refine ⟨.int (bs.count b : Nat), H, I.tok _, ⟨s.toks, ?_⟩, q⟩
    show Value.int (((bs.map Value.bool).toArray.toList.countP (eqb b) : Nat) : Int) s.toks = Value.int ((bs.count b : Nat) : Int) s.toks
    rw [show (bs.map Value.bool).toArray.toList = bs.map Value.bool from rfl, count_b]
/-- dict(zip(e, e2)): two lists of one length, the keys ints and texts -/
def tDz (K : PySem.W.Frag) (ta : TA) : TE := fun σ H Q => ta σ H fun vs H1 => ∃ (a b : Addr) (kvs : List (Key × V)), vs = [.ref a, .ref b] ∧ SqL K H1 a (kvs.map fun q => kV q.1) ∧ SqL K H1 b (kvs.map (·.2)) ∧
  ∀ p, H1 p = none → Q (.ref p) (upd H1 p (.dK (mergeK [] kvs)))
theorem key_at (P : Program) (w : World) {kvs : List (Key × V)} : ∀ {us ws : List Value}, Vals (kvs.map fun q => kV q.1) us → Vals (kvs.map (·.2)) ws →
    ∃ prs : List (Key × Value), KV kvs prs ∧ prs.length = us.length ∧ ws.length = us.length ∧ ∀ (i : Nat) (k v : Value), us[i]? = some k → ws[i]? = some v → ∃ q, prs[i]? = some (q, v) ∧ keyIs q k = true := by
  induction kvs with
  | nil =>
    intro us ws r1 r2
    cases r1
    cases r2
    exact ⟨[], .nil, rfl, rfl, fun i k v h => by simp at h⟩
  | cons kv kvs ih =>
    intro us ws r1 r2
    rw [List.map_cons] at r1 r2
    cases r1 with
    | @cons _ u _ us' h1 t1 =>
      cases r2 with
      | @cons _ y _ ws' h2 t2 =>
        obtain ⟨prs, a, b, c, d⟩ := ih t1 t2
        refine ⟨(kv.1, y) :: prs, .cons ⟨rfl, h2⟩ a, by rw [List.length_cons, List.length_cons, b], by rw [List.length_cons, List.length_cons, c], fun i k v e1 e2 => ?_⟩
        cases i with
        | zero =>
          have e1' : u = k := Option.some.inj e1
          have e2' : y = v := Option.some.inj e2
          subst e1' e2'
          exact ⟨kv.1, rfl, kV_is (P := P) (w := w) h1⟩
        | succ i => exact d i k v e1 e2
theorem pe_dz {e e2 : Expr} {ta : TA} {p p2 pos pos2 : Pos} (hc : X.calm = true) (hg : Gl X "dict") (hm : X.mg "dict" = none) (hg2 : Gl X "zip") (hm2 : X.mg "zip" = none) (ha : PA X [e, e2] ta)
    (hs : starEach [e, e2] X.env = (false, eval e X.env) :: starEach [e2] X.env := by rfl) (hpl : (backTo pos2 (starEach [e2] X.env)).any (·.1) = false := by rfl)
    (hs2 : starEach [.Call (.Name "zip" p2) [e, e2] [] pos2] X.env = (false, eval (.Call (.Name "zip" p2) [e, e2] [] pos2) X.env) :: starEach [] X.env := by rfl) :
    PE X (.Call (.Name "dict" p) [.Call (.Name "zip" p2) [e, e2] [] pos2] [] pos) (tDz X.K ta) := by
  refine ⟨fun pins s σ H Q I h => ?_⟩
  refine Call_ (ld_blt I hg hm boot_dict (PyProof.Rows.callWith_type1 (args_cons (Call_ (ld_blt I hg2 hm2 PyProof.Rows.boot_zip (PyProof.Rows.callWith_type1 (thn (ha.run pos2 pins s σ H _ I h) fun us s1 z => ?_) hs hpl))) hs2) hs2 rfl))
  obtain ⟨vs, H1, I1, r1, a, b, kvs, ev, hqa, hqb, q⟩ := z
  subst ev
  cases r1 with
  | cons ra rr =>
    cases rr with
    | cons rb rr =>
      cases rr
      cases ra
      cases rb
      obtain ⟨its, rv, p1, z1⟩ := I1.list hqa
      obtain ⟨its2, rv2, p2', _⟩ := I1.list hqb
      obtain ⟨prs, kv, hl, hl2, hk⟩ := key_at X.prog X.w rv rv2
      have la : a < s1.heap.objs.size := p1.lt
      have lb : b < s1.heap.objs.size := p2'.lt
      have hz : its.length ≤ sizeLine := by rw [← rv.length]; exact z1
      refine call_zip_2 p1.isList p2'.isList fun h' iz iTI iTO i1 i2 hsz hkeep => args_nil ?_
      have Z := PySem.PairArg.zip (prog := X.prog) (w := X.w) (s1.heap.objs.size + 4) (s1.heap.objs.size + 2) (s1.heap.objs.size + 3) s1.heap.objs.size (s1.heap.objs.size + 1) a b (PySem.W.ktu_apart s1.heap.objs.size a b la lb) its.toArray its2.toArray
      have hmin : min its.toArray.size its2.toArray.size = its.length := by
        rw [List.size_toArray, List.size_toArray, hl2]
        exact Nat.min_self _
      have l1' : h'.IsList a its.toArray := p1.isList.at fun o e => hkeep _ o e
      have l2' : h'.IsList b its2.toArray := p2'.isList.at fun o e => hkeep _ o e
      refine call_dict_pairs (knd := mixKind X.prog X.w) (kvs := prs) Z (I1.ok.hd hc) ⟨iz, iTI, ⟨_, _, iTO⟩, i1, i2, l1', l2'⟩ ⟨by rw [hmin, hl], fun i k v hh => ?_⟩ (by rw [hmin]; exact hz) fun h2 tk hd2 k2 => ?_
      · obtain ⟨e1, e2⟩ := hh
        obtain ⟨q0, e3, e4⟩ := hk i k v (by simpa using e1) (by simpa using e2)
        exact ⟨q0, e3, e4⟩
      · have hp : s1.heap.objs.size ≤ h'.objs.size := by rw [hsz]; exact Nat.le_add_right _ _
        have hmain : (h'.objs.size == sysModules) = false := beq_eq_false_iff_ne.mpr (Nat.ne_of_gt (Nat.lt_of_lt_of_le I1.big hp))
        have hlen : (mergeK [] kvs).length ≤ sizeLine := by
          refine Nat.le_trans (length_mergeK kvs []) ?_
          have := kv.length
          rw [List.length_nil, Nat.zero_add, this, hl]
          exact hz
        have keep : ∀ c o, s1.heap.get? c = some o → h2.get? c = some o := fun c o e => by
          refine k2 c o ?_ (hkeep c o e)
          have lt := Heap.lt_size e
          have far : ∀ j, c ≠ s1.heap.objs.size + j := fun j => Nat.ne_of_lt (Nat.lt_of_lt_of_le lt (Nat.le_add_right _ _))
          intro hm
          simp only [List.mem_cons, List.not_mem_nil, or_false] at hm
          rcases hm with z | z | z | z
          · exact far 4 z
          · exact far 3 z
          · exact far 0 z
          · exact far 1 z
        exact ⟨.ref h'.objs.size, upd H1 h'.objs.size (.dK (mergeK [] kvs)), I1.laid (t' := tk) keep hp (show ObjOk X.prog X.w _ _ _ (.dK (mergeK [] kvs)) from ⟨hlen, hmain, merged [] prs, KV.merge kv .nil, hd2⟩), rfl, q _ (I1.hok.fresh hp)⟩
end
end R2
set_option Elab.async false
set_option linter.all false
set_option maxRecDepth 100000
set_option maxHeartbeats 4000000
namespace K16
open PySem PySem.Spec PyProof.Rows L2
open C8 (Cal Mak Met pe_c pe_mk pe_mt pe_mt0)
open EXV (Xc)
open EXW (Dct)
abbrev ex16 : List Str := [("NoKind" : Str), ("Nought" : Str), ("NoShare" : Str), ("Uneven" : Str), ("BadName" : Str), ("NoNumber" : Str), ("NoRide" : Str), ("NoText" : Str), ("NoName" : Str), ("NoDay" : Str), ("NoSeats" : Str), ("TooMany" : Str), ("Taken" : Str), ("NoRule" : Str), ("NothingDone" : Str), ("NoRow" : Str)]
abbrev exF : List Str := [("BadName" : Str), ("NoNumber" : Str), ("NoRide" : Str), ("NoText" : Str), ("NoName" : Str), ("NoDay" : Str), ("NoSeats" : Str), ("Taken" : Str), ("TooMany" : Str), ("NoRule" : Str), ("NothingDone" : Str), ("NoRow" : Str)]
abbrev ex7 : List String := ["ValueError", "KeyError", "IndexError", "LookupError", "ArithmeticError", "RuntimeError", "TypeError"]
abbrev kw12 : List Str := [("bad" : Str), ("number" : Str), ("ride" : Str), ("text" : Str), ("name" : Str), ("day" : Str), ("seats" : Str), ("taken" : Str), ("many" : Str), ("rule" : Str), ("done" : Str), ("row" : Str)]
/-- what is known of a refusal's class D: which of the own ones it is (ow), which of the seven stand above it (ab) -/
structure Ex (K : PySem.W.Frag) (mg : Str → Option Value) (D : Addr) (ow : Str → Bool) (ab : String → Bool) : Prop where
  gl : ∀ x ∈ ex16, mg x = some (.ref (He.ga K x))
  bt : ∀ x ∈ ex7, mg (Str.ofString x) = none
  xc : ExcC K D
  ko : ∀ x ∈ ex16, PySem.W.kitOne K (.ref D) (.ref (He.ga K x)) = some (ow x)
  kb : ∀ x ∈ ex7, PySem.W.kitOne K (.ref D) (.type x) = some (ab x)
/-- the flags -/
def flg (ow : Str → Bool) : List Bool := (exF.map ow) ++ [ow "NoKind" || ow "Nought", ow "NoShare" || ow "Uneven"]
/-- what stands above -/
def abv (ab : String → Bool) : List Bool := ex7.map ab
def mustOf (w : Str) : List Int := ((([("name", [1, 3]), ("day", [3]), ("seats", [2, 3]), ("taken", [5]), ("many", [4]), ("rule", [5]), ("done", []), ("row", [])] : List (Str × List Int)).find? fun q => decide (q.1 = w)).map (·.2)).getD [0]
/-- the places of those above -/
def seenOf (bs : List Bool) : List Int := ((List.range 7).filter fun i => bs.getD i false).map fun i => ((i : Nat) : Int)
/-- the word of it -/
structure WordOk (ow : Str → Bool) (ab : String → Bool) (w : Str) : Prop where
  one : (flg ow).count true = 1
  at_ : ∃ j, j ≤ 11 ∧ (flg ow)[j]? = some true ∧ (∀ m, m < j → (flg ow)[m]? = some false) ∧ kw12[j]? = some w
  seen : seenOf (abv ab) = mustOf w
theorem flt_t {p : Nat → Bool} {f : Nat → Int} {i : Nat} (h : p i = true) : ((List.range (i + 1)).filter p).map f = ((List.range i).filter p).map f ++ [f i] := by
  rw [List.range_succ, List.filter_append, List.map_append]
  simp [h]
theorem flt_f {p : Nat → Bool} {f : Nat → Int} {i : Nat} (h : p i = false) : ((List.range (i + 1)).filter p).map f = ((List.range i).filter p).map f := by
  rw [List.range_succ, List.filter_append, List.map_append]
  simp [h]
theorem kit_any {K : PySem.W.Frag} {t : Value} {g : Value → Bool} : ∀ {cs : List Value}, (∀ c ∈ cs, PySem.W.kitOne K t c = some (g c)) → PySem.W.kitAny K t cs = some (cs.any g)
  | [], _ => rfl
  | c :: cs, h => by
    unfold PySem.W.kitAny
    rw [h c List.mem_cons_self, List.any_cons]
    cases g c with
    | true => rfl
    | false => exact kit_any fun d hd => h d (List.mem_cons_of_mem _ hd)
theorem dct_same {H H' : Hp} {d : Option Addr} (h : Dct H d) (s : Same H H') : Dct H' d := by
  rcases h with h | ⟨dd, fs, e, h⟩
  · exact .inl h
  · exact .inr ⟨dd, fs, e, s _ _ h⟩
theorem dp_bls {K : PySem.W.Frag} {H : Hp} : ∀ bs : List Bool, DpAll K H (bs.map V.bl) (bs.map .bool)
  | [] => .nil
  | b :: bs => .cons (.bl b) (dp_bls bs)
theorem dp_ints {K : PySem.W.Frag} {H : Hp} : ∀ is : List Int, DpAll K H (is.map V.int) (is.map .int)
  | [] => .nil
  | i :: is => .cons (.int i) (dp_ints is)
theorem sh_bls (bs : List Bool) : SeqAt.shaped (.list (bs.map PyData.bool)) = true := by
  have h : PyData.canLayAll0 (bs.map PyData.bool) = true ∧ PyData.depthAll (bs.map PyData.bool) = 0 := by
    induction bs with
    | nil => exact ⟨rfl, rfl⟩
    | cons b bs ih => simp [PyData.canLayAll0, PyData.canLay0, PyData.depthAll, PyData.depth, ih.1, ih.2]
  simp [SeqAt.shaped, PyData.canLay0, PyData.depth, h.1, h.2]
theorem sh_ints (is : List Int) : SeqAt.shaped (.list (is.map PyData.int)) = true := by
  have h : PyData.canLayAll0 (is.map PyData.int) = true ∧ PyData.depthAll (is.map PyData.int) = 0 := by
    induction is with
    | nil => exact ⟨rfl, rfl⟩
    | cons b bs ih => simp [PyData.canLayAll0, PyData.canLay0, PyData.depthAll, PyData.depth, ih.1, ih.2]
  simp [SeqAt.shaped, PyData.canLay0, PyData.depth, h.1, h.2]
theorem eq_ints (is : List Int) : PyData.eqv (.list (is.map PyData.int)) (.list (is.map PyData.int)) = true := by
  rw [show ∀ a b : List PyData, PyData.eqv (.list a) (.list b) = PyData.eqvAll a b from fun a b => by rw [PyData.eqv]]
  induction is with
  | nil => simp [PyData.eqvAll]
  | cons i is ih => rw [List.map_cons, PyData.eqvAll, ih]; simp [PyData.eqv]
theorem split12 : Txt.split "bad number ride text name day seats taken many rule done row" " " = kw12 := by decide +kernel
section
variable {P : Program} {w : World} {K : PySem.W.Frag} {mg : Str → Option Value} {base : Heap} {f C CT D : Addr} {fd : FuncData} {ow : Str → Bool} {ab : String → Bool} {wd : Str}
def spWd (D : Addr) (wd : Str) : Sp := fun vs H Q _ => ∃ (a : Addr) (d : Option Addr), vs = [.ref a] ∧ H a = some (Xc (.ref D) d a) ∧ Dct H d ∧ ∀ H', Same H H' → Q (.str wd) H'
theorem ok_wd (F : Dn K d_l_word f fd) (b : Bl mg) (T : Ex K mg D ow ab) (W : WordOk ow ab wd) : FnOk P w K mg base CX0 1 f fd ["_law_e"] (spWd D wd) := by
  refine F.ok sc_l_word (fun vs H Q E h => ?_) (fun cdv A outer s H vs Q E hr h => ?_)
  · obtain ⟨a, d, rfl, _⟩ := h
    rfl
  · obtain ⟨a, d, rfl, ha, hd, hQ⟩ := h
    have hu : (A.deeper (envOfC d_l_word.qual d_l_word.scope s.heap.objs.size f cdv)).units + 1 < cLine := hu_of hr
    have hu64 : (A.deeper (envOfC d_l_word.qual d_l_word.scope s.heap.objs.size f cdv)).units + 64 < cLine := by have := hr.un; omega
    have hu65 : (A.deeper (envOfC d_l_word.qual d_l_word.scope s.heap.objs.size f cdv)).units + 65 < cLine := by have := hr.un; omega
    refine ⟨_, PSs.nox (pss_cons (ps_set (i := 1) sc_l_word.nd rfl (.inl rfl) (pe_lst (pa_cons (pe_callB (r := EXW.rIsK K) EXW.call_isK rfl b.isi boot_isinstance (pa_cons (pv 0) (pa_cons (pe_glob (v := .ref (He.ga K "BadName")) rfl (T.gl "BadName" (by decide +kernel)) rfl) pa_nil))) (pa_cons (pe_callB (r := EXW.rIsK K) EXW.call_isK rfl b.isi boot_isinstance (pa_cons (pv 0) (pa_cons (pe_glob (v := .ref (He.ga K "NoNumber")) rfl (T.gl "NoNumber" (by decide +kernel)) rfl) pa_nil))) (pa_cons (pe_callB (r := EXW.rIsK K) EXW.call_isK rfl b.isi boot_isinstance (pa_cons (pv 0) (pa_cons (pe_glob (v := .ref (He.ga K "NoRide")) rfl (T.gl "NoRide" (by decide +kernel)) rfl) pa_nil))) (pa_cons (pe_callB (r := EXW.rIsK K) EXW.call_isK rfl b.isi boot_isinstance (pa_cons (pv 0) (pa_cons (pe_glob (v := .ref (He.ga K "NoText")) rfl (T.gl "NoText" (by decide +kernel)) rfl) pa_nil))) pa_nil))))))
      (pss_cons (ps_set (i := 1) sc_l_word.nd rfl (.inl rfl) (pe_op op_cat (pv 1) (pe_lst (pa_cons (pe_callB (r := EXW.rIsK K) EXW.call_isK rfl b.isi boot_isinstance (pa_cons (pv 0) (pa_cons (pe_glob (v := .ref (He.ga K "NoName")) rfl (T.gl "NoName" (by decide +kernel)) rfl) pa_nil))) (pa_cons (pe_callB (r := EXW.rIsK K) EXW.call_isK rfl b.isi boot_isinstance (pa_cons (pv 0) (pa_cons (pe_glob (v := .ref (He.ga K "NoDay")) rfl (T.gl "NoDay" (by decide +kernel)) rfl) pa_nil))) (pa_cons (pe_callB (r := EXW.rIsK K) EXW.call_isK rfl b.isi boot_isinstance (pa_cons (pv 0) (pa_cons (pe_glob (v := .ref (He.ga K "NoSeats")) rfl (T.gl "NoSeats" (by decide +kernel)) rfl) pa_nil))) (pa_cons (pe_callB (r := EXW.rIsK K) EXW.call_isK rfl b.isi boot_isinstance (pa_cons (pv 0) (pa_cons (pe_glob (v := .ref (He.ga K "Taken")) rfl (T.gl "Taken" (by decide +kernel)) rfl) pa_nil))) pa_nil)))))))
      (pss_cons (ps_set (i := 1) sc_l_word.nd rfl (.inl rfl) (pe_op op_cat (pv 1) (pe_lst (pa_cons (pe_callB (r := EXW.rIsK K) EXW.call_isK rfl b.isi boot_isinstance (pa_cons (pv 0) (pa_cons (pe_glob (v := .ref (He.ga K "TooMany")) rfl (T.gl "TooMany" (by decide +kernel)) rfl) pa_nil))) (pa_cons (pe_callB (r := EXW.rIsK K) EXW.call_isK rfl b.isi boot_isinstance (pa_cons (pv 0) (pa_cons (pe_glob (v := .ref (He.ga K "NoRule")) rfl (T.gl "NoRule" (by decide +kernel)) rfl) pa_nil))) (pa_cons (pe_callB (r := EXW.rIsK K) EXW.call_isK rfl b.isi boot_isinstance (pa_cons (pv 0) (pa_cons (pe_glob (v := .ref (He.ga K "NothingDone")) rfl (T.gl "NothingDone" (by decide +kernel)) rfl) pa_nil))) (pa_cons (pe_callB (r := EXW.rIsK K) EXW.call_isK rfl b.isi boot_isinstance (pa_cons (pv 0) (pa_cons (pe_glob (v := .ref (He.ga K "NoRow")) rfl (T.gl "NoRow" (by decide +kernel)) rfl) pa_nil))) pa_nil)))))))
      (pss_cons (ps_set (i := 1) sc_l_word.nd rfl (.inl rfl) (pe_op op_cat (pv 1) (pe_lst (pa_cons (pe_callB (r := EXW.rIsKT K) EXW.call_isKT rfl b.isi boot_isinstance (pa_cons (pv 0) (pa_cons (pe_tup (pa_cons (pe_glob (v := .ref (He.ga K "NoKind")) rfl (T.gl "NoKind" (by decide +kernel)) rfl) (pa_cons (pe_glob (v := .ref (He.ga K "Nought")) rfl (T.gl "Nought" (by decide +kernel)) rfl) pa_nil))) pa_nil))) (pa_cons (pe_callB (r := EXW.rIsKT K) EXW.call_isKT rfl b.isi boot_isinstance (pa_cons (pv 0) (pa_cons (pe_tup (pa_cons (pe_glob (v := .ref (He.ga K "NoShare")) rfl (T.gl "NoShare" (by decide +kernel)) rfl) (pa_cons (pe_glob (v := .ref (He.ga K "Uneven")) rfl (T.gl "Uneven" (by decide +kernel)) rfl) pa_nil))) pa_nil))) pa_nil)))))
      (pss_cons (ps_set (i := 2) sc_l_word.nd rfl (.inr rfl) (pe_lst (pa_cons (pe_callB (r := EXW.rIsK K) EXW.call_isK rfl b.isi boot_isinstance (pa_cons (pv 0) (pa_cons (pe_bltn (v := .ty "ValueError") rfl (T.bt "ValueError" (by decide +kernel)) PyProof.Rows.Boot.«ValueError» rfl) pa_nil))) (pa_cons (pe_callB (r := EXW.rIsK K) EXW.call_isK rfl b.isi boot_isinstance (pa_cons (pv 0) (pa_cons (pe_bltn (v := .ty "KeyError") rfl (T.bt "KeyError" (by decide +kernel)) PyProof.Rows.Boot.«KeyError» rfl) pa_nil))) (pa_cons (pe_callB (r := EXW.rIsK K) EXW.call_isK rfl b.isi boot_isinstance (pa_cons (pv 0) (pa_cons (pe_bltn (v := .ty "IndexError") rfl (T.bt "IndexError" (by decide +kernel)) PyProof.Rows.Boot.«IndexError» rfl) pa_nil))) (pa_cons (pe_callB (r := EXW.rIsK K) EXW.call_isK rfl b.isi boot_isinstance (pa_cons (pv 0) (pa_cons (pe_bltn (v := .ty "LookupError") rfl (T.bt "LookupError" (by decide +kernel)) PyProof.Rows.Boot.«LookupError» rfl) pa_nil))) pa_nil))))))
      (pss_cons (ps_set (i := 2) sc_l_word.nd rfl (.inr rfl) (pe_op op_cat (pv 2) (pe_lst (pa_cons (pe_callB (r := EXW.rIsK K) EXW.call_isK rfl b.isi boot_isinstance (pa_cons (pv 0) (pa_cons (pe_bltn (v := .ty "ArithmeticError") rfl (T.bt "ArithmeticError" (by decide +kernel)) PyProof.Rows.Boot.«ArithmeticError» rfl) pa_nil))) (pa_cons (pe_callB (r := EXW.rIsK K) EXW.call_isK rfl b.isi boot_isinstance (pa_cons (pv 0) (pa_cons (pe_bltn (v := .ty "RuntimeError") rfl (T.bt "RuntimeError" (by decide +kernel)) PyProof.Rows.Boot.«RuntimeError» rfl) pa_nil))) (pa_cons (pe_callB (r := EXW.rIsK K) EXW.call_isK rfl b.isi boot_isinstance (pa_cons (pv 0) (pa_cons (pe_bltn (v := .ty "TypeError") rfl (T.bt "TypeError" (by decide +kernel)) PyProof.Rows.Boot.«TypeError» rfl) pa_nil))) pa_nil))))))
      (pss_cons (ps_set (i := 3) sc_l_word.nd rfl (.inl rfl) (pe_bm PySem.F.plainAttrs_str PySem.F.slot_str_split PySem.F.type_str_split mt_split pe_str (pa_cons pe_str pa_nil)))
      (pss_cons (ps_set (i := 4) sc_l_word.nd rfl (.inl rfl) (pe_disp (pps_cons pe_str (pe_lst (pa_cons pe_int (pa_cons pe_int pa_nil))) (pps_cons pe_str (pe_lst (pa_cons pe_int pa_nil)) (pps_cons pe_str (pe_lst (pa_cons pe_int (pa_cons pe_int pa_nil))) (pps_cons pe_str (pe_lst (pa_cons pe_int pa_nil)) (pps_cons pe_str (pe_lst (pa_cons pe_int pa_nil)) (pps_cons pe_str (pe_lst (pa_cons pe_int pa_nil)) (pps_cons pe_str (pe_lst pa_nil) (pps_cons pe_str (pe_lst pa_nil) pps_nil)))))))) rfl rfl (List.cons_ne_nil _ _) (by decide)))
      (pss_cons (ps_if (PW.pt (pw_or (pt_cmpR op_ne (pe_bm PySem.F.plainAttrs_list PySem.F.slot_list_count PySem.F.type_list_count R2.mt_bcount (pv 1) (pa_cons pe_bl pa_nil)) pe_int (nomark _)) (pw_or1 (pt_cmpR op_gt (pe_bm (r := rIndexD K) PySem.F.plainAttrs_list PySem.F.slot_list_index PySem.F.type_list_index (mt_indexD hu65) (pv 1) (pa_cons pe_bl pa_nil)) pe_int (nomark _))))) pss_never pss_nil)
      (pss_cons (ps_par (i := 5) (j := 6) (by rfl) sc_l_word.nd rfl rfl (by decide) rfl rfl (pa_cons (pe_ix ix_list (pv 3) (pe_bm (r := rIndexD K) PySem.F.plainAttrs_list PySem.F.slot_list_index PySem.F.type_list_index (mt_indexD hu65) (pv 1) (pa_cons pe_bl pa_nil)) (fun _ _ => rfl)) (pa_cons (pe_lc (own := [("_law_k", 7)]) (g := gName 7) rfl sc_l_word.nd (pi_range1 rfl b.range (pa_cons pe_int pa_nil)) (blkOk_by (N := N_l_word) (sc := defScope s_l_word) (by decide +kernel)) (fun _ _ _ _ _ => pg_name (i := 7) sc_l_word.nd rfl (Or.inl rfl)) (fun _ _ _ _ _ => pts_one (pt_val (pe_ix (r := rIxL K) ix_list (pv 2) (pv 7) (fun _ _ => rfl)))) (fun _ _ _ _ _ => pv 7)) pa_nil)) (by rfl))
      (pss_one (ps_ret (pe_ifExp (pt_cmpR (op_eqD hu64) (pv 6) (pe_dget2 hu (pv 4) (pv 5) (pe_lst (pa_cons pe_int pa_nil)) ⟨rfl, rfl, rfl, rfl⟩) (nomark _)) (pv 5) pe_str))))))))))))), ?_⟩
    have sm := Same.refl H
    refine ⟨_, rfl, a, D, d, _, _, _, rfl, ha, hd, T.xc, fun u r => (by cases r; rfl), T.ko "BadName" (by decide +kernel), ?_⟩
    refine ⟨_, rfl, a, D, d, _, _, _, rfl, ha, hd, T.xc, fun u r => (by cases r; rfl), T.ko "NoNumber" (by decide +kernel), ?_⟩
    refine ⟨_, rfl, a, D, d, _, _, _, rfl, ha, hd, T.xc, fun u r => (by cases r; rfl), T.ko "NoRide" (by decide +kernel), ?_⟩
    refine ⟨_, rfl, a, D, d, _, _, _, rfl, ha, hd, T.xc, fun u r => (by cases r; rfl), T.ko "NoText" (by decide +kernel), ?_⟩
    refine ⟨by show 4 ≤ sizeLine; decide, fun p1 f1 => ?_⟩
    have s1 := same_new (o := .lst [V.bl (ow "BadName"), V.bl (ow "NoNumber"), V.bl (ow "NoRide"), V.bl (ow "NoText")]) f1
    have e1 : (upd H p1 (.lst [V.bl (ow "BadName"), V.bl (ow "NoNumber"), V.bl (ow "NoRide"), V.bl (ow "NoText")])) p1 = some (.lst [V.bl (ow "BadName"), V.bl (ow "NoNumber"), V.bl (ow "NoRide"), V.bl (ow "NoText")]) := upd_same
    have ha := s1 _ _ ha
    have hd := dct_same hd s1
    have sm := sm.trans s1
    generalize upd H p1 (.lst [V.bl (ow "BadName"), V.bl (ow "NoNumber"), V.bl (ow "NoRide"), V.bl (ow "NoText")]) = G1 at sm e1 hd ha ⊢
    clear s1
    have hl := e1
    refine ⟨_, rfl, ?_⟩
    refine ⟨_, rfl, a, D, d, _, _, _, rfl, ha, hd, T.xc, fun u r => (by cases r; rfl), T.ko "NoName" (by decide +kernel), ?_⟩
    refine ⟨_, rfl, a, D, d, _, _, _, rfl, ha, hd, T.xc, fun u r => (by cases r; rfl), T.ko "NoDay" (by decide +kernel), ?_⟩
    refine ⟨_, rfl, a, D, d, _, _, _, rfl, ha, hd, T.xc, fun u r => (by cases r; rfl), T.ko "NoSeats" (by decide +kernel), ?_⟩
    refine ⟨_, rfl, a, D, d, _, _, _, rfl, ha, hd, T.xc, fun u r => (by cases r; rfl), T.ko "Taken" (by decide +kernel), ?_⟩
    refine ⟨by show 4 ≤ sizeLine; decide, fun p2 f2 => ?_⟩
    have s2 := same_new (o := .lst [V.bl (ow "NoName"), V.bl (ow "NoDay"), V.bl (ow "NoSeats"), V.bl (ow "Taken")]) f2
    have e2 : (upd G1 p2 (.lst [V.bl (ow "NoName"), V.bl (ow "NoDay"), V.bl (ow "NoSeats"), V.bl (ow "Taken")])) p2 = some (.lst [V.bl (ow "NoName"), V.bl (ow "NoDay"), V.bl (ow "NoSeats"), V.bl (ow "Taken")]) := upd_same
    have ha := s2 _ _ ha
    have hl := s2 _ _ hl
    have hd := dct_same hd s2
    have sm := sm.trans s2
    generalize upd G1 p2 (.lst [V.bl (ow "NoName"), V.bl (ow "NoDay"), V.bl (ow "NoSeats"), V.bl (ow "Taken")]) = G2 at sm e2 hd ha hl ⊢
    clear s2
    refine ⟨p1, p2, _, _, rfl, rfl, hl, e2, by show 8 ≤ sizeLine; decide, fun p3 f3 => ?_⟩
    have s3 := same_new (o := .lst ([V.bl (ow "BadName"), V.bl (ow "NoNumber"), V.bl (ow "NoRide"), V.bl (ow "NoText")] ++ [V.bl (ow "NoName"), V.bl (ow "NoDay"), V.bl (ow "NoSeats"), V.bl (ow "Taken")])) f3
    dsimp only [List.cons_append, List.nil_append] at s3 ⊢
    have e3 : (upd G2 p3 (.lst [V.bl (ow "BadName"), V.bl (ow "NoNumber"), V.bl (ow "NoRide"), V.bl (ow "NoText"), V.bl (ow "NoName"), V.bl (ow "NoDay"), V.bl (ow "NoSeats"), V.bl (ow "Taken")])) p3 = some (.lst [V.bl (ow "BadName"), V.bl (ow "NoNumber"), V.bl (ow "NoRide"), V.bl (ow "NoText"), V.bl (ow "NoName"), V.bl (ow "NoDay"), V.bl (ow "NoSeats"), V.bl (ow "Taken")]) := upd_same
    have ha := s3 _ _ ha
    have hd := dct_same hd s3
    have sm := sm.trans s3
    generalize upd G2 p3 (.lst [V.bl (ow "BadName"), V.bl (ow "NoNumber"), V.bl (ow "NoRide"), V.bl (ow "NoText"), V.bl (ow "NoName"), V.bl (ow "NoDay"), V.bl (ow "NoSeats"), V.bl (ow "Taken")]) = G3 at sm e3 hd ha ⊢
    clear s3 hl
    have hl := e3
    refine ⟨_, rfl, ?_⟩
    refine ⟨_, rfl, a, D, d, _, _, _, rfl, ha, hd, T.xc, fun u r => (by cases r; rfl), T.ko "TooMany" (by decide +kernel), ?_⟩
    refine ⟨_, rfl, a, D, d, _, _, _, rfl, ha, hd, T.xc, fun u r => (by cases r; rfl), T.ko "NoRule" (by decide +kernel), ?_⟩
    refine ⟨_, rfl, a, D, d, _, _, _, rfl, ha, hd, T.xc, fun u r => (by cases r; rfl), T.ko "NothingDone" (by decide +kernel), ?_⟩
    refine ⟨_, rfl, a, D, d, _, _, _, rfl, ha, hd, T.xc, fun u r => (by cases r; rfl), T.ko "NoRow" (by decide +kernel), ?_⟩
    refine ⟨by show 4 ≤ sizeLine; decide, fun p4 f4 => ?_⟩
    have s4 := same_new (o := .lst [V.bl (ow "TooMany"), V.bl (ow "NoRule"), V.bl (ow "NothingDone"), V.bl (ow "NoRow")]) f4
    have e4 : (upd G3 p4 (.lst [V.bl (ow "TooMany"), V.bl (ow "NoRule"), V.bl (ow "NothingDone"), V.bl (ow "NoRow")])) p4 = some (.lst [V.bl (ow "TooMany"), V.bl (ow "NoRule"), V.bl (ow "NothingDone"), V.bl (ow "NoRow")]) := upd_same
    have ha := s4 _ _ ha
    have hl := s4 _ _ hl
    have hd := dct_same hd s4
    have sm := sm.trans s4
    generalize upd G3 p4 (.lst [V.bl (ow "TooMany"), V.bl (ow "NoRule"), V.bl (ow "NothingDone"), V.bl (ow "NoRow")]) = G4 at sm e4 hd ha hl ⊢
    clear s4
    refine ⟨p3, p4, _, _, rfl, rfl, hl, e4, by show 12 ≤ sizeLine; decide, fun p5 f5 => ?_⟩
    have s5 := same_new (o := .lst ([V.bl (ow "BadName"), V.bl (ow "NoNumber"), V.bl (ow "NoRide"), V.bl (ow "NoText"), V.bl (ow "NoName"), V.bl (ow "NoDay"), V.bl (ow "NoSeats"), V.bl (ow "Taken")] ++ [V.bl (ow "TooMany"), V.bl (ow "NoRule"), V.bl (ow "NothingDone"), V.bl (ow "NoRow")])) f5
    dsimp only [List.cons_append, List.nil_append] at s5 ⊢
    have e5 : (upd G4 p5 (.lst [V.bl (ow "BadName"), V.bl (ow "NoNumber"), V.bl (ow "NoRide"), V.bl (ow "NoText"), V.bl (ow "NoName"), V.bl (ow "NoDay"), V.bl (ow "NoSeats"), V.bl (ow "Taken"), V.bl (ow "TooMany"), V.bl (ow "NoRule"), V.bl (ow "NothingDone"), V.bl (ow "NoRow")])) p5 = some (.lst [V.bl (ow "BadName"), V.bl (ow "NoNumber"), V.bl (ow "NoRide"), V.bl (ow "NoText"), V.bl (ow "NoName"), V.bl (ow "NoDay"), V.bl (ow "NoSeats"), V.bl (ow "Taken"), V.bl (ow "TooMany"), V.bl (ow "NoRule"), V.bl (ow "NothingDone"), V.bl (ow "NoRow")]) := upd_same
    have ha := s5 _ _ ha
    have hd := dct_same hd s5
    have sm := sm.trans s5
    generalize upd G4 p5 (.lst [V.bl (ow "BadName"), V.bl (ow "NoNumber"), V.bl (ow "NoRide"), V.bl (ow "NoText"), V.bl (ow "NoName"), V.bl (ow "NoDay"), V.bl (ow "NoSeats"), V.bl (ow "Taken"), V.bl (ow "TooMany"), V.bl (ow "NoRule"), V.bl (ow "NothingDone"), V.bl (ow "NoRow")]) = G5 at sm e5 hd ha ⊢
    clear s5 hl
    have hl := e5
    refine ⟨_, rfl, ?_⟩
    refine ⟨_, rfl, by show 2 ≤ sizeLine; decide, fun t6 f6 => ?_⟩
    have s6 := same_new (o := .tup [.ref (He.ga K "NoKind"), .ref (He.ga K "Nought")]) f6
    have e6 : (upd G5 t6 (.tup [.ref (He.ga K "NoKind"), .ref (He.ga K "Nought")])) t6 = some (.tup ([He.ga K "NoKind", He.ga K "Nought"].map V.ref)) := upd_same
    have ha := s6 _ _ ha
    have hl := s6 _ _ hl
    have hd := dct_same hd s6
    have sm := sm.trans s6
    generalize upd G5 t6 (.tup [.ref (He.ga K "NoKind"), .ref (He.ga K "Nought")]) = G6 at sm e6 hd ha hl ⊢
    clear s6
    refine ⟨a, D, t6, d, _, _, (ow "NoKind" || ow "Nought"), rfl, ha, hd, T.xc, SqT.of e6, EXW.ClsVs.refs, ?_, ?_⟩
    · have := kit_any (K := K) (t := .ref D) (g := fun c => if c = .ref (He.ga K "NoKind") then ow "NoKind" else ow "Nought") (cs := [He.ga K "NoKind", He.ga K "Nought"].map Value.ref) (fun c hc => by
        simp only [List.map_cons, List.map_nil, List.mem_cons, List.not_mem_nil, or_false] at hc
        by_cases q : c = .ref (He.ga K "NoKind")
        · rw [if_pos q, q]; exact T.ko "NoKind" (by decide +kernel)
        · rw [if_neg q, hc.resolve_left q]; exact T.ko "Nought" (by decide +kernel))
      rw [this]
      simp only [List.map_cons, List.map_nil, List.any_cons, List.any_nil, Bool.or_false, if_true]
      by_cases q : (Value.ref (He.ga K "Nought")) = .ref (He.ga K "NoKind")
      · have h1 := T.ko "NoKind" (by decide +kernel)
        have h2 := T.ko "Nought" (by decide +kernel)
        rw [q, h1] at h2
        rw [if_pos q, Option.some.inj h2]
      · rw [if_neg q]
    refine ⟨_, rfl, by show 2 ≤ sizeLine; decide, fun t7 f7 => ?_⟩
    have s7 := same_new (o := .tup [.ref (He.ga K "NoShare"), .ref (He.ga K "Uneven")]) f7
    have e7 : (upd G6 t7 (.tup [.ref (He.ga K "NoShare"), .ref (He.ga K "Uneven")])) t7 = some (.tup ([He.ga K "NoShare", He.ga K "Uneven"].map V.ref)) := upd_same
    have ha := s7 _ _ ha
    have hl := s7 _ _ hl
    have hd := dct_same hd s7
    have sm := sm.trans s7
    generalize upd G6 t7 (.tup [.ref (He.ga K "NoShare"), .ref (He.ga K "Uneven")]) = G7 at sm e7 hd ha hl ⊢
    clear s7
    refine ⟨a, D, t7, d, _, _, (ow "NoShare" || ow "Uneven"), rfl, ha, hd, T.xc, SqT.of e7, EXW.ClsVs.refs, ?_, ?_⟩
    · have := kit_any (K := K) (t := .ref D) (g := fun c => if c = .ref (He.ga K "NoShare") then ow "NoShare" else ow "Uneven") (cs := [He.ga K "NoShare", He.ga K "Uneven"].map Value.ref) (fun c hc => by
        simp only [List.map_cons, List.map_nil, List.mem_cons, List.not_mem_nil, or_false] at hc
        by_cases q : c = .ref (He.ga K "NoShare")
        · rw [if_pos q, q]; exact T.ko "NoShare" (by decide +kernel)
        · rw [if_neg q, hc.resolve_left q]; exact T.ko "Uneven" (by decide +kernel))
      rw [this]
      simp only [List.map_cons, List.map_nil, List.any_cons, List.any_nil, Bool.or_false, if_true]
      by_cases q : (Value.ref (He.ga K "Uneven")) = .ref (He.ga K "NoShare")
      · have h1 := T.ko "NoShare" (by decide +kernel)
        have h2 := T.ko "Uneven" (by decide +kernel)
        rw [q, h1] at h2
        rw [if_pos q, Option.some.inj h2]
      · rw [if_neg q]
    refine ⟨by show 2 ≤ sizeLine; decide, fun p8 f8 => ?_⟩
    have s8 := same_new (o := .lst [V.bl (ow "NoKind" || ow "Nought"), V.bl (ow "NoShare" || ow "Uneven")]) f8
    have e8 : (upd G7 p8 (.lst [V.bl (ow "NoKind" || ow "Nought"), V.bl (ow "NoShare" || ow "Uneven")])) p8 = some (.lst [V.bl (ow "NoKind" || ow "Nought"), V.bl (ow "NoShare" || ow "Uneven")]) := upd_same
    have ha := s8 _ _ ha
    have hl := s8 _ _ hl
    have hd := dct_same hd s8
    have sm := sm.trans s8
    generalize upd G7 p8 (.lst [V.bl (ow "NoKind" || ow "Nought"), V.bl (ow "NoShare" || ow "Uneven")]) = G8 at sm e8 hd ha hl ⊢
    clear s8
    refine ⟨p5, p8, _, _, rfl, rfl, hl, e8, by show 14 ≤ sizeLine; decide, fun p9 f9 => ?_⟩
    have s9 := same_new (o := .lst ([V.bl (ow "BadName"), V.bl (ow "NoNumber"), V.bl (ow "NoRide"), V.bl (ow "NoText"), V.bl (ow "NoName"), V.bl (ow "NoDay"), V.bl (ow "NoSeats"), V.bl (ow "Taken"), V.bl (ow "TooMany"), V.bl (ow "NoRule"), V.bl (ow "NothingDone"), V.bl (ow "NoRow")] ++ [V.bl (ow "NoKind" || ow "Nought"), V.bl (ow "NoShare" || ow "Uneven")])) f9
    dsimp only [List.cons_append, List.nil_append] at s9 ⊢
    have e9 : (upd G8 p9 (.lst [V.bl (ow "BadName"), V.bl (ow "NoNumber"), V.bl (ow "NoRide"), V.bl (ow "NoText"), V.bl (ow "NoName"), V.bl (ow "NoDay"), V.bl (ow "NoSeats"), V.bl (ow "Taken"), V.bl (ow "TooMany"), V.bl (ow "NoRule"), V.bl (ow "NothingDone"), V.bl (ow "NoRow"), V.bl (ow "NoKind" || ow "Nought"), V.bl (ow "NoShare" || ow "Uneven")])) p9 = some (.lst [V.bl (ow "BadName"), V.bl (ow "NoNumber"), V.bl (ow "NoRide"), V.bl (ow "NoText"), V.bl (ow "NoName"), V.bl (ow "NoDay"), V.bl (ow "NoSeats"), V.bl (ow "Taken"), V.bl (ow "TooMany"), V.bl (ow "NoRule"), V.bl (ow "NothingDone"), V.bl (ow "NoRow"), V.bl (ow "NoKind" || ow "Nought"), V.bl (ow "NoShare" || ow "Uneven")]) := upd_same
    have ha := s9 _ _ ha
    have hd := dct_same hd s9
    have sm := sm.trans s9
    generalize upd G8 p9 (.lst [V.bl (ow "BadName"), V.bl (ow "NoNumber"), V.bl (ow "NoRide"), V.bl (ow "NoText"), V.bl (ow "NoName"), V.bl (ow "NoDay"), V.bl (ow "NoSeats"), V.bl (ow "Taken"), V.bl (ow "TooMany"), V.bl (ow "NoRule"), V.bl (ow "NothingDone"), V.bl (ow "NoRow"), V.bl (ow "NoKind" || ow "Nought"), V.bl (ow "NoShare" || ow "Uneven")]) = G9 at sm e9 hd ha ⊢
    clear s9 hl
    have hl := e9
    have hfl : G9 p9 = some (.lst ((flg ow).map V.bl)) := hl
    clear hl
    refine ⟨_, rfl, a, D, d, _, _, _, rfl, ha, hd, T.xc, fun u r => (by cases r; rfl), T.kb "ValueError" (by decide +kernel), ?_⟩
    refine ⟨_, rfl, a, D, d, _, _, _, rfl, ha, hd, T.xc, fun u r => (by cases r; rfl), T.kb "KeyError" (by decide +kernel), ?_⟩
    refine ⟨_, rfl, a, D, d, _, _, _, rfl, ha, hd, T.xc, fun u r => (by cases r; rfl), T.kb "IndexError" (by decide +kernel), ?_⟩
    refine ⟨_, rfl, a, D, d, _, _, _, rfl, ha, hd, T.xc, fun u r => (by cases r; rfl), T.kb "LookupError" (by decide +kernel), ?_⟩
    refine ⟨by show 4 ≤ sizeLine; decide, fun p10 f10 => ?_⟩
    have s10 := same_new (o := .lst [V.bl (ab "ValueError"), V.bl (ab "KeyError"), V.bl (ab "IndexError"), V.bl (ab "LookupError")]) f10
    have e10 : (upd G9 p10 (.lst [V.bl (ab "ValueError"), V.bl (ab "KeyError"), V.bl (ab "IndexError"), V.bl (ab "LookupError")])) p10 = some (.lst [V.bl (ab "ValueError"), V.bl (ab "KeyError"), V.bl (ab "IndexError"), V.bl (ab "LookupError")]) := upd_same
    have ha := s10 _ _ ha
    have hfl := s10 _ _ hfl
    have hd := dct_same hd s10
    have sm := sm.trans s10
    generalize upd G9 p10 (.lst [V.bl (ab "ValueError"), V.bl (ab "KeyError"), V.bl (ab "IndexError"), V.bl (ab "LookupError")]) = G10 at sm e10 hd ha hfl ⊢
    clear s10
    have hl := e10
    refine ⟨_, rfl, ?_⟩
    refine ⟨_, rfl, a, D, d, _, _, _, rfl, ha, hd, T.xc, fun u r => (by cases r; rfl), T.kb "ArithmeticError" (by decide +kernel), ?_⟩
    refine ⟨_, rfl, a, D, d, _, _, _, rfl, ha, hd, T.xc, fun u r => (by cases r; rfl), T.kb "RuntimeError" (by decide +kernel), ?_⟩
    refine ⟨_, rfl, a, D, d, _, _, _, rfl, ha, hd, T.xc, fun u r => (by cases r; rfl), T.kb "TypeError" (by decide +kernel), ?_⟩
    refine ⟨by show 3 ≤ sizeLine; decide, fun p11 f11 => ?_⟩
    have s11 := same_new (o := .lst [V.bl (ab "ArithmeticError"), V.bl (ab "RuntimeError"), V.bl (ab "TypeError")]) f11
    have e11 : (upd G10 p11 (.lst [V.bl (ab "ArithmeticError"), V.bl (ab "RuntimeError"), V.bl (ab "TypeError")])) p11 = some (.lst [V.bl (ab "ArithmeticError"), V.bl (ab "RuntimeError"), V.bl (ab "TypeError")]) := upd_same
    have ha := s11 _ _ ha
    have hfl := s11 _ _ hfl
    have hl := s11 _ _ hl
    have hd := dct_same hd s11
    have sm := sm.trans s11
    generalize upd G10 p11 (.lst [V.bl (ab "ArithmeticError"), V.bl (ab "RuntimeError"), V.bl (ab "TypeError")]) = G11 at sm e11 hd ha hfl hl ⊢
    clear s11
    refine ⟨p10, p11, _, _, rfl, rfl, hl, e11, by show 7 ≤ sizeLine; decide, fun p12 f12 => ?_⟩
    have s12 := same_new (o := .lst ([V.bl (ab "ValueError"), V.bl (ab "KeyError"), V.bl (ab "IndexError"), V.bl (ab "LookupError")] ++ [V.bl (ab "ArithmeticError"), V.bl (ab "RuntimeError"), V.bl (ab "TypeError")])) f12
    dsimp only [List.cons_append, List.nil_append] at s12 ⊢
    have e12 : (upd G11 p12 (.lst [V.bl (ab "ValueError"), V.bl (ab "KeyError"), V.bl (ab "IndexError"), V.bl (ab "LookupError"), V.bl (ab "ArithmeticError"), V.bl (ab "RuntimeError"), V.bl (ab "TypeError")])) p12 = some (.lst [V.bl (ab "ValueError"), V.bl (ab "KeyError"), V.bl (ab "IndexError"), V.bl (ab "LookupError"), V.bl (ab "ArithmeticError"), V.bl (ab "RuntimeError"), V.bl (ab "TypeError")]) := upd_same
    have ha := s12 _ _ ha
    have hfl := s12 _ _ hfl
    have hd := dct_same hd s12
    have sm := sm.trans s12
    generalize upd G11 p12 (.lst [V.bl (ab "ValueError"), V.bl (ab "KeyError"), V.bl (ab "IndexError"), V.bl (ab "LookupError"), V.bl (ab "ArithmeticError"), V.bl (ab "RuntimeError"), V.bl (ab "TypeError")]) = G12 at sm e12 hd ha hfl ⊢
    clear s12 hl
    have hl := e12
    have hab : G12 p12 = some (.lst ((abv ab).map V.bl)) := hl
    clear hl
    refine ⟨rfl, _, _, rfl, rfl, by decide +kernel, by decide +kernel, fun pw fw => ?_⟩
    rw [split12]
    have sw := same_new (o := .lst (kw12.map V.str)) fw
    have hw : (upd G12 pw (.lst (kw12.map V.str))) pw = some (.lst (kw12.map V.str)) := upd_same
    have hfl := sw _ _ hfl
    have hab := sw _ _ hab
    have sm := sm.trans sw
    generalize upd G12 pw (.lst (kw12.map V.str)) = Gw at sm hw hfl hab ⊢
    clear sw
    have sm0 := sm
    intro pd fpd
    have sp := same_new (o := .dK []) fpd
    have hp : (upd Gw pd (.dK [])) pd = some (.dK []) := upd_same
    have hfl := sp _ _ hfl
    have hab := sp _ _ hab
    have hw := sp _ _ hw
    have sm := sm.trans sp
    have nd0 : ∀ {b : Addr} {o : HO}, Gw b = some o → b ≠ pd := fun e => ne_of_none e fpd
    generalize upd Gw pd (.dK []) = Gd at sm hp hfl hab hw ⊢
    clear sp
    refine ⟨by show 2 ≤ sizeLine; decide, fun q0 g0 => ?_⟩
    have sp := same_new (o := .lst [.int 1, .int 3]) g0
    have h0 : (upd Gd q0 (.lst [.int 1, .int 3])) q0 = some (.lst ((([1, 3] : List Int)).map V.int)) := upd_same
    have hfl := sp _ _ hfl
    have hab := sp _ _ hab
    have hw := sp _ _ hw
    have hp := sp _ _ hp
    have sm := sm.trans sp
    generalize upd Gd q0 (.lst [.int 1, .int 3]) = J0 at sm h0 hfl hab hw hp ⊢
    clear sp
    refine ⟨by show 1 ≤ sizeLine; decide, fun q1 g1 => ?_⟩
    have sp := same_new (o := .lst [.int 3]) g1
    have h1 : (upd J0 q1 (.lst [.int 3])) q1 = some (.lst ((([3] : List Int)).map V.int)) := upd_same
    have hfl := sp _ _ hfl
    have hab := sp _ _ hab
    have hw := sp _ _ hw
    have hp := sp _ _ hp
    have h0 := sp _ _ h0
    have sm := sm.trans sp
    generalize upd J0 q1 (.lst [.int 3]) = J1 at sm h1 hfl hab hw hp h0 ⊢
    clear sp
    refine ⟨by show 2 ≤ sizeLine; decide, fun q2 g2 => ?_⟩
    have sp := same_new (o := .lst [.int 2, .int 3]) g2
    have h2 : (upd J1 q2 (.lst [.int 2, .int 3])) q2 = some (.lst ((([2, 3] : List Int)).map V.int)) := upd_same
    have hfl := sp _ _ hfl
    have hab := sp _ _ hab
    have hw := sp _ _ hw
    have hp := sp _ _ hp
    have h0 := sp _ _ h0
    have h1 := sp _ _ h1
    have sm := sm.trans sp
    generalize upd J1 q2 (.lst [.int 2, .int 3]) = J2 at sm h2 hfl hab hw hp h0 h1 ⊢
    clear sp
    refine ⟨by show 1 ≤ sizeLine; decide, fun q3 g3 => ?_⟩
    have sp := same_new (o := .lst [.int 5]) g3
    have h3 : (upd J2 q3 (.lst [.int 5])) q3 = some (.lst ((([5] : List Int)).map V.int)) := upd_same
    have hfl := sp _ _ hfl
    have hab := sp _ _ hab
    have hw := sp _ _ hw
    have hp := sp _ _ hp
    have h0 := sp _ _ h0
    have h1 := sp _ _ h1
    have h2 := sp _ _ h2
    have sm := sm.trans sp
    generalize upd J2 q3 (.lst [.int 5]) = J3 at sm h3 hfl hab hw hp h0 h1 h2 ⊢
    clear sp
    refine ⟨by show 1 ≤ sizeLine; decide, fun q4 g4 => ?_⟩
    have sp := same_new (o := .lst [.int 4]) g4
    have h4 : (upd J3 q4 (.lst [.int 4])) q4 = some (.lst ((([4] : List Int)).map V.int)) := upd_same
    have hfl := sp _ _ hfl
    have hab := sp _ _ hab
    have hw := sp _ _ hw
    have hp := sp _ _ hp
    have h0 := sp _ _ h0
    have h1 := sp _ _ h1
    have h2 := sp _ _ h2
    have h3 := sp _ _ h3
    have sm := sm.trans sp
    generalize upd J3 q4 (.lst [.int 4]) = J4 at sm h4 hfl hab hw hp h0 h1 h2 h3 ⊢
    clear sp
    refine ⟨by show 1 ≤ sizeLine; decide, fun q5 g5 => ?_⟩
    have sp := same_new (o := .lst [.int 5]) g5
    have h5 : (upd J4 q5 (.lst [.int 5])) q5 = some (.lst ((([5] : List Int)).map V.int)) := upd_same
    have hfl := sp _ _ hfl
    have hab := sp _ _ hab
    have hw := sp _ _ hw
    have hp := sp _ _ hp
    have h0 := sp _ _ h0
    have h1 := sp _ _ h1
    have h2 := sp _ _ h2
    have h3 := sp _ _ h3
    have h4 := sp _ _ h4
    have sm := sm.trans sp
    generalize upd J4 q5 (.lst [.int 5]) = J5 at sm h5 hfl hab hw hp h0 h1 h2 h3 h4 ⊢
    clear sp
    refine ⟨by show 0 ≤ sizeLine; decide, fun q6 g6 => ?_⟩
    have sp := same_new (o := .lst []) g6
    have h6 : (upd J5 q6 (.lst [])) q6 = some (.lst ((([] : List Int)).map V.int)) := upd_same
    have hfl := sp _ _ hfl
    have hab := sp _ _ hab
    have hw := sp _ _ hw
    have hp := sp _ _ hp
    have h0 := sp _ _ h0
    have h1 := sp _ _ h1
    have h2 := sp _ _ h2
    have h3 := sp _ _ h3
    have h4 := sp _ _ h4
    have h5 := sp _ _ h5
    have sm := sm.trans sp
    generalize upd J5 q6 (.lst []) = J6 at sm h6 hfl hab hw hp h0 h1 h2 h3 h4 h5 ⊢
    clear sp
    refine ⟨by show 0 ≤ sizeLine; decide, fun q7 g7 => ?_⟩
    have sp := same_new (o := .lst []) g7
    have h7 : (upd J6 q7 (.lst [])) q7 = some (.lst ((([] : List Int)).map V.int)) := upd_same
    have hfl := sp _ _ hfl
    have hab := sp _ _ hab
    have hw := sp _ _ hw
    have hp := sp _ _ hp
    have h0 := sp _ _ h0
    have h1 := sp _ _ h1
    have h2 := sp _ _ h2
    have h3 := sp _ _ h3
    have h4 := sp _ _ h4
    have h5 := sp _ _ h5
    have h6 := sp _ _ h6
    have sm := sm.trans sp
    generalize upd J6 q7 (.lst []) = J7 at sm h7 hfl hab hw hp h0 h1 h2 h3 h4 h5 h6 ⊢
    clear sp
    refine ⟨hp, ([(Sum.inr ("name" : Str), V.ref q0), (Sum.inr ("day" : Str), V.ref q1), (Sum.inr ("seats" : Str), V.ref q2), (Sum.inr ("taken" : Str), V.ref q3), (Sum.inr ("many" : Str), V.ref q4), (Sum.inr ("rule" : Str), V.ref q5), (Sum.inr ("done" : Str), V.ref q6), (Sum.inr ("row" : Str), V.ref q7)] : List (Key × V)), rfl, by show 8 ≤ _; decide, ?_⟩
    have emg : mergeK [] ([(Sum.inr ("name" : Str), V.ref q0), (Sum.inr ("day" : Str), V.ref q1), (Sum.inr ("seats" : Str), V.ref q2), (Sum.inr ("taken" : Str), V.ref q3), (Sum.inr ("many" : Str), V.ref q4), (Sum.inr ("rule" : Str), V.ref q5), (Sum.inr ("done" : Str), V.ref q6), (Sum.inr ("row" : Str), V.ref q7)] : List (Key × V)) = [(Sum.inr ("name" : Str), V.ref q0), (Sum.inr ("day" : Str), V.ref q1), (Sum.inr ("seats" : Str), V.ref q2), (Sum.inr ("taken" : Str), V.ref q3), (Sum.inr ("many" : Str), V.ref q4), (Sum.inr ("rule" : Str), V.ref q5), (Sum.inr ("done" : Str), V.ref q6), (Sum.inr ("row" : Str), V.ref q7)] := by rfl
    rw [emg]
    have kp : ∀ {b : Addr} {ys : List V}, J7 b = some (.lst ys) → (upd J7 pd (.dK [(Sum.inr ("name" : Str), V.ref q0), (Sum.inr ("day" : Str), V.ref q1), (Sum.inr ("seats" : Str), V.ref q2), (Sum.inr ("taken" : Str), V.ref q3), (Sum.inr ("many" : Str), V.ref q4), (Sum.inr ("rule" : Str), V.ref q5), (Sum.inr ("done" : Str), V.ref q6), (Sum.inr ("row" : Str), V.ref q7)])) b = some (.lst ys) := fun e => by rw [upd_ne (fun z => by rw [z, hp] at e; cases e)]; exact e
    have hdd : (upd J7 pd (.dK [(Sum.inr ("name" : Str), V.ref q0), (Sum.inr ("day" : Str), V.ref q1), (Sum.inr ("seats" : Str), V.ref q2), (Sum.inr ("taken" : Str), V.ref q3), (Sum.inr ("many" : Str), V.ref q4), (Sum.inr ("rule" : Str), V.ref q5), (Sum.inr ("done" : Str), V.ref q6), (Sum.inr ("row" : Str), V.ref q7)])) pd = some (.dK [(Sum.inr ("name" : Str), V.ref q0), (Sum.inr ("day" : Str), V.ref q1), (Sum.inr ("seats" : Str), V.ref q2), (Sum.inr ("taken" : Str), V.ref q3), (Sum.inr ("many" : Str), V.ref q4), (Sum.inr ("rule" : Str), V.ref q5), (Sum.inr ("done" : Str), V.ref q6), (Sum.inr ("row" : Str), V.ref q7)]) := upd_same
    have hfl := kp hfl
    have hab := kp hab
    have hw := kp hw
    have h0 := kp h0
    have h1 := kp h1
    have h2 := kp h2
    have h3 := kp h3
    have h4 := kp h4
    have h5 := kp h5
    have h6 := kp h6
    have h7 := kp h7
    have sm2 : Same H (upd J7 pd (.dK [(Sum.inr ("name" : Str), V.ref q0), (Sum.inr ("day" : Str), V.ref q1), (Sum.inr ("seats" : Str), V.ref q2), (Sum.inr ("taken" : Str), V.ref q3), (Sum.inr ("many" : Str), V.ref q4), (Sum.inr ("rule" : Str), V.ref q5), (Sum.inr ("done" : Str), V.ref q6), (Sum.inr ("row" : Str), V.ref q7)])) := fun b o e => by
      by_cases z : b = pd
      · subst z
        exact absurd (sm0 _ _ e) (fun e2 => by rw [fpd] at e2; cases e2)
      · rw [upd_ne z]; exact sm b o e
    generalize upd J7 pd (.dK [(Sum.inr ("name" : Str), V.ref q0), (Sum.inr ("day" : Str), V.ref q1), (Sum.inr ("seats" : Str), V.ref q2), (Sum.inr ("taken" : Str), V.ref q3), (Sum.inr ("many" : Str), V.ref q4), (Sum.inr ("rule" : Str), V.ref q5), (Sum.inr ("done" : Str), V.ref q6), (Sum.inr ("row" : Str), V.ref q7)]) = Z at hdd sm2 hfl hab hw h0 h1 h2 h3 h4 h5 h6 h7 ⊢
    clear sm kp
    obtain ⟨j, j11, ej, before, ewd⟩ := W.at_
    have lfl : (flg ow).length = 14 := by unfold flg; rfl
    have dfl : Dp K Z (.ref p9) (.list ((flg ow).map .bool)) := Dp.lst (SqL.of hfl) (dp_bls _)
    refine ⟨_, rfl, .inl ⟨rfl, _, SqL.of hfl⟩, p9, _, true, rfl, rfl, SqL.of hfl, rfl, _, rfl, ?_⟩
    rw [W.one]
    refine iteF ?_
    refine ⟨_, rfl, .inl ⟨rfl, _, SqL.of hfl⟩, p9, .bl true, .bool true, (flg ow).map .bool, j, .bool true, rfl, rfl, dfl, .bl true, sh_bls _, rfl, by rw [List.getElem?_map, ej]; rfl, rfl, fun m z hm hz => ?_, _, _, rfl, rfl, _, rfl, ?_⟩
    · rw [List.getElem?_map, before m hm] at hz
      cases hz
      rfl
    have z11 : decide ((11 : Int) < (j : Nat)) = false := decide_eq_false (by omega)
    rw [z11]
    refine iteF ?_
    refine ⟨_, rfl, _, rfl, .inl ⟨rfl, _, SqL.of hfl⟩, p9, .bl true, .bool true, (flg ow).map .bool, j, .bool true, rfl, rfl, dfl, .bl true, sh_bls _, rfl, by rw [List.getElem?_map, ej]; rfl, rfl, fun m z hm hz => ?_, pw, _, _, .str wd, rfl, rfl, SqL.of hw, atI_nat (by rw [List.getElem?_map, ewd]; rfl), ?_⟩
    · rw [List.getElem?_map, before m hm] at hz
      cases hz
      rfl
    refine ⟨_, rfl, by decide, by decide, fun L fL => lc_range (n := 7) (fun i H2 => H2 L = some (.lst ((((List.range i).filter fun i => (abv ab).getD i false).map fun i => ((i : Nat) : Int)).map V.int)) ∧ Same Z H2) ⟨upd_same, same_new fL⟩ ?_ ?_⟩
    · rintro i H2 hi ⟨hL, s2⟩
      refine ⟨rfl, ?_⟩
      have la : (abv ab).length = 7 := rfl
      refine ⟨_, rfl, _, rfl, p12, _, _, .bl ((abv ab).getD i false), rfl, rfl, SqL.of (s2 _ _ hab), ?_, _, rfl, ?_⟩
      · rw [show (0 : Int) + (i : Nat) = (i : Nat) by omega]
        refine atI_nat ?_
        rw [List.getElem?_map, List.getD_eq_getElem?_getD, List.getElem?_eq_getElem (by omega)]
        rfl
      · refine ite2 (fun hb => ?_) (fun hb => ?_)
        · refine ⟨_, rfl, _, hL, ?_, ?_, fun b o e => ?_⟩
          · rw [List.length_map, List.length_map]
            exact Nat.lt_of_le_of_lt (List.length_filter_le _ _) (by rw [List.length_range]; exact Nat.lt_of_lt_of_le hi (by decide))
          · rw [upd_same, flt_t (p := fun i => (abv ab).getD i false) hb, List.map_append, List.map_cons, List.map_nil]
            rw [show (0 : Int) + (i : Nat) = (i : Nat) by omega]
          · rw [upd_ne (ne_of_none e fL)]
            exact s2 b o e
        · refine ⟨?_, s2⟩
          rw [flt_f (p := fun i => (abv ab).getD i false) (Bool.eq_false_iff.mpr hb)]
          exact hL
    rintro H2 ⟨hL, s2⟩
    have hL : H2 L = some (.lst ((seenOf (abv ab)).map V.int)) := hL
    rw [W.seen] at hL
    refine ⟨_, _, rfl, ?_⟩
    have hL3 := hL
    have s23 := s2
    generalize H2 = H3 at s23 hL3 ⊢
    refine ⟨_, rfl, _, rfl, pd, rfl, .inl ⟨_, .inl (s23 _ _ hdd)⟩, _, rfl, by show 1 ≤ sizeLine; decide, fun e0 fe0 => ?_⟩
    have s4 := same_new (o := .lst [.int 0]) fe0
    have he0 : (upd H3 e0 (.lst [.int 0])) e0 = some (.lst ([(0 : Int)].map V.int)) := upd_same
    have s24 := s23.trans s4
    have hL4 := s4 _ _ hL3
    generalize upd H3 e0 (.lst [.int 0]) = H4 at s24 he0 hL4 ⊢
    refine ⟨_, DGet.k (k := Sum.inr wd) (s24 _ _ hdd), ?_⟩
    have pick : ∃ q, ((valV ([(Sum.inr ("name" : Str), V.ref q0), (Sum.inr ("day" : Str), V.ref q1), (Sum.inr ("seats" : Str), V.ref q2), (Sum.inr ("taken" : Str), V.ref q3), (Sum.inr ("many" : Str), V.ref q4), (Sum.inr ("rule" : Str), V.ref q5), (Sum.inr ("done" : Str), V.ref q6), (Sum.inr ("row" : Str), V.ref q7)] : List (Key × V)) (Sum.inr wd)).getD (.ref e0)) = .ref q ∧ H4 q = some (.lst ((mustOf wd).map V.int)) := by
      by_cases c0 : wd = "name"
      · subst c0
        exact ⟨q0, by rfl, s24 _ _ h0⟩
      by_cases c1 : wd = "day"
      · subst c1
        exact ⟨q1, by rfl, s24 _ _ h1⟩
      by_cases c2 : wd = "seats"
      · subst c2
        exact ⟨q2, by rfl, s24 _ _ h2⟩
      by_cases c3 : wd = "taken"
      · subst c3
        exact ⟨q3, by rfl, s24 _ _ h3⟩
      by_cases c4 : wd = "many"
      · subst c4
        exact ⟨q4, by rfl, s24 _ _ h4⟩
      by_cases c5 : wd = "rule"
      · subst c5
        exact ⟨q5, by rfl, s24 _ _ h5⟩
      by_cases c6 : wd = "done"
      · subst c6
        exact ⟨q6, by rfl, s24 _ _ h6⟩
      by_cases c7 : wd = "row"
      · subst c7
        exact ⟨q7, by rfl, s24 _ _ h7⟩
      refine ⟨e0, ?_, ?_⟩
      · have : valV ([(Sum.inr ("name" : Str), V.ref q0), (Sum.inr ("day" : Str), V.ref q1), (Sum.inr ("seats" : Str), V.ref q2), (Sum.inr ("taken" : Str), V.ref q3), (Sum.inr ("many" : Str), V.ref q4), (Sum.inr ("rule" : Str), V.ref q5), (Sum.inr ("done" : Str), V.ref q6), (Sum.inr ("row" : Str), V.ref q7)] : List (Key × V)) (Sum.inr wd) = none := by
          simp only [valV, List.find?_cons, List.find?_nil, Sum.inr.injEq]
          simp [Ne.symm c0, (show ¬ ("name" : Str) = wd from fun z => c0 z.symm), Ne.symm c1, (show ¬ ("day" : Str) = wd from fun z => c1 z.symm), Ne.symm c2, (show ¬ ("seats" : Str) = wd from fun z => c2 z.symm), Ne.symm c3, (show ¬ ("taken" : Str) = wd from fun z => c3 z.symm), Ne.symm c4, (show ¬ ("many" : Str) = wd from fun z => c4 z.symm), Ne.symm c5, (show ¬ ("rule" : Str) = wd from fun z => c5 z.symm), Ne.symm c6, (show ¬ ("done" : Str) = wd from fun z => c6 z.symm), Ne.symm c7, (show ¬ ("row" : Str) = wd from fun z => c7 z.symm)]
        rw [this]
        rfl
      · have : mustOf wd = [0] := by
          unfold mustOf
          simp [(show ¬ ("name" : Str) = wd from fun z => c0 z.symm), (show ¬ ("day" : Str) = wd from fun z => c1 z.symm), (show ¬ ("seats" : Str) = wd from fun z => c2 z.symm), (show ¬ ("taken" : Str) = wd from fun z => c3 z.symm), (show ¬ ("many" : Str) = wd from fun z => c4 z.symm), (show ¬ ("rule" : Str) = wd from fun z => c5 z.symm), (show ¬ ("done" : Str) = wd from fun z => c6 z.symm), (show ¬ ("row" : Str) = wd from fun z => c7 z.symm)]
        rw [this]
        exact he0
    obtain ⟨q, eq, hq⟩ := pick
    rw [eq]
    refine ⟨_, _, Dp.lst (SqL.of hL4) (dp_ints _), Dp.lst (SqL.of hq) (dp_ints _), sh_ints _, sh_ints _, _, rfl, ?_⟩
    rw [eq_ints]
    exact iteT ⟨_, rfl, hQ H4 (sm2.trans s24)⟩
end
end K16
set_option Elab.async false
set_option linter.all false
set_option maxRecDepth 100000
set_option maxHeartbeats 4000000
namespace K16
open PySem PySem.Spec PyProof.Rows L2
open C8 (Cal Mak Met pe_c pe_mk pe_mt pe_mt0)
open EXV (Xc)
open EXW (Dct)
theorem kit_ow {K : PySem.W.Frag} {mg : Str → Option Value} {D : Addr} {ow : Str → Bool} {ab : String → Bool} (T : Ex K mg D ow ab) : ∀ xs : List Str, (∀ x ∈ xs, x ∈ ex16) → PySem.W.kitAny K (.ref D) ((xs.map (He.ga K)).map Value.ref) = some (xs.any ow)
  | [], _ => rfl
  | x :: xs, h => by
    have ih := kit_ow T xs fun y hy => h y (List.mem_cons_of_mem _ hy)
    show PySem.W.kitAny K (.ref D) (.ref (He.ga K x) :: (xs.map (He.ga K)).map Value.ref) = _
    unfold PySem.W.kitAny
    rw [T.ko x (h x List.mem_cons_self), List.any_cons]
    cases ow x with
    | true => rfl
    | false => exact ih
/-- which field tells it -/
def fldOf (ow : Str → Bool) : Option Str :=
  if (["BadName", "NoName", "Taken"] : List Str).any ow = true then some "name" else if ow "NoDay" = true then some "day" else if ow "NoNumber" = true then some "thing" else if ow "NoSeats" = true then some "lack" else if ow "NoRide" = true then some "reason" else if ow "NoText" = true then some "row" else none
structure FldAt (K : PySem.W.Frag) (D : Addr) (ow : Str → Bool) (d : Option Addr) (H : Hp) (v : V) : Prop where
  some_ : ∀ f, fldOf ow = some f → ∃ (dd : Addr) (fs : List (Str × V)), d = some dd ∧ H dd = some (.xd fs) ∧ XfC K D ∧ PySem.W.findIn K (.ref D) f = some none ∧ fs.lookup f = some v
  none_ : fldOf ow = none → v = .non
theorem FldAt.same {K : PySem.W.Frag} {D : Addr} {ow : Str → Bool} {d : Option Addr} {H H' : Hp} {v : V} (h : FldAt K D ow d H v) (s : Same H H') : FldAt K D ow d H' v :=
  ⟨fun f e => by
    obtain ⟨dd, fs, a, b, c⟩ := h.some_ f e
    exact ⟨dd, fs, a, s _ _ b, c⟩, h.none_⟩
section
variable {P : Program} {w : World} {K : PySem.W.Frag} {mg : Str → Option Value} {base : Heap} {f D : Addr} {fd : FuncData} {ow : Str → Bool} {ab : String → Bool}
def spFd (K : PySem.W.Frag) (D : Addr) (ow : Str → Bool) : Sp := fun vs H Q _ => ∃ (a : Addr) (d : Option Addr) (v : V), vs = [.ref a] ∧ H a = some (Xc (.ref D) d a) ∧ Dct H d ∧ FldAt K D ow d H v ∧ ∀ H', Same H H' → Q v H'
theorem ok_fd (F : Dn K d_l_field f fd) (b : Bl mg) (T : Ex K mg D ow ab) : FnOk P w K mg base CX0 1 f fd ["_law_e"] (spFd K D ow) := by
  refine F.ok sc_l_field (fun vs H Q E h => ?_) (fun cdv A outer s H vs Q E hr h => ?_)
  · obtain ⟨a, d, v, rfl, _⟩ := h
    rfl
  · obtain ⟨a, d, v, rfl, ha, hd, hv, hQ⟩ := h
    refine ⟨_, PSs.nox (pss_cons (ps_if (pt_val (pe_callB (r := EXW.rIsKT K) EXW.call_isKT rfl b.isi boot_isinstance (pa_cons (pv 0) (pa_cons (pe_tup (pa_cons (pe_glob (v := .ref (He.ga K "BadName")) rfl (T.gl "BadName" (by decide +kernel)) rfl) (pa_cons (pe_glob (v := .ref (He.ga K "NoName")) rfl (T.gl "NoName" (by decide +kernel)) rfl) (pa_cons (pe_glob (v := .ref (He.ga K "Taken")) rfl (T.gl "Taken" (by decide +kernel)) rfl) pa_nil)))) pa_nil)))) (pss_one (ps_ret (EXW.pe_xk (pv 0)))) pss_nil)
      (pss_cons (ps_if (pt_val (pe_callB (r := EXW.rIsK K) EXW.call_isK rfl b.isi boot_isinstance (pa_cons (pv 0) (pa_cons (pe_glob (v := .ref (He.ga K "NoDay")) rfl (T.gl "NoDay" (by decide +kernel)) rfl) pa_nil)))) (pss_one (ps_ret (EXW.pe_xk (pv 0)))) pss_nil)
      (pss_cons (ps_if (pt_val (pe_callB (r := EXW.rIsK K) EXW.call_isK rfl b.isi boot_isinstance (pa_cons (pv 0) (pa_cons (pe_glob (v := .ref (He.ga K "NoNumber")) rfl (T.gl "NoNumber" (by decide +kernel)) rfl) pa_nil)))) (pss_one (ps_ret (EXW.pe_xk (pv 0)))) pss_nil)
      (pss_cons (ps_if (pt_val (pe_callB (r := EXW.rIsK K) EXW.call_isK rfl b.isi boot_isinstance (pa_cons (pv 0) (pa_cons (pe_glob (v := .ref (He.ga K "NoSeats")) rfl (T.gl "NoSeats" (by decide +kernel)) rfl) pa_nil)))) (pss_one (ps_ret (EXW.pe_xk (pv 0)))) pss_nil)
      (pss_cons (ps_if (pt_val (pe_callB (r := EXW.rIsK K) EXW.call_isK rfl b.isi boot_isinstance (pa_cons (pv 0) (pa_cons (pe_glob (v := .ref (He.ga K "NoRide")) rfl (T.gl "NoRide" (by decide +kernel)) rfl) pa_nil)))) (pss_one (ps_ret (EXW.pe_xk (pv 0)))) pss_nil)
      (pss_one (ps_ret (pe_ifExp (pt_val (pe_callB (r := EXW.rIsK K) EXW.call_isK rfl b.isi boot_isinstance (pa_cons (pv 0) (pa_cons (pe_glob (v := .ref (He.ga K "NoText")) rfl (T.gl "NoText" (by decide +kernel)) rfl) pa_nil)))) (EXW.pe_xk (pv 0)) pe_non)))))))), ?_⟩
    refine ⟨_, rfl, by show 3 ≤ sizeLine; decide, fun t ft => ?_⟩
    have s1 := same_new (o := .tup [.ref (He.ga K "BadName"), .ref (He.ga K "NoName"), .ref (He.ga K "Taken")]) ft
    have e1 : (upd H t (.tup [.ref (He.ga K "BadName"), .ref (He.ga K "NoName"), .ref (He.ga K "Taken")])) t = some (.tup ([He.ga K "BadName", He.ga K "NoName", He.ga K "Taken"].map V.ref)) := upd_same
    have ha := s1 _ _ ha
    have hd := dct_same hd s1
    have hv := hv.same s1
    generalize upd H t (.tup [.ref (He.ga K "BadName"), .ref (He.ga K "NoName"), .ref (He.ga K "Taken")]) = G at s1 e1 ha hd hv ⊢
    refine ⟨a, D, t, d, _, _, _, rfl, ha, hd, T.xc, SqT.of e1, EXW.ClsVs.refs, kit_ow T ["BadName", "NoName", "Taken"] (by decide +kernel), _, rfl, ?_⟩
    refine ite2 (fun c0 => ?_) (fun c0 => ?_)
    · skip
      obtain ⟨dd, fs, rfl, hf, xf, nf, lk⟩ := hv.some_ "name" (by unfold fldOf; rw [if_pos c0])
      exact ⟨_, rfl, a, D, dd, fs, v, rfl, ha, hf, xf, nf, lk, hQ _ s1⟩
    refine ⟨_, rfl, a, D, d, _, _, _, rfl, ha, hd, T.xc, fun u r => (by cases r; rfl), T.ko "NoDay" (by decide +kernel), _, rfl, ?_⟩
    refine ite2 (fun c1 => ?_) (fun c1 => ?_)
    · skip
      obtain ⟨dd, fs, rfl, hf, xf, nf, lk⟩ := hv.some_ "day" (by unfold fldOf; rw [if_neg c0, if_pos c1])
      exact ⟨_, rfl, a, D, dd, fs, v, rfl, ha, hf, xf, nf, lk, hQ _ s1⟩
    refine ⟨_, rfl, a, D, d, _, _, _, rfl, ha, hd, T.xc, fun u r => (by cases r; rfl), T.ko "NoNumber" (by decide +kernel), _, rfl, ?_⟩
    refine ite2 (fun c2 => ?_) (fun c2 => ?_)
    · skip
      obtain ⟨dd, fs, rfl, hf, xf, nf, lk⟩ := hv.some_ "thing" (by unfold fldOf; rw [if_neg c0, if_neg c1, if_pos c2])
      exact ⟨_, rfl, a, D, dd, fs, v, rfl, ha, hf, xf, nf, lk, hQ _ s1⟩
    refine ⟨_, rfl, a, D, d, _, _, _, rfl, ha, hd, T.xc, fun u r => (by cases r; rfl), T.ko "NoSeats" (by decide +kernel), _, rfl, ?_⟩
    refine ite2 (fun c3 => ?_) (fun c3 => ?_)
    · skip
      obtain ⟨dd, fs, rfl, hf, xf, nf, lk⟩ := hv.some_ "lack" (by unfold fldOf; rw [if_neg c0, if_neg c1, if_neg c2, if_pos c3])
      exact ⟨_, rfl, a, D, dd, fs, v, rfl, ha, hf, xf, nf, lk, hQ _ s1⟩
    refine ⟨_, rfl, a, D, d, _, _, _, rfl, ha, hd, T.xc, fun u r => (by cases r; rfl), T.ko "NoRide" (by decide +kernel), _, rfl, ?_⟩
    refine ite2 (fun c4 => ?_) (fun c4 => ?_)
    · skip
      obtain ⟨dd, fs, rfl, hf, xf, nf, lk⟩ := hv.some_ "reason" (by unfold fldOf; rw [if_neg c0, if_neg c1, if_neg c2, if_neg c3, if_pos c4])
      exact ⟨_, rfl, a, D, dd, fs, v, rfl, ha, hf, xf, nf, lk, hQ _ s1⟩
    refine ⟨_, rfl, a, D, d, _, _, _, rfl, ha, hd, T.xc, fun u r => (by cases r; rfl), T.ko "NoText" (by decide +kernel), _, rfl, ?_⟩
    refine ite2 (fun c5 => ?_) (fun c5 => ?_)
    · skip
      obtain ⟨dd, fs, rfl, hf, xf, nf, lk⟩ := hv.some_ "row" (by unfold fldOf; rw [if_neg c0, if_neg c1, if_neg c2, if_neg c3, if_neg c4, if_pos c5])
      exact ⟨_, rfl, a, D, dd, fs, v, rfl, ha, hf, xf, nf, lk, hQ _ s1⟩
    rw [hv.none_ (by unfold fldOf; rw [if_neg c0, if_neg c1, if_neg c2, if_neg c3, if_neg c4, if_neg c5])] at hQ
    exact hQ _ s1
end
end K16
set_option Elab.async false
set_option linter.all false
set_option maxRecDepth 100000
set_option maxHeartbeats 4000000
/-! EXT: two except clauses of tuples of classes, that keep the exception by one name -/
namespace EXV
open PySem PySem.Spec PyProof.Rows L2
/-- classes by their names -/
inductive NamesT (X : Cx) : List Expr → List Value → Prop
  | nil : NamesT X [] []
  | cons {x : Str} {np : Pos} {c : Value} {es : List Expr} {cs : List Value} : Names X x c → NamesT X es cs → NamesT X (.Name x np :: es) (c :: cs)
theorem NamesT.len {X : Cx} {es : List Expr} {cs : List Value} (h : NamesT X es cs) : es.length = cs.length := by
  induction h with
  | nil => rfl
  | cons _ _ ih => rw [List.length_cons, List.length_cons, ih]
/-- the flight goes on where more is made -/
theorem flying_up {B h h' : Heap} {l : List Env} {a : Addr} {Z : Obj → Prop} (x : HandSPX.FlyingZ B l a Z h) (k : ∀ b o, h.get? b = some o → h'.get? b = some o) : HandSPX.FlyingZ B l a Z h' := by
  obtain ⟨x1, x2, x3, oe, vs, T, oT, ts, e1, e2, e3, e4, e5, e6, e7, e8, e9⟩ := x
  exact ⟨fun b o e => k _ _ (x1 b o e), x2, x3.of_keeps fun b o e _ => ⟨o, k _ _ e, rfl⟩, oe, vs, T, oT, ts, k _ _ e1, e2, e3, e4, e5, e6, k _ _ e7, e8, e9⟩
/-- what a clause of a tuple of classes wishes of the body: slot i is the clause's name -/
def wKeepT (K : PySem.W.Frag) (cs : List Value) (i : Nat) (ts : Addr → Value → Option Addr → TS) (Wout : WX) (D : Ends) : WX := fun cls d σ H => ∃ b, PySem.W.exmAny K cls cs = some b ∧
  (b = true → ∀ a, H a = none → ts a cls d { nx := fun σ' H' => D.nx (σ'.set i none) H', rt := D.rt, bk := fun σ' H' => D.bk (σ'.set i none) H', ct := fun σ' H' => D.ct (σ'.set i none) H' } (σ.set i (some (.ref a))) (upd H a (Xc cls d a))) ∧ (b = false → Wout cls d σ H)
section
variable {X : Cx} {n : Str} {cs es : List Value} {xs ys : List Expr} {i k1 k2 : Nat} {body suite suite2 : List Stmt} {b₀ b₁ : Stmt} {np nq pos pos' pos2 : Pos} {tb : WX → TS} {ts ts2 : Addr → Value → Option Addr → TS} {Wout : WX}
theorem ps_try_keepT2 (stk : X.stack = X.env :: X.outer) (frm : X.env.frame = some X.env.locals) (nod : X.N.Nodup) (at_ : X.N[i]? = some n) (kln : X.env.kindOf n = some .local) (nm : NamesT X xs cs) (nm2 : NamesT X ys es) (cl : cs.length ≤ 100) (el : es.length ≤ 100) (out : Takes X Wout)
    (bdy : ∀ (W : WX) (pn : List (Addr × Obj)) (xe : Value → Shared → Prop), Takes (X.tr pn xe) W → PassesOwn (model X.prog X.w) X.A X.env xe → PSs (X.tr pn xe) body (tb W))
    (sui : ∀ (a : Addr) (cls : Value) (d : Option Addr) (pn : List (Addr × Obj)), PSs (X.suite a pn) (b₀ :: suite) (ts a cls d))
    (sui2 : ∀ (a : Addr) (cls : Value) (d : Option Addr) (pn : List (Addr × Obj)), PSs (X.suite a pn) (b₁ :: suite2) (ts2 a cls d)) :
    PS X (.Try body [.ExceptHandler (some (.Tuple xs k1 np)) (some n) (b₀ :: suite) pos', .ExceptHandler (some (.Tuple ys k2 nq)) (some n) (b₁ :: suite2) pos2] [] [] pos) (fun D σ H => tb (wKeepT X.K cs i ts (wKeepT X.K es i ts2 Wout D) D) D σ H) := by
  refine ⟨fun pins s σ H D I h => ?_⟩
  have good := I.ok
  have frs2 : X.A.frames = some (X.env :: X.outer) := by rw [good.frames, stk]
  have isLoc : Loc X.env.scope n := .inl kln
  have start := (bdy (wKeepT X.K cs i ts (wKeepT X.K es i ts2 Wout D) D) (X.pn ++ pins) (fun e s₁ => wpAny (model X.prog X.w) X.A (noteFrame e X.env) (fun _ s₂ => wpAny (model X.prog X.w) X.A (setFlight e none)
      (fun _ s₃ => wpAny (model X.prog X.w) X.A (handleBy e X.env [.ExceptHandler (some (.Tuple xs k1 np)) (some n) (b₀ :: suite) pos', .ExceptHandler (some (.Tuple ys k2 nq)) (some n) (b₁ :: suite2) pos2]) (SP X pins D) X.xe s₃) X.xe s₂) X.xe s₁) (fun u s' xx => ?_) PassesOwn.looking).run [] s σ H D (I.toTry _) h
  · refine wpAny_Try_except (wpAny_mono start (fun f s1 fin => ?_) fun _ _ he => he)
    cases f with
    | next =>
      obtain ⟨σ1, H1, J1, q1⟩ := fin
      exact wpAny_execs_nil ⟨σ1, H1, J1.ofTry good, q1⟩
    | brk =>
      obtain ⟨σ1, H1, J1, q1⟩ := fin
      exact ⟨σ1, H1, J1.ofTry good, q1⟩
    | cont =>
      obtain ⟨σ1, H1, J1, q1⟩ := fin
      exact ⟨σ1, H1, J1.ofTry good, q1⟩
    | ret u =>
      obtain ⟨v1, σ1, H1, J1, r1, q1⟩ := fin
      exact ⟨v1, σ1, H1, J1.ofTry good, r1, q1⟩
  -- what the body lets out
  obtain ⟨a, B, sI, pins', σ', H', cls, d, rfl, J0, nb, up, sky0, na, os, ag, b, tst, yes, no⟩ := xx
  have J : Inv X pins σ' H' sI := J0.ofTry good
  have sky : Sky B (X.env :: X.outer) a (Zc cls d) X.env.locals s'.heap := by rw [← stk]; exact sky0
  show wpAny (model X.prog X.w) X.A (noteFrame (.ref a) X.env) _ _ _
  refine Sky.land Zc.steady frs2 frm sky fun h3 fl3 up3 => ?_
  have J3 : Inv X pins σ' H' { s' with heap := h3 } := J.landed nb fl3.1 (up.trans up3) os ag
  have Ba0 : B.get? a = none := fl3.2.1
  have atTest : ∀ {h : Heap} {zs : List Expr} {vs : List Value} {kk : Nat} {p : Pos} {Q : Value → Shared → Prop} {E : Value → Shared → Prop}, HandSPX.FlyingZ B (X.env :: X.outer) a (Zc cls d) h → s'.heap.UpToSlots h → NamesT X zs vs → vs.length ≤ 100 →
      Q (.ref h.objs.size) { s' with heap := h.push { cls := .type "tuple", data := .seq vs.toArray } } → wpAny (model X.prog X.w) (X.A.mark (some (.ref a))) (eval (.Tuple zs kk p) X.env) Q E { s' with heap := h } := fun {h zs vs kk p Q E} fl up' nz lz q => by
    have J' : Inv X pins σ' H' { s' with heap := h } := J.landed nb fl.1 (up.trans up') os ag
    have S' := into_suite J' a
    have all : ∀ {zs : List Expr} {vs : List Value} {R : List Value → Shared → Prop}, NamesT X zs vs → R vs { s' with heap := h } → wpAny (model X.prog X.w) (X.A.mark (some (.ref a))) (spliced (backTo p (starEach zs X.env))) R E { s' with heap := h } := fun {zs vs R} nz => by
      induction nz generalizing R with
      | nil => exact fun r => wpAny_items_nil r
      | cons n1 _ ih =>
        intro r
        refine wpAny_items_cons ?_ (by rfl)
        obtain ⟨hg, hdbg, hm | ⟨hm, hv, hnn⟩⟩ := n1
        · exact ld_glob (X := X.suite a (X.pn ++ pins)) S' hg hm (ih r) hdbg
        · exact ld_blt (X := X.suite a (X.pn ++ pins)) S' hg hm hv (ih r) hnn hdbg
    exact wpAny_Tuple (all nz ⟨Nat.le_trans lz (by decide), q⟩)
  -- the heap without it
  have cut : ∀ {h4 : Heap}, B.StaysIn h4 → s'.heap.UpToSlots h4 → ∃ G : Heap, (∀ b o, G.get? b = some o → h4.get? b = some o) ∧ G.get? a = none ∧ Inv X pins σ' H' { s' with heap := G } := fun {h4} st4 up4 => by
    obtain ⟨G, g1, g2⟩ := restrict h4 fun b => decide (b ≠ a)
    have ga : G.get? a = none := g2 a (decide_eq_false fun z => z rfl)
    have ge : ∀ b, b ≠ a → G.get? b = h4.get? b := fun b hb => g1 b (decide_eq_true hb)
    obtain ⟨oe3, vs3, he3, hz3, hd3⟩ := fl3.there
    have notFr : a ∉ frs (X.env :: X.outer) := fun hm => by
      obtain ⟨_, o', e', hnf⟩ := fl3.2.2.1.mem hm
      rw [he3] at e'
      cases e'
      exact hnf _ hd3
    have keepB : B.StaysIn G := fun b o e => by
      rw [ge b fun z => by rw [z, Ba0] at e; cases e]
      exact st4 b o e
    have upG : sI.heap.UpToSlots G := fun b o e nf => by
      have hb : b ≠ a := fun z => by
        have := nb a o (z ▸ e) (by rw [stk]; exact notFr)
        rw [Ba0] at this
        cases this
      rw [ge b hb]
      exact (up.trans up4) b o e nf
    refine ⟨G, fun b o e => ?_, ga, J.landed (s' := { s' with heap := G }) nb keepB upG os ag⟩
    by_cases hb : b = a
    · rw [hb, ga] at e
      cases e
    · rw [← ge b hb]
      exact e
  have grow : ∀ {h : Heap} (o : Obj), s'.heap.UpToSlots h → s'.heap.UpToSlots (h.push o) := fun {h} o u => u.trans (Heap.UpToSlots.of_keeps fun _ _ e => Heap.get?_push_of_some _ e)
  have typed : ∀ {h : Heap}, HandSPX.FlyingZ B (X.env :: X.outer) a (Zc cls d) h → PySem.W.Looks (model X.prog X.w) h (typeOf (.ref a)) cls := fun {h} fl A Q E s k q => by
    obtain ⟨oe, _, e, z, _⟩ := fl.there
    exact wpAny_typeOf_ref (k _ _ e) (by rw [z.1]; exact q)
  have kp1 : ∀ b o, h3.get? b = some o → (h3.push { cls := .type "tuple", data := .seq cs.toArray }).get? b = some o := fun _ _ e => Heap.get?_push_of_some _ e
  have fl5 := flying_up fl3 kp1
  have up5 := grow { cls := .type "tuple", data := .seq cs.toArray } up3
  refine wpAny_handleBy_cons (codeAny_handlers_test ?_) (by intro q; cases q)
  refine atTest fl3 up3 nm cl ?_
  have J5 : Inv X pins σ' H' { s' with heap := h3.push { cls := .type "tuple", data := .seq cs.toArray } } := J.landed nb fl5.1 (up.trans up5) os ag
  refine (KTN.exm_tupN (M := model X.prog X.w) (J5.kIn) (typed fl5) (Heap.get?_push_size h3 rfl) tst).here ?_
  cases b with
  | true =>
    refine codeAny_handlers_suite_as ?_
    refine HandSPX.lands_againZ fl5 fun h4 fl4 up4 => ?_
    obtain ⟨oe4, vs4, he4, hz4, hd4⟩ := fl4.there
    obtain ⟨G, gk, ga, JG⟩ := cut fl4.1 (up5.trans up4)
    have JK : Inv X pins σ' (upd H' a (Xc cls d a)) { s' with heap := h4 } := JG.laidN (t' := s'.toks) (h' := h4) gk ga na (xc_ok he4 hz4 hd4)
    refine store_ok (X := X.suite a (X.pn ++ pins)) (v := .ref a) (into_suite JK a) nod at_ isLoc rfl (fun s5 S5 => ?_) (.inr kln)
    refine wpAny_mono ((sui a cls d (X.pn ++ pins)).run [] s5 _ _ _ S5 (yes rfl a na)) (fun f s6 fin => ?_) (fun _ _ z => False.elim z)
    have ends : ∀ {σ6 : L2.St} {H6 : Hp} {Q : Shared → Prop}, Inv (X.suite a (X.pn ++ pins)) [] σ6 H6 s6 → (∀ s7, Inv X pins (σ6.set i none) H6 s7 → Q s7) →
        wpAny (model X.prog X.w) X.A (do bindName X.env n .none; unbindBehindTheSuite X.env n pos') (fun _ s7 => Q s7) X.xe s6 := fun {σ6 H6 Q} S6 hq => gone_ok (out_suite S6 good) nod at_ kln hq
    cases f with
    | next =>
      obtain ⟨σ6, H6, S6, q6⟩ := fin
      exact ends S6 fun s7 J7 => ⟨_, _, J7, q6⟩
    | brk =>
      obtain ⟨σ6, H6, S6, q6⟩ := fin
      exact ends S6 fun s7 J7 => ⟨_, _, J7, q6⟩
    | cont =>
      obtain ⟨σ6, H6, S6, q6⟩ := fin
      exact ends S6 fun s7 J7 => ⟨_, _, J7, q6⟩
    | ret u =>
      obtain ⟨v6, σ6, H6, S6, r6, q6⟩ := fin
      exact ends S6 fun s7 J7 => ⟨_, _, _, J7, r6, q6⟩
  | false =>
    show wpAny _ X.A (handleBy (.ref a) X.env [.ExceptHandler (some (.Tuple ys k2 nq)) (some n) (b₁ :: suite2) pos2]) _ _ _
    obtain ⟨b2, tst2, yes2, no2⟩ := no rfl
    generalize h3.push { cls := .type "tuple", data := .seq cs.toArray } = h5 at fl5 up5 J5 ⊢
    have fl6 := flying_up (h' := h5.push { cls := .type "tuple", data := .seq es.toArray }) fl5 fun _ _ e => Heap.get?_push_of_some _ e
    have up6 := grow { cls := .type "tuple", data := .seq es.toArray } up5
    refine wpAny_handleBy_cons (codeAny_handlers_test ?_) (by intro q; cases q)
    refine atTest fl5 up5 nm2 el ?_
    have J6 : Inv X pins σ' H' { s' with heap := h5.push { cls := .type "tuple", data := .seq es.toArray } } := J.landed nb fl6.1 (up.trans up6) os ag
    refine (KTN.exm_tupN (M := model X.prog X.w) (J6.kIn) (typed fl6) (Heap.get?_push_size h5 rfl) tst2).here ?_
    generalize h5.push { cls := .type "tuple", data := .seq es.toArray } = h6 at fl6 up6 J6 ⊢
    cases b2 with
    | true =>
      refine codeAny_handlers_suite_as ?_
      refine HandSPX.lands_againZ fl6 fun h4 fl4 up4 => ?_
      obtain ⟨oe4, vs4, he4, hz4, hd4⟩ := fl4.there
      obtain ⟨G, gk, ga, JG⟩ := cut fl4.1 (up6.trans up4)
      have JK : Inv X pins σ' (upd H' a (Xc cls d a)) { s' with heap := h4 } := JG.laidN (t' := s'.toks) (h' := h4) gk ga na (xc_ok he4 hz4 hd4)
      refine store_ok (X := X.suite a (X.pn ++ pins)) (v := .ref a) (into_suite JK a) nod at_ isLoc rfl (fun s5 S5 => ?_) (.inr kln)
      refine wpAny_mono ((sui2 a cls d (X.pn ++ pins)).run [] s5 _ _ _ S5 (yes2 rfl a na)) (fun f s6 fin => ?_) (fun _ _ z => False.elim z)
      have ends : ∀ {σ6 : L2.St} {H6 : Hp} {Q : Shared → Prop}, Inv (X.suite a (X.pn ++ pins)) [] σ6 H6 s6 → (∀ s7, Inv X pins (σ6.set i none) H6 s7 → Q s7) →
          wpAny (model X.prog X.w) X.A (do bindName X.env n .none; unbindBehindTheSuite X.env n pos2) (fun _ s7 => Q s7) X.xe s6 := fun {σ6 H6 Q} S6 hq => gone_ok (out_suite S6 good) nod at_ kln hq
      cases f with
      | next =>
        obtain ⟨σ6, H6, S6, q6⟩ := fin
        exact ends S6 fun s7 J7 => ⟨_, _, J7, q6⟩
      | brk =>
        obtain ⟨σ6, H6, S6, q6⟩ := fin
        exact ends S6 fun s7 J7 => ⟨_, _, J7, q6⟩
      | cont =>
        obtain ⟨σ6, H6, S6, q6⟩ := fin
        exact ends S6 fun s7 J7 => ⟨_, _, J7, q6⟩
      | ret u =>
        obtain ⟨v6, σ6, H6, S6, r6, q6⟩ := fin
        exact ends S6 fun s7 J7 => ⟨_, _, _, J7, r6, q6⟩
    | false =>
      show wpAny _ X.A (handleBy (.ref a) X.env []) _ _ _
      refine wpAny_handleBy_nil ?_
      obtain ⟨_, _, _, oe, vs, T, oT, ts', he, hz, hd, h1, hr⟩ := id fl6
      unfold PySem.passOn
      refine wpAny_bind (wpAny_field he hd h1 ?_)
      rw [if_neg (show ¬ ((Value.ref T == Value.none) = true) from by simp)]
      have fin : wpAny (model X.prog X.w) X.A (setFlight (.ref a) X.env.frame) (fun _ s4 => wpAny (model X.prog X.w) X.A (throw (.ref a) : Sem Flow) (SP X pins D) X.xe s4) X.xe { s' with heap := h6 } := by
        rw [frm]
        refine HandSPX.setFlight_upZ fl6 fun h4 hh4 up4 => wpAny_throw (out _ _ ?_)
        exact ⟨a, B, sI, pins, σ', H', cls, d, rfl, J, nb, (up.trans up6).trans up4, .inr (.inr (by rw [stk]; exact hh4)), na, os, ag, no2 rfl⟩
      first
        | exact wpAny_bind (wpAny_pure (wpAny_bind fin))
        | exact wpAny_bind fin
end
end EXV
set_option Elab.async false
set_option linter.all false
set_option maxRecDepth 100000
set_option maxHeartbeats 4000000
/-! LMS: a lambda without parameters handed to a def that calls it in a try of its own slots. -/
namespace LMS
open PySem PySem.Spec PyProof.Rows L2
open LamX (Tabs ExtN TabB CodeO LamS lamEnv lamCx lam_start2 lam_make2 run_ofS)
section
variable {X : Cx} {pins : List (Addr × Obj)} {σ : L2.St} {H : Hp} {s : Shared}
/-- x(), where x is the lambda, in the def that got it (its slots are σ2 then): what the lambda lets out is taken at these slots -/
theorem pe_run {Cg : CXT} {Eg : XK} {Nd : List Str} {qd : Str} {sd : Scope} {gd lf lc : Addr} {cdv pm ctv : Value} {ps : Arguments} {bd : Expr} {sl : Scope} {k i : Nat} {y : Str} {pn : List (Addr × Obj)} {xe : Value → Shared → Prop} {W : WX} {tl : XK → TE} {pa pb : Pos}
    (I : Inv X pins σ H s) (L : LamS X.env.scope sl) (at_ : s.heap.get? lf = some (PySem.W.kla_obj "<lambda>" (X.env.qual ++ "<lambda>") ps bd sl (cloFrom X.env.cells sl.names []) pm lc ctv)) (fn : H lf = none) (nf : lf ∉ frs X.stack)
    (bind : bindArgs (PySem.W.kla_fn "<lambda>" (X.env.qual ++ "<lambda>") ps bd sl (cloFrom X.env.cells sl.names []) pm (.ref lc) ctv) ⟨[], []⟩ = pure [])
    (takes : Takes ((cxOf Cg X.prog X.w X.K X.mg X.base Nd qd sd gd cdv X.A X.stack s H Eg).tr pn xe) W) (room : Room (k + 1) (X.A.deeper (envOfC qd sd s.heap.objs.size gd cdv)))
    (body : ∀ (A : Around) (outer : List Env) (s0 : Shared) (H0 : Hp) (E : XK), Room k (A.deeper (lamEnv X sl s0.heap.objs.size lf lc)) → PE (lamCx X A outer s0 H0 E sl lf lc) bd (tl E))
    (hN : Nd[i]? = some y) (hv : Vis sd y) (n1 : (y == ("__debug__" : Str)) = false := by decide) (n2 : (y == ("__classdict__" : Str)) = false := by decide) :
    PE ((cxOf Cg X.prog X.w X.K X.mg X.base Nd qd sd gd cdv X.A X.stack s H Eg).tr pn xe) (.Call (.Name y pa) [] [] pb)
      (fun σ2 H2 Q => σ2[i]? = some (some (.ref lf)) ∧ H2 lc = some (CodeO lc (X.env.qual ++ "<lambda>")) ∧ tl (fun cls d H' => W cls d σ2 H') σ H2 Q) := by
  refine ⟨fun pins2 s2 σ2 H2 Q I2 ⟨atS, atC, told⟩ => ?_⟩
  refine wpAny_Call_Name_kw (thn ((pe_var (pos := pa) (i := i) hN hv n1 n2).run pins2 s2 σ2 H2 (fun v H1 => v = .ref lf ∧ H1 = H2) I2 ⟨.ref lf, atS, rfl, rfl⟩) ?_)
  rintro u s3 ⟨v, H1, I3, rv, rfl, rfl⟩
  obtain rfl : u = Value.ref lf := rv
  have at3 := I3.base.keep lf _ at_ fn nf (fun z => nomatch (show lf ∈ ([] : List Addr) from z))
  refine PySem.W.callWith_F0 ⟨_, _, _, _, at3⟩ (wpAny_call ?_)
  have un : Un (frs X.stack) [] H H1 s.heap s3.heap := I3.base
  obtain ⟨⟨oc, ws, t, c1, c2, c3⟩, _, _⟩ := I3.hok lc _ atC
  have leave : PassesAt (L2.CX X.prog X.w) ((cxOf Cg X.prog X.w X.K X.mg X.base Nd qd sd gd cdv X.A X.stack s H Eg).tr pn xe) σ2 (WE W σ2) := passAt takes σ2
  refine codeAny_mono (R := CR (L2.CX X.prog X.w) (envOfC qd sd s.heap.objs.size gd cdv :: X.stack) X.prog X.w H1 s3 Q fun cls d H' => W cls d σ2 H') ?_ ?_
  · show codeAny (model X.prog X.w) (X.A.deeper (envOfC qd sd s.heap.objs.size gd cdv)) (.call (.ref lf) ⟨[], []⟩) _ _
    refine PySem.W.kla_callFunE room.depth at3 rfl L.co L.gen rfl ⟨lc, oc, ws, t, rfl, c1, c2, c3⟩ ?_
    rw [bind]
    refine wpAny_pure (wpAny_newFunctionEnv (fun y hy => (L.own y hy).2) (fun y hy => absurd hy (by simp)) ?_ L.kind)
    intro h₁ hns hsb
    refine ⟨I3.nolimit.fresh _ hsb, ?_⟩
    have more : ∀ b o, s3.heap.get? b = some o → h₁.get? b = some o := fun b o e => hsb.extBut b o (Nat.ne_of_lt (Heap.lt_size e)) (Heap.get?_push_of_some _ e)
    have J := lam_start2 (E := fun cls d H' => W cls d σ2 H') (f := lf) (c' := lc) (tk := s3.toks + ([] : List (Str × Value)).length) I L I3.env0 room.hd un hns more
    refine PySem.W.kla_codeExpr (wpAny_mono ((body _ _ s3 H1 _ (room.deeper _)).run [] _ _ H1 Q J told) ?_ fun e s' he => he)
    rintro v s' ⟨w', H', J', r', q'⟩
    exact ⟨w', H', J'.os, J'.bare, J'.base, J'.hok, r', q'⟩
  · intro r s' hr
    match r, hr with
    | .error e, hr => exact leave pins2 H1 s3 e s' I3 hr
    | .ok (.ret u), hr => exact I3.after hr
    | .ok .next, hr => exact False.elim hr
    | .ok .brk, hr => exact False.elim hr
    | .ok .cont, hr => exact False.elim hr
end
/-- what the def makes of the lambda that it got: y is its name for it -/
def GivesS (X : Cx) (Nd : List Str) (x : Str) (sd : Scope) (gd : Addr) (cdv : Value) (bg : List Stmt) (y q : Str) (TT : (XK → Hp → VK → Prop) → Hp → VK → Prop) : Prop :=
  ∀ (lf lc : Addr) (s : Shared) (H : Hp) (Q : VK) (told : XK → Hp → VK → Prop),
    (∀ (W : WX) (pn : List (Addr × Obj)) (xe : Value → Shared → Prop) (pa pb : Pos), Takes ((cxOf C8.CX0 X.prog X.w X.K X.mg X.base Nd x sd gd cdv X.A X.stack s H C8.E0).tr pn xe) W →
      PE ((cxOf C8.CX0 X.prog X.w X.K X.mg X.base Nd x sd gd cdv X.A X.stack s H C8.E0).tr pn xe) (.Call (.Name y pa) [] [] pb) (fun σ2 H2 Q => σ2[0]? = some (some (.ref lf)) ∧ H2 lc = some (CodeO lc q) ∧ told (fun cls d H' => W cls d σ2 H') H2 Q)) →
    H lc = some (CodeO lc q) → TT told H Q →
    ∃ t, PSs (cxOf C8.CX0 X.prog X.w X.K X.mg X.base Nd x sd gd cdv X.A X.stack s H C8.E0).nox bg t ∧ t { nx := fun _ H' => Q .non H', rt := Q } (L2.start Nd [.ref lf]) H
def tLamS (T : List (Addr × Str)) (TT : (XK → Hp → VK → Prop) → Hp → VK → Prop) (t : XK → TE) : TE := fun σ H Q => Tabs T H ∧ ∀ H1, ExtN H H1 → Tabs T H1 → TT (fun E H' Q' => t E σ H' Q') H1 Q
section
variable {X : Cx}
/-- x(lambda: bd) -/
theorem pe_lamS {T : List (Addr × Str)} {TT : (XK → Hp → VK → Prop) → Hp → VK → Prop} {x y : Str} {gd c P : Addr} {k : Nat} {pg : Arguments} {bg : List Stmt} {sd : Scope} {dV kV doc pm cdv ct oc : Value} {an od : Option Addr} {osl : Array (Option Value)} {Nd : List Str}
    {ps : Arguments} {bd : Expr} {sl : Scope} {tl : XK → TE} {p lp pos : Pos} (hg : Gl X x) (hm : X.mg x = some (.ref gd)) (hk : PySem.W.keepIn X.K (.ref gd) = true)
    (lk : X.K.lookup gd = some ⟨oc, od, .func (PySem.W.fnOf x x pg bg sd dV kV doc pm an cdv ct), osl⟩) (hcg : PySem.W.codeIn X.K cdv x = true) (hb : L2.Binds X.K (PySem.W.fnOf x x pg bg sd dV kV doc pm an cdv ct) [y] []) (Sd : FnScope Nd [y] sd) (hN : Nd[0]? = some y) (hv : Vis sd y)
    (gives : GivesS X Nd x sd gd cdv bg y (X.env.qual ++ "<lambda>") TT)
    (TB : TabB X.base X.mg c P) (code : X.env.code = .ref c) (mem : (P, X.env.qual ++ "<lambda>") ∈ T) (one : ∀ p ∈ T, p.1 = P → p.2 = X.env.qual ++ "<lambda>") (room : Room (k + 2) X.A) (L : LamS X.env.scope sl) (def0 : defaultsOf ps X.env = ([], []))
    (bind : ∀ (q : Str) (cl : List (Str × Addr)) (pm cv ctv : Value), bindArgs (PySem.W.kla_fn "<lambda>" q ps bd sl cl pm cv ctv) ⟨[], []⟩ = pure [])
    (body : ∀ (A : Around) (outer : List Env) (s0 : Shared) (H0 : Hp) (E : XK) (lf lc : Addr), Room k (A.deeper (lamEnv X sl s0.heap.objs.size lf lc)) → PE (lamCx X A outer s0 H0 E sl lf lc) bd (tl E))
    (n0 : (x == ("__debug__" : Str)) = false := by decide) (n1 : (y == ("__debug__" : Str)) = false := by decide) (n2 : (y == ("__classdict__" : Str)) = false := by decide) :
    PE X (.Call (.Name x p) [.Lambda ps bd sl lp] [] pos) (tLamS T TT tl) := by
  refine ⟨fun pins s σ H Q I ⟨hT, h⟩ => ?_⟩
  refine wpAny_Call_Name_kw (ld_glob I hg hm (PySem.W.callWith_K (h₀ := X.base) I.ok.mod.kin hk ?_ (by rfl) (by rfl)) n0)
  show wpAny _ _ (spliced ((false, eval (.Lambda ps bd sl lp) X.env) :: backTo pos (starEach [] X.env))) _ _ s
  refine Calls.spliced_cons (lam_make2 I TB code mem one hT def0 (L.has I.ok) ?_)
  intro lf lc pm' ctv H1 s' I1 eN T1 e1 fn nf co
  refine Calls.spliced_nil ⟨I1.kIn, wpAny_call (codeAny_mono (R := CR C8.CX0 X.stack X.prog X.w H1 s' Q C8.E0) ?_ ?_)⟩
  · refine run_ofS (N := Nd) (ps := [y]) (us := [.ref lf]) (vs := [.ref lf]) lk hcg Sd room I1.env0 (hb s' [.ref lf] I1.kIn rfl) (.cons rfl .nil) rfl fun room' => ?_
    obtain ⟨t', ps', q'⟩ := gives lf lc s' H1 Q (fun E H' Q' => tl E σ H' Q') (fun W pn xe pa pb tk => pe_run (i := 0) I1 L e1 fn nf (bind _ _ _ _ _) tk room' (fun A outer s0 H0 E r => body A outer s0 H0 E lf lc r) hN hv n1 n2) co (h H1 eN T1)
    exact ⟨t', ps'.nox, q'⟩
  · intro r s2 hr
    match r, hr with
    | .error e, hr => exact (show False from hr).elim
    | .ok (.ret u), hr => exact I1.after hr
    | .ok .next, hr => exact False.elim hr
    | .ok .brk, hr => exact False.elim hr
    | .ok .cont, hr => exact False.elim hr
end
end LMS
set_option Elab.async false
set_option linter.all false
set_option maxRecDepth 100000
set_option maxHeartbeats 4000000
namespace K16
open PySem PySem.Spec PyProof.Rows L2
open C8 (Cal Mak Met pe_c pe_mk pe_mt pe_mt0)
open EXV (Xc)
open EXW (Dct)
/-- which clause takes it -/
def Exm (K : PySem.W.Frag) (D : Addr) (ow : Str → Bool) : Prop := ∀ x ∈ ex16, PySem.W.exmOne K (.ref D) (.ref (He.ga K x)) = some (ow x)
theorem exm_ow {K : PySem.W.Frag} {D : Addr} {ow : Str → Bool} (T : Exm K D ow) : ∀ xs : List Str, (∀ x ∈ xs, x ∈ ex16) → PySem.W.exmAny K (.ref D) ((xs.map (He.ga K)).map Value.ref) = some (xs.any ow)
  | [], _ => rfl
  | x :: xs, h => by
    have ih := exm_ow T xs fun y hy => h y (List.mem_cons_of_mem _ hy)
    show PySem.W.exmAny K (.ref D) (.ref (He.ga K x) :: (xs.map (He.ga K)).map Value.ref) = _
    unfold PySem.W.exmAny
    rw [T x (h x List.mem_cons_self), ih, List.any_cons]
abbrev cl10 : List Str := ["BadName", "NoDay", "NoKind", "NoName", "NoNumber", "NoRide", "NoRow", "NoRule", "NoSeats", "NoShare"]
abbrev cl6 : List Str := ["NoText", "NothingDone", "Nought", "Taken", "TooMany", "Uneven"]
/-- a refusal of class cls, its word and what its field holds -/
def RefAt (K : PySem.W.Frag) (mg : Str → Option Value) (cls : Value) (d : Option Addr) (H : Hp) (wd : Str) (v : V) : Prop := ∃ (D : Addr) (ow : Str → Bool) (ab : String → Bool), cls = .ref D ∧ Ex K mg D ow ab ∧ Exm K D ow ∧ WordOk ow ab wd ∧ (cl10.any ow = true ∨ cl6.any ow = true) ∧ Dct H d ∧ FldAt K D ow d H v
/-- what _law_got makes of the deed -/
def GotT (K : PySem.W.Frag) (mg : Str → Option Value) (told : XK → Hp → VK → Prop) (H : Hp) (Q : VK) : Prop := ∀ (H1 : Hp) (E' : XK) (Q' : VK), Same H H1 →
  (∀ cls d H' (wd : Str) (v : V), RefAt K mg cls d H' wd v → (∀ t H2, Same H' H2 → H' t = none → H2 t = some (.tup [.str wd, v]) → Q (.ref t) H2) → E' cls d H') →
  (∀ v H', (∀ t H2, Same H' H2 → H' t = none → H2 t = some (.tup [.str "told", v]) → Q (.ref t) H2) → Q' v H') → told E' H1 Q'
section
variable {P : Program} {w : World} {K : PySem.W.Frag} {mg : Str → Option Value} {base : Heap} {f : Addr} {fd : FuncData}
def spWdA (K : PySem.W.Frag) (mg : Str → Option Value) : Sp := fun vs H Q E => ∃ (D : Addr) (wd : Str) (ow : Str → Bool) (ab : String → Bool), Ex K mg D ow ab ∧ WordOk ow ab wd ∧ spWd D wd vs H Q E
def spFdA (K : PySem.W.Frag) (mg : Str → Option Value) : Sp := fun vs H Q E => ∃ (D : Addr) (ow : Str → Bool) (ab : String → Bool), Ex K mg D ow ab ∧ spFd K D ow vs H Q E
theorem ok_wdA (F : Dn K d_l_word f fd) (b : Bl mg) : FnOk P w K mg base CX0 1 f fd ["_law_e"] (spWdA K mg) :=
  ⟨fun vs H Q E ⟨_, _, _, _, T, W, h⟩ => (ok_wd (P := P) (w := w) (base := base) F b T W).len vs H Q E h, fun A outer s H args us vs Q E hr he hb hv ⟨_, _, _, _, T, W, h⟩ => (ok_wd F b T W).run A outer s H args us vs Q E hr he hb hv h⟩
theorem ok_fdA (F : Dn K d_l_field f fd) (b : Bl mg) : FnOk P w K mg base CX0 1 f fd ["_law_e"] (spFdA K mg) :=
  ⟨fun vs H Q E ⟨_, _, _, T, h⟩ => (ok_fd (P := P) (w := w) (base := base) F b T).len vs H Q E h, fun A outer s H args us vs Q E hr he hb hv ⟨_, _, _, T, h⟩ => (ok_fd F b T).run A outer s H args us vs Q E hr he hb hv h⟩
end
section
variable {X : Cx} {gd : Addr} {cdv : Value} {q : Str}
theorem got_gives (gl : ∀ x ∈ ex16, X.mg x = some (.ref (He.ga X.K x))) (hr : Room 4 X.A) (cW : Cal X.prog X.w X.K X.mg X.base 1 "_law_word" (spWdA X.K X.mg) []) (cF : Cal X.prog X.w X.K X.mg X.base 1 "_law_field" (spFdA X.K X.mg) []) :
    LMS.GivesS X N_l_got "_law_got" (defScope s_l_got) gd cdv (defBody s_l_got) "_law_deed" q (GotT X.K X.mg) := by
  intro lf lc s H Q told call code h
  have hr3 : Room 3 (X.A.deeper (envOfC "_law_got" (defScope s_l_got) s.heap.objs.size gd cdv)) := hr.deeper _
  refine ⟨_, pss_cons (ps_asg (pe_tup (pa_cons pe_non (pa_cons pe_non pa_nil))) (pg_tup rfl (pgs_cons (pg_name (i := 1) sc_l_got.nd rfl (.inl rfl)) (pgs_cons (pg_name (i := 2) sc_l_got.nd rfl (.inl rfl)) pgs_nil))))
      (pss_cons (EXV.ps_try_keepT2 (i := 3) (cs := (cl10.map (He.ga X.K)).map Value.ref) (es := (cl6.map (He.ga X.K)).map Value.ref) rfl rfl sc_l_got.nd rfl rfl
          (.cons ⟨rfl, by decide, .inl (gl "BadName" (by decide +kernel))⟩ (.cons ⟨rfl, by decide, .inl (gl "NoDay" (by decide +kernel))⟩ (.cons ⟨rfl, by decide, .inl (gl "NoKind" (by decide +kernel))⟩ (.cons ⟨rfl, by decide, .inl (gl "NoName" (by decide +kernel))⟩ (.cons ⟨rfl, by decide, .inl (gl "NoNumber" (by decide +kernel))⟩
            (.cons ⟨rfl, by decide, .inl (gl "NoRide" (by decide +kernel))⟩ (.cons ⟨rfl, by decide, .inl (gl "NoRow" (by decide +kernel))⟩ (.cons ⟨rfl, by decide, .inl (gl "NoRule" (by decide +kernel))⟩ (.cons ⟨rfl, by decide, .inl (gl "NoSeats" (by decide +kernel))⟩ (.cons ⟨rfl, by decide, .inl (gl "NoShare" (by decide +kernel))⟩ .nil))))))))))
          (.cons ⟨rfl, by decide, .inl (gl "NoText" (by decide +kernel))⟩ (.cons ⟨rfl, by decide, .inl (gl "NothingDone" (by decide +kernel))⟩ (.cons ⟨rfl, by decide, .inl (gl "Nought" (by decide +kernel))⟩ (.cons ⟨rfl, by decide, .inl (gl "Taken" (by decide +kernel))⟩ (.cons ⟨rfl, by decide, .inl (gl "TooMany" (by decide +kernel))⟩ (.cons ⟨rfl, by decide, .inl (gl "Uneven" (by decide +kernel))⟩ .nil))))))
          (by show 10 ≤ 100; decide) (by show 6 ≤ 100; decide) takes0
          (fun W pn xe tk _ => pss_one (ps_set (i := 2) sc_l_got.nd rfl (.inl rfl) (call W pn xe _ _ tk)))
          (fun a cls d pn => pss_one (ps_set (i := 1) sc_l_got.nd rfl (.inl rfl) (pv 3)))
          (fun a cls d pn => pss_one (ps_set (i := 1) sc_l_got.nd rfl (.inl rfl) (pv 3))))
      (pss_cons (ps_if (pt_cmpR op_isN1 (pv 1) pe_non (nomark _)) (pss_one (ps_ret (pe_tup (pa_cons pe_str (pa_cons (pv 2) pa_nil))))) pss_nil)
      (pss_one (ps_ret (pe_tup (pa_cons (pe_c cW hr3 (by decide) rfl (pa_cons (pv 1) pa_nil)) (pa_cons (pe_c cF hr3 (by decide) rfl (pa_cons (pv 1) pa_nil)) pa_nil))))))), ?_⟩
  refine ⟨by show 2 ≤ sizeLine; decide, fun t0 f0 => ⟨t0, _, rfl, SqT.of upd_same, rfl, _, _, rfl, _, _, rfl, rfl, ?_⟩⟩
  have s1 := same_new (o := .tup [.non, .non]) f0
  refine ⟨rfl, s1 _ _ code, h _ _ _ s1 ?_ ?_⟩
  · rintro cls d H' wd v ⟨D, ow, ab, rfl, T, M, W, hcl, hd, hf⟩ hQ
    refine ⟨_, exm_ow M cl10 (by decide +kernel), fun _ a ha => ?_, fun z10 => ⟨_, exm_ow M cl6 (by decide +kernel), fun _ a ha => ?_, fun z6 => ?_⟩⟩
    rotate_right
    · rcases hcl with e | e
      · rw [e] at z10
        cases z10
      · rw [e] at z6
        cases z6
    all_goals
      have sx := same_new (o := Xc (.ref D) d a) ha
      have hx : (upd H' a (Xc (.ref D) d a)) a = some (Xc (.ref D) d a) := upd_same
      have hd2 := dct_same hd sx
      have hf2 := hf.same sx
      generalize upd H' a (Xc (.ref D) d a) = H2 at sx hx hd2 hf2 ⊢
      refine ⟨_, rfl, ?_⟩
      refine ⟨_, rfl, rfl, _, rfl, iteF ?_⟩
      refine ⟨_, rfl, D, wd, ow, ab, T, W, a, d, rfl, hx, hd2, fun H3 s3 => ?_⟩
      refine ⟨_, rfl, D, ow, ab, T, a, d, v, rfl, s3 _ _ hx, dct_same hd2 s3, hf2.same s3, fun H4 s4 => ?_⟩
      exact ⟨by show 2 ≤ sizeLine; decide, fun u fu => hQ u _ (((sx.trans s3).trans s4).trans (same_new fu)) (((sx.trans s3).trans s4).free fu) upd_same⟩
  · rintro v H' hQ
    refine ⟨_, rfl, rfl, _, rfl, iteT ?_⟩
    exact ⟨_, rfl, by show 2 ≤ sizeLine; decide, fun u fu => hQ u _ (same_new fu) fu upd_same⟩
end
end K16
set_option Elab.async false
set_option linter.all false
set_option maxRecDepth 100000
set_option maxHeartbeats 4000000
/-! GE: a law's end by a promise that is asked only where no repr is under way. -/
namespace GL
open PySem PySem.Spec PyProof.Rows L2
theorem lawG {P : Program} {w : World} {K : PySem.W.Frag} {mg mb : Str → Option Value} {k : Nat} {fa a : Addr} {fd : FuncData} {x : Str} {sp : Sp} {s₁ : Shared} {vs : List Value} {ns : List Int}
    (KX : K.In s₁.heap) (hns : s₁.heap.Ns mainGlobals mg) (hb : s₁.heap.Ns builtinsNs mb) (hbb : ∀ x : Str, x ≠ "__name__" → mb x = bootBuiltins x) (hlim : s₁.heap.NoLimit) (hg : s₁.gens = #[])
    (ha : s₁.heap.get? a = some { cls := .type "list", data := .seq vs.toArray }) (hi : IntsAre vs ns) (hl : ns.length ≤ sizeLine) (hr : Room k callerA)
    (F : ∀ base : Heap, K.In base → base.Ns mainGlobals mg → FnG P w K mg base k fa fd [x] sp) (hbind : ∀ (s : Shared) (u : Value), BindsTo s fd ⟨[u], []⟩ [(x, u)])
    (hsp : ∀ H : Hp, SqL K H a (ns.map V.int) → sp [.ref a] H (fun v _ => v = .bl true) fun _ _ _ => False) :
    codeAny (model P w) callerA (.call (.ref fa) ⟨[.ref a], []⟩) (fun r s' => r = .ok (.ret (.bool true)) ∧ OldK s₁.heap s'.heap ∧ s'.os = s₁.os ∧ AllBare s'.gens) s₁ := by
  -- the script alone is tracked, as it is, or nothing
  have from_ : ∀ H : Hp, SqL K H a (ns.map V.int) → HOk P w H s₁.heap → (∀ b u, H b = some u → b = a ∧ K.lookup a = none ∧ ∃ o xs, u = .frz o (.lst xs)) →
      codeAny (model P w) callerA (.call (.ref fa) ⟨[.ref a], []⟩) (fun r s' => r = .ok (.ret (.bool true)) ∧ OldK s₁.heap s'.heap ∧ s'.os = s₁.os ∧ AllBare s'.gens) s₁ := by
    intro H hS hok hA
    have off : ∀ b, (b = a → K.lookup a ≠ none) → H b = none := fun b n => by
      cases q : H b with
      | none => rfl
      | some u => exact absurd (hA b u q).2.1 (n (hA b u q).1)
    have nsK : ∀ {b : Addr} {m : Str → Option Value}, s₁.heap.Ns b m → (hidT s₁.heap H).Ns b m := by
      rintro b m ⟨o, es, ep, e, d, r⟩
      refine ⟨o, es, ep, hidT_get e (off b fun z => ?_), d, r⟩
      subst z
      rw [ha] at e
      cases e
      cases d
    have inK : K.In (hidT s₁.heap H) := fun b o e => hidT_get (KX b o e) (off b fun z => by rw [← z, e]; simp)
    have hM : Mod K mg (hidT s₁.heap H) := ⟨inK, nsK hns, ⟨mb, nsK hb, hbb⟩, by obtain ⟨mc, h1, h2⟩ := hlim; exact ⟨mc, nsK h1, h2⟩⟩
    have nofr : ∀ b : Addr, b ∉ frs ([] : List Env) := fun b z => nomatch z
    have e0 : Env0 P w K mg (hidT s₁.heap H) callerA [] s₁ H := ⟨rfl, hM, fun b o e => of_hidT e, Nat.le_of_eq (hidT_size _ _), trivial, fun b z => absurd z (nofr b), hok, .of_eq hg⟩
    refine codeAny_mono ((F _ inK (nsK hns)).run callerA [] s₁ H ⟨[.ref a], []⟩ [.ref a] [.ref a] _ _ rfl hr e0 (hbind s₁ (.ref a)) (.cons rfl .nil) (hsp H hS)) fun r s' h => ?_
    match r, h with
    | .error e, h => exact False.elim h
    | .ok .next, h => exact False.elim h
    | .ok .brk, h => exact False.elim h
    | .ok .cont, h => exact False.elim h
    | .ok (.ret u), ⟨v, H', os, bare, un, hok', r', q⟩ =>
      cases (show v = .bl true from q)
      cases (show u = Value.bool true from r')
      refine ⟨rfl, OldK.of_keep fun b o e => ?_, os, bare⟩
      cases q : H b with
      | none => exact un.keep b o e q (nofr b) (by simp)
      | some u =>
        obtain ⟨_, _, ob, xs, rfl⟩ := hA b u q
        have e1 := (hok b _ q).1
        have e2 := (hok' b _ (un.frzs b ob _ q)).1
        rw [e] at e1
        cases e1
        exact e2
  have rv := vals_ints hi
  cases hk : K.lookup a with
  | some o =>
    have e := KX a o hk
    rw [ha] at e
    cases e
    exact from_ (fun _ => none) (.inr ⟨_, vs.toArray, _, hk, rfl, rfl, rfl, by rw [List.size_toArray, hi.length]; exact hl, by simpa using rv⟩) (fun b u z => nomatch z) (fun b u z => nomatch z)
  | none =>
    have at_ : ∀ (b : Addr) (u : HO), (if b = a then some (HO.frz { cls := .type "list", data := .seq vs.toArray } (.lst (ns.map V.int))) else none) = some u → b = a ∧ u = HO.frz { cls := .type "list", data := .seq vs.toArray } (.lst (ns.map V.int)) := fun b u z => by
      by_cases h : b = a
      · rw [if_pos h] at z
        exact ⟨h, (Option.some.inj z).symm⟩
      · rw [if_neg h] at z
        cases z
    refine from_ (fun b => if b = a then some (.frz { cls := .type "list", data := .seq vs.toArray } (.lst (ns.map V.int))) else none) (.inl (.inr ⟨{ cls := .type "list", data := .seq vs.toArray }, if_pos rfl⟩)) (fun b u z => ?_) (fun b u z => ?_)
    · obtain ⟨rfl, rfl⟩ := at_ b u z
      exact ⟨ha, by rw [List.length_map]; exact hl, vs, _, rv, ha⟩
    · obtain ⟨rfl, rfl⟩ := at_ b u z
      exact ⟨rfl, hk, _, _, rfl⟩
/-- a law: F gives the written part, the function object, the promise over every base -/
theorem walkG {l : PySem.W.OpenLaw} {n k : Nat} {q : Program} {loose : List Str} {XP : (Str → Option Value) → Heap → Prop} {YP : World → Heap → Prop} {d : DefRec} {x : Str} (hn : l.most = some n) (hn2 : n ≤ sizeLine) (hdf : d.params.defaults = []) (hr : Room k callerA)
    (F : ∀ (w : World) (mg : Str → Option Value) (fa : Addr) (h : Heap), YP w h → h.Ns mainGlobals mg → mg d.name = some (.ref fa) →
      ∃ (K : PySem.W.Frag) (fd : FuncData) (sp : Sp), K.In h ∧ (∀ (s : Shared) (u : Value), BindsTo s fd ⟨[u], []⟩ [(x, u)]) ∧
        (∀ (H : Hp) (a : Addr) (ns : List Int), ns.length ≤ n → SqL K H a (ns.map V.int) → sp [.ref a] H (fun v _ => v = .bl true) fun _ _ _ => False) ∧
        ∀ base : Heap, K.In base → base.Ns mainGlobals mg → FnG l.prog w K mg base k fa fd [x] sp) : PySem.W.WalkO q loose XP YP l.row.toRowW d [] (fun f vs => PySem.call f vs) := by
  refine Att.attach_call hn hdf fun w s₀ s₁ mg mb fa o pm cd doc a vs ns G Y ho hd hcd hmg hobj hints hlen hg => ?_
  obtain ⟨K, fd, sp, KX, hb, hsp, hF⟩ := F w mg fa _ Y G.T.g hmg
  exact lawG KX G.T.g G.T.b G.T.builtins G.T.nolimit hg hobj hints (Nat.le_trans hlen hn2) hr hF hb fun H hS => hsp H a ns hlen hS
end GL
set_option Elab.async false
set_option linter.all false
set_option maxRecDepth 100000
set_option maxHeartbeats 4000000
/-! GET: a law's end by a promise that is asked only where no repr is under way, with tables of lambdas. -/
namespace GL
open PySem PySem.Spec PyProof.Rows L2
open LamX (TabB)
theorem lawTG {P : Program} {w : World} {K : PySem.W.Frag} {mg mb : Str → Option Value} {k : Nat} {fa a : Addr} {ts : List (Addr × Addr)} {fd : FuncData} {x : Str} {sp : Sp} {s₁ : Shared} {vs : List Value} {ns : List Int}
    (KX : K.In s₁.heap) (hns : s₁.heap.Ns mainGlobals mg) (hb : s₁.heap.Ns builtinsNs mb) (hbb : ∀ x : Str, x ≠ "__name__" → mb x = bootBuiltins x) (hlim : s₁.heap.NoLimit) (hg : s₁.gens = #[])
    (tabs : ∀ t ∈ ts, s₁.heap.get? t.2 = some { cls := .none, data := .fields #[] }) (outK : ∀ t ∈ ts, K.lookup t.2 = none) (codes : ∀ t ∈ ts, PySem.W.CodeHd s₁.heap t.1 t.2)
    (bmod : ∃ (bm : Addr) (ob : Obj), mg "__builtins__" = some (.ref bm) ∧ bm ≠ builtinsNs ∧ s₁.heap.get? bm = some ob ∧ ob.cls = .type "module" ∧ ob.dict = some builtinsNs ∧ ob.data = .plain)
    (ha : s₁.heap.get? a = some { cls := .type "list", data := .seq vs.toArray }) (hi : IntsAre vs ns) (hl : ns.length ≤ sizeLine) (hr : Room k callerA)
    (F : ∀ base : Heap, K.In base → base.Ns mainGlobals mg → (∀ t ∈ ts, TabB base mg t.1 t.2) → FnG P w K mg base k fa fd [x] sp) (hbind : ∀ (s : Shared) (u : Value), BindsTo s fd ⟨[u], []⟩ [(x, u)])
    (hsp : ∀ H : Hp, (∀ t ∈ ts, H t.2 = some (.tbl #[])) → SqL K H a (ns.map V.int) → sp [.ref a] H (fun v _ => v = .bl true) fun _ _ _ => False) :
    codeAny (model P w) callerA (.call (.ref fa) ⟨[.ref a], []⟩) (fun r s' => r = .ok (.ret (.bool true)) ∧ OldK s₁.heap s'.heap ∧ s'.os = s₁.os ∧ AllBare s'.gens) s₁ := by
  have noT : ∀ t ∈ ts, t.2 ≠ a := fun t ht z => by
    have e := tabs t ht
    rw [z, ha] at e
    have e2 := congrArg Obj.data (Option.some.inj e)
    cases e2
  have from_ : ∀ H : Hp, (∀ t ∈ ts, H t.2 = some (.tbl #[])) → SqL K H a (ns.map V.int) → HOk P w H s₁.heap → (∀ b u, H b = some u → (b = a ∧ K.lookup a = none ∧ ∃ o xs, u = .frz o (.lst xs)) ∨ ∃ t ∈ ts, t.2 = b ∧ u = .tbl #[]) →
      codeAny (model P w) callerA (.call (.ref fa) ⟨[.ref a], []⟩) (fun r s' => r = .ok (.ret (.bool true)) ∧ OldK s₁.heap s'.heap ∧ s'.os = s₁.os ∧ AllBare s'.gens) s₁ := by
    intro H hT hS hok hA
    have off : ∀ {b : Addr} {o : Obj}, s₁.heap.get? b = some o → (∀ ys n, o.data ≠ .seq ys n) → o.data ≠ .fields #[] → H b = none := fun {b o} e n1 n2 => by
      cases q : H b with
      | none => rfl
      | some u =>
        rcases hA b u q with ⟨rfl, _⟩ | ⟨t, ht, rfl, _⟩
        · rw [ha] at e
          cases e
          exact absurd rfl (n1 _ _)
        · rw [tabs t ht] at e
          cases e
          exact absurd rfl n2
    have nsK : ∀ {b : Addr} {m : Str → Option Value}, s₁.heap.Ns b m → (hidT s₁.heap H).Ns b m := by
      rintro b m ⟨o, es, ep, e, d, r⟩
      exact ⟨o, es, ep, hidT_get e (off e (fun ys n z => by rw [d] at z; cases z) (fun z => by rw [d] at z; cases z)), d, r⟩
    have inK : K.In (hidT s₁.heap H) := fun b o e => hidT_get (KX b o e) (by
      cases q : H b with
      | none => rfl
      | some u =>
        rcases hA b u q with ⟨rfl, n, _⟩ | ⟨t, ht, rfl, _⟩
        · rw [n] at e
          cases e
        · rw [outK t ht] at e
          cases e)
    have hM : Mod K mg (hidT s₁.heap H) := ⟨inK, nsK hns, ⟨mb, nsK hb, hbb⟩, by obtain ⟨mc, h1, h2⟩ := hlim; exact ⟨mc, nsK h1, h2⟩⟩
    have tb : ∀ t ∈ ts, TabB (hidT s₁.heap H) mg t.1 t.2 := fun t ht => by
      refine ⟨?_, ?_, fun z => ?_⟩
      · obtain ⟨o, us, c1, c2, c3, c4, c5, c6, c7, e, r1, r2, r3, r⟩ := codes t ht
        exact ⟨o, us, c1, c2, c3, c4, c5, c6, c7, hidT_get e (off e (fun ys n z => by rw [r2] at z; cases z) (fun z => by
          rw [r2] at z
          cases z
          simp at r3)), r1, r2, r3, r⟩
      · obtain ⟨bm, ob, b1, b2, b3, b4, b5, b6⟩ := bmod
        refine ⟨bm, ob, b1, b2, fun z => ?_, fun z => ?_, hidT_get b3 (off b3 (fun ys n z => by rw [b6] at z; cases z) (fun z => by rw [b6] at z; cases z)), b4, b5, b6⟩
        · obtain ⟨o, es, ep, e, d, _⟩ := hns
          rw [← z, b3] at e
          cases e
          rw [b6] at d
          cases d
        · rw [z, tabs t ht] at b3
          cases b3
          cases b6
      · obtain ⟨o, es, ep, e, d, _⟩ := hns
        rw [z, tabs t ht] at e
        cases e
        cases d
    have nofr : ∀ b : Addr, b ∉ frs ([] : List Env) := fun b z => nomatch z
    have e0 : Env0 P w K mg (hidT s₁.heap H) callerA [] s₁ H := ⟨rfl, hM, fun b o e => of_hidT e, Nat.le_of_eq (hidT_size _ _), trivial, fun b z => absurd z (nofr b), hok, .of_eq hg⟩
    refine codeAny_mono ((F _ inK (nsK hns) tb).run callerA [] s₁ H ⟨[.ref a], []⟩ [.ref a] [.ref a] _ _ rfl hr e0 (hbind s₁ (.ref a)) (.cons rfl .nil) (hsp H hT hS)) fun r s' h => ?_
    match r, h with
    | .error e, h => exact False.elim h
    | .ok .next, h => exact False.elim h
    | .ok .brk, h => exact False.elim h
    | .ok .cont, h => exact False.elim h
    | .ok (.ret u), ⟨v, H', os, bare, un, hok', r', q⟩ =>
      cases (show v = .bl true from q)
      cases (show u = Value.bool true from r')
      have more : ∀ t ∈ ts, ∃ ps : Array Value, s'.heap.get? t.2 = some { cls := .none, data := .fields ps } := fun t ht => by
        obtain ⟨ps, z⟩ := un.tbls t.2 #[] (hT t ht)
        exact ⟨_, hok' t.2 _ z⟩
      have stays : ∀ b o, (∀ t ∈ ts, t.2 ≠ b) → s₁.heap.get? b = some o → s'.heap.get? b = some o := fun b o nt e => by
        cases q : H b with
        | none => exact un.keep b o e q (nofr b) (by simp)
        | some u =>
          rcases hA b u q with ⟨_, _, ob, xs, rfl⟩ | ⟨t, ht, z, _⟩
          · have e1 := (hok b _ q).1
            have e2 := (hok' b _ (un.frzs b ob _ q)).1
            rw [e] at e1
            cases e1
            exact e2
          · exact absurd z (nt t ht)
      refine ⟨rfl, ⟨fun b o e => ?_, fun b o e => ?_⟩, os, bare⟩
      · by_cases q : ∃ t ∈ ts, t.2 = b
        · obtain ⟨t, ht, rfl⟩ := q
          obtain ⟨ps, hp⟩ := more t ht
          rw [tabs t ht] at e
          cases e
          exact .inr (.inl ⟨((codes t ht).tab (tabs t ht)).isCodeTable, rfl, #[], ps, rfl, by rw [Array.empty_append]; exact hp⟩)
        · exact .inl (stays b o (fun t ht z => q ⟨t, ht, z⟩) e)
      · by_cases q : ∃ t ∈ ts, t.2 = b
        · obtain ⟨t, ht, rfl⟩ := q
          obtain ⟨ps, hp⟩ := more t ht
          exact ⟨_, hp⟩
        · exact ⟨o, stays b o (fun t ht z => q ⟨t, ht, z⟩) e⟩
  have rv := vals_ints hi
  have dec : ∀ b : Addr, Decidable (∃ t ∈ ts, t.2 = b) := fun b => Classical.propDecidable _
  cases hk : K.lookup a with
  | some o =>
    have e := KX a o hk
    rw [ha] at e
    cases e
    refine from_ (fun b => @ite _ (∃ t ∈ ts, t.2 = b) (dec b) (some (.tbl #[])) none) (fun t ht => if_pos ⟨t, ht, rfl⟩) (.inr ⟨_, vs.toArray, _, hk, rfl, rfl, rfl, by rw [List.size_toArray, hi.length]; exact hl, by simpa using rv⟩) (fun b u z => ?_) (fun b u z => ?_)
    · by_cases q : ∃ t ∈ ts, t.2 = b
      · have z2 := (if_pos q).symm.trans z
        cases z2
        obtain ⟨t, ht, rfl⟩ := q
        exact tabs t ht
      · have z2 := (if_neg q).symm.trans z
        cases z2
    · by_cases q : ∃ t ∈ ts, t.2 = b
      · have z2 := (if_pos q).symm.trans z
        cases z2
        obtain ⟨t, ht, e⟩ := q
        exact .inr ⟨t, ht, e, rfl⟩
      · have z2 := (if_neg q).symm.trans z
        cases z2
  | none =>
    have pick : ∀ (b : Addr) (u : HO), (if b = a then some (HO.frz { cls := .type "list", data := .seq vs.toArray } (.lst (ns.map V.int))) else @ite _ (∃ t ∈ ts, t.2 = b) (dec b) (some (.tbl #[])) none) = some u → (b = a ∧ u = HO.frz { cls := .type "list", data := .seq vs.toArray } (.lst (ns.map V.int))) ∨ ∃ t ∈ ts, t.2 = b ∧ u = .tbl #[] := fun b u z => by
      by_cases h : b = a
      · rw [if_pos h] at z
        exact .inl ⟨h, (Option.some.inj z).symm⟩
      · rw [if_neg h] at z
        by_cases q : ∃ t ∈ ts, t.2 = b
        · rw [if_pos q] at z
          obtain ⟨t, ht, e⟩ := q
          exact .inr ⟨t, ht, e, (Option.some.inj z).symm⟩
        · rw [if_neg q] at z
          cases z
    refine from_ (fun b => if b = a then some (HO.frz { cls := .type "list", data := .seq vs.toArray } (.lst (ns.map V.int))) else @ite _ (∃ t ∈ ts, t.2 = b) (dec b) (some (.tbl #[])) none) (fun t ht => ?_) (.inl (.inr ⟨{ cls := .type "list", data := .seq vs.toArray }, if_pos rfl⟩)) (fun b u z => ?_) (fun b u z => ?_)
    · show (if t.2 = a then _ else _) = _
      rw [if_neg (noT t ht)]
      exact if_pos ⟨t, ht, rfl⟩
    · rcases pick b u z with ⟨rfl, rfl⟩ | ⟨t, ht, rfl, rfl⟩
      · exact ⟨ha, by rw [List.length_map]; exact hl, vs, _, rv, ha⟩
      · exact tabs t ht
    · rcases pick b u z with ⟨rfl, rfl⟩ | ⟨t, ht, e, rfl⟩
      · exact .inl ⟨rfl, hk, _, _, rfl⟩
      · exact .inr ⟨t, ht, e, rfl⟩
/-- a law: F gives the written part, the function object, the tables, the promise over every base -/
theorem walkTG {l : PySem.W.OpenLaw} {n k : Nat} {q : Program} {loose : List Str} {XP : (Str → Option Value) → Heap → Prop} {YP : World → Heap → Prop} {d : DefRec} {x : Str} (hn : l.most = some n) (hn2 : n ≤ sizeLine) (hdf : d.params.defaults = []) (hr : Room k callerA)
    (F : ∀ (w : World) (mg : Str → Option Value) (fa : Addr) (h : Heap), YP w h → h.Ns mainGlobals mg → mg d.name = some (.ref fa) →
      ∃ K : PySem.W.Frag, K.In h ∧ ∃ (fd : FuncData) (ts : List (Addr × Addr)) (sp : Sp), (∀ t ∈ ts, h.get? t.2 = some { cls := .none, data := .fields #[] }) ∧ (∀ t ∈ ts, K.lookup t.2 = none) ∧ (∀ t ∈ ts, PySem.W.CodeHd h t.1 t.2) ∧ (∀ (s : Shared) (u : Value), BindsTo s fd ⟨[u], []⟩ [(x, u)]) ∧
        (∀ (H : Hp) (a : Addr) (ns : List Int), ns.length ≤ n → (∀ t ∈ ts, H t.2 = some (.tbl #[])) → SqL K H a (ns.map V.int) → sp [.ref a] H (fun v _ => v = .bl true) fun _ _ _ => False) ∧
        ∀ base : Heap, K.In base → base.Ns mainGlobals mg → (∀ t ∈ ts, TabB base mg t.1 t.2) → FnG l.prog w K mg base k fa fd [x] sp) : PySem.W.WalkO q loose XP YP l.row.toRowW d [] (fun f vs => PySem.call f vs) := by
  refine Att.attach_call hn hdf fun w s₀ s₁ mg mb fa o pm cd doc a vs ns G Y ho hd hcd hmg hobj hints hlen hg => ?_
  obtain ⟨K, KX, fd, ts, sp, tabs, outK, codes, hb, hsp, hF⟩ := F w mg fa _ Y G.T.g hmg
  exact lawTG KX G.T.g G.T.b G.T.builtins G.T.nolimit hg tabs outK codes G.T.bmain hobj hints (Nat.le_trans hlen hn2) hr hF hb fun H hT hS => hsp H a ns hlen hT hS
end GL
set_option Elab.async false
set_option linter.all false
set_option maxRecDepth 100000
set_option maxHeartbeats 4000000
/-! OKT: a def that makes a lambda and asks repr (its code is known, no repr is under way); calls that may raise, by keywords; nothing comes. -/
namespace GL
open PySem PySem.Spec PyProof.Rows L2
/-- the def's code is known, nothing is being shown -/
theorem okGT {P : Program} {w : World} {K : PySem.W.Frag} {mg : Str → Option Value} {base : Heap} {x qual : Str} {params : Arguments} {body : List Stmt} {scope : Scope} {dvs : List V} {kws : List (Str × V)} {p : He.Defn} {fd : FuncData}
    {N ps : List Str} {k : Nat} {sp : Sp} (F : FunD K x qual params body scope dvs kws (He.fAd K p) fd) (S : FnScope N ps scope) (len : ∀ vs H Q E, sp vs H Q E → vs.length = ps.length)
    (hbody : ∀ (A : Around) (outer : List Env) (s : Shared) (H : Hp) (vs : List V) (Q : VK) (E : XK), A.guards = some [] → Room k (A.deeper (envOfC qual scope s.heap.objs.size (He.fAd K p) (.ref (He.cT K p).1))) → sp vs H Q E →
      ∃ t, PSs (cxOf CX0 P w K mg base N qual scope (He.fAd K p) (.ref (He.cT K p).1) A outer s H E) body t ∧ t { nx := fun _ H' => Q .non H', rt := Q } (start N vs) H) : GL.FnG P w K mg base (k + 1) (He.fAd K p) fd ps sp := by
  obtain ⟨oc, od, dV, kV, doc, pm, an, cdv, ct, osl, hfd, lk, hcd, _, _⟩ := F.ex
  obtain ⟨c, rfl⟩ := He.codeIn_ref hcd
  subst hfd
  have e : (He.cT K p).1 = c := He.codeOf_eq lk rfl
  rw [e] at hbody
  refine ⟨len, fun A outer s H args us vs Q E hg hr e0 hb r hsp => ?_⟩
  obtain ⟨t, ht, hq⟩ := hbody A outer s H vs Q E hg (hr.deeper _) hsp
  have keep : ∀ b o, base.get? b = some o → s.heap.get? b = some o := fun b o e => (e0.bs b o e).1
  have KX : K.In s.heap := e0.mod.kin.keeps keep
  refine codeAny_call_function hr.depth (KX _ _ lk) rfl S.co S.gen rfl (PySem.W.codeRec_of KX hcd) (hb _ _ _ _ (wpAny_newFunctionEnv_cells S.kind (fun y hy => ?_) fun env he s1 x => ?_))
  · exact (S.par y.1 (List.of_mem_zip hy).1).imp id fun q => ⟨q, PySem.W.cellsFrom_some _ _ _ (.inl q)⟩
  · subst he
    refine ⟨(e0.mod.nolimit.keeps keep).keeps x.toInCall.keep, codeAny_func (wpAny_mono (ht.run [] s1 (start N vs) H _ (inv_start S hr.hd e0 (len _ _ _ _ hsp) r x) hq) (fun fl s' hs => ?_) fun e s' hs => hs)⟩
    match fl, hs with
    | .ret u, ⟨v, σ', H', J, rv, q⟩ => exact ⟨v, H', J.os, J.bare, J.base, J.hok, rv, q⟩
    | .next, ⟨σ', H', J, q⟩ => exact ⟨.non, H', J.os, J.bare, J.base, J.hok, rfl, q⟩
    | .brk, ⟨_, _, _, q⟩ => exact q.elim
    | .cont, ⟨_, _, _, q⟩ => exact q.elim
/-- nothing comes -/
theorem passN {X : Cx} : Passes (L2.CX X.prog X.w) X C8.E0 := fun _ _ _ _ _ _ _ h => by
  obtain ⟨_, _, _, _, _, _, _, _, _, _, _, _, h⟩ := h
  exact False.elim h
section
variable {X : Cx} {CX : CXT} {E : XK} {k j : Nat} {C f : Addr} {fd : FuncData} {ps ks : List Str} {sp : Sp} {x m : Str} {p pos apos : Pos} {o : Expr} {kws : List Keyword} {ta : TE} {tk : TA} {g : List Value → List Value → List Value} {gV : List V → List V → List V}
/-- f(k = v, ..) that may raise -/
theorem pe_cKX (F : FnOk X.prog X.w X.K X.mg X.base CX k f fd ps sp) (hr : Room k X.A) (hg : Gl X x) (hm : X.mg x = some (.ref f)) (hk : PySem.W.keepIn X.K (.ref f) = true) (hb : KBn X.K fd ps 0 ks g gV) (hx : Passes CX X E) (hkw : PK X kws tk)
    (hall : (backToKw pos (keywordEach kws X.env)).all (·.1.isSome) = true := by rfl) (hks : (backToKw pos (keywordEach kws X.env)).filterMap (·.1) = ks := by rfl) (hdb : (x == ("__debug__" : Str)) = false := by decide)
    (hpl : ((backTo pos (starEach [] X.env)).any (·.1) || (backToKw pos (keywordEach kws X.env)).any (·.1.isNone)) = false := by rfl) :
    PE X (.Call (.Name x p) [] kws pos) (fun σ H Q => tk σ H fun zs H1 => zs.length = ks.length ∧ sp (gV [] zs) H1 Q E) := by
  refine ⟨fun pins s σ H Q I h => wpAny_Call_Name_kw (ld_glob I hg hm (PySem.W.callWith_KW0 (h₀ := X.base) I.ok.mod.kin hk hall ?_ hpl) hdb)⟩
  refine thn (hkw.run pos pins s σ H _ I h) fun ws s2 ⟨zs, H2, I2, rz, l2, q2⟩ => ⟨I2.kIn, ?_⟩
  rw [hks]
  exact run_fnN (us := []) (vs := []) F hr hb hx I2 .nil rz rfl l2 q2
end
end GL
set_option Elab.async false
set_option linter.all false
set_option maxRecDepth 100000
set_option maxHeartbeats 4000000
/-! KB: what a call by keywords binds, for a def without keyword-only parameters. -/
namespace KW
open PySem PySem.Spec PyProof.Rows L2
section
variable {K : PySem.W.Frag} {x qual : Str} {params : Arguments} {body : List Stmt} {scope : Scope} {dvs : List V} {kws : List (Str × V)} {f : Addr} {fd : FuncData} {ps : List Str}
theorem kb1 (F : FunD K x qual params body scope dvs kws f fd) (n : Nat) (ks : List Str) (g : {α : Type} → List α → List α → List α → List α) (hd : dvs ≠ [])
    (hrel : ∀ {vs ds zs : List V} {us its ws : List Value}, Vals vs us → Vals ds its → Vals zs ws → Vals (g vs ds zs) (g us its ws))
    (h : ∀ (T : Addr) (kV doc pm : Value) (an : Option Addr) (cdv ct : Value) (us its ws : List Value), us.length = n → its.length = dvs.length → ws.length = ks.length →
      ∃ k, bindArgs (PySem.W.fnOf x qual params body scope (.ref T) kV doc pm an cdv ct) ⟨us, ks.zip ws⟩ = seqItems? (.ref T) >>= k ∧ k (some its.toArray) = pure (ps.zip (g us its ws))) :
    ∃ its : List Value, KBn K fd ps n ks (fun us ws => g us its ws) (fun vs zs => g vs dvs zs) := by
  obtain ⟨oc, od, dV, kV, doc, pm, an, cdv, ct, osl, rfl, lk, hcd, hD, hK⟩ := F.ex
  rcases hD with ⟨e, _⟩ | ⟨_, T, o, its, m, rfl, lT, oT, rT⟩
  · exact absurd e hd
  · refine ⟨its, ⟨fun s us ws X l1 l2 => ?_, fun r1 r2 => hrel r1 rT r2⟩⟩
    obtain ⟨k, e1, e2⟩ := h T kV doc pm an cdv ct us its ws l1 rT.length.symm l2
    refine BindsTo.of_looks fun M => ?_
    rw [e1]
    exact looks_items X lT oT (.of_pure e2)
theorem kb0 (F : FunD K x qual params body scope [] kws f fd) (n : Nat) (ks : List Str) (g : {α : Type} → List α → List α → List α)
    (hrel : ∀ {vs zs : List V} {us ws : List Value}, Vals vs us → Vals zs ws → Vals (g vs zs) (g us ws))
    (h : ∀ (kV doc pm : Value) (an : Option Addr) (cdv ct : Value) (us ws : List Value), us.length = n → ws.length = ks.length →
      bindArgs (PySem.W.fnOf x qual params body scope .none kV doc pm an cdv ct) ⟨us, ks.zip ws⟩ = pure (ps.zip (g us ws))) :
    KBn K fd ps n ks (fun us ws => g us ws) (fun vs zs => g vs zs) := by
  obtain ⟨oc, od, dV, kV, doc, pm, an, cdv, ct, osl, rfl, lk, hcd, hD, hK⟩ := F.ex
  rcases hD with ⟨_, rfl⟩ | ⟨e, _⟩
  · exact ⟨fun s us ws X l1 l2 => .of_eq (h kV doc pm an cdv ct us ws l1 l2), fun r1 r2 => hrel r1 r2⟩
  · exact absurd rfl e
end
end KW
set_option Elab.async false
set_option linter.all false
/-! VR: values related, turned about. -/
namespace KW
open PySem PySem.Spec PyProof.Rows L2
theorem vals_rev {vs : List V} {us : List Value} (h : Vals vs us) : Vals vs.reverse us.reverse := by
  induction h with
  | nil => exact .nil
  | cons r t ih =>
    rw [List.reverse_cons, List.reverse_cons]
    exact ih.append (.cons r .nil)
end KW
set_option Elab.async false
set_option linter.all false
set_option maxRecDepth 100000
set_option maxHeartbeats 4000000
/-! TXL: how long the texts of containers are; lists and tuples of texts, shown. -/
namespace TXL
open PySem PySem.Spec PyProof.Rows L2
open SX (S)
open RPO
open THI (SN)
theorem rt_len {z : List Nat} (h : NM.ok z) : (reprText (S z)).length ≤ 133 := by
  have ok : PyData.strOk (S z) = true := by
    unfold PyData.strOk
    rw [← Array.all_toList, List.all_eq_true]
    intro c hc
    have := h.2.2 c hc
    exact decide_eq_true (by omega)
  have hc : (S z).cps.toList.all (fun c => decide (c < 16 ^ 8)) = true := by
    rw [List.all_eq_true]
    intro c hc
    have := h.2.2 c hc
    exact decide_eq_true (by omega)
  have h1 := PyData.shown_le 13 (by decide) (.str (S z)) (by simp only [PyData.leavesShort]; exact hc)
  have e : (PyData.str (S z)).shown = reprText (S z) := by simp only [PyData.shown]
  have w1 : (PyData.str (S z)).weight = z.length := by simp only [PyData.weight]; rfl
  have := h.2.1
  rw [e] at h1
  omega
theorem piled_le {ts : List Str} {n : Nat} (h : ∀ t ∈ ts, t.length ≤ n) : piled ts ≤ (n + 2) * ts.length := by
  induction ts with
  | nil => exact Nat.zero_le _
  | cons t ts ih =>
    rw [piled_cons, List.length_cons, Nat.mul_add]
    have := h t List.mem_cons_self
    have := ih fun x hx => h x (List.mem_cons_of_mem _ hx)
    omega
theorem join_le (ts : List Str) : (Str.join ", " ts).length ≤ piled ts := by
  by_cases h : ts = []
  · subst h
    decide
  · have := join_length_add ts h
    omega
theorem tt_le (ts : List Str) : (tupleText ts).length ≤ piled ts + 3 := by
  unfold tupleText
  rw [PySem.strLen_append, PySem.strLen_append]
  have e1 : ((("(" : String) : Str)).length = 1 := rfl
  have e3 : (((if ts.length == 1 then ",)" else ")" : String) : Str)).length ≤ 2 := by split <;> decide
  rw [e1]
  have := join_le ts
  omega
theorem lt_le (ts : List Str) : (listText ts).length ≤ piled ts + 2 := by
  unfold listText
  rw [PySem.strLen_append]
  have e2 : ((("]" : String) : Str)).length = 1 := rfl
  have e1 : ((("[" : String) : Str)).length = 1 := rfl
  have h := textFrom_len_le ts 0 "["
  have hp : piled ts = (ts.map (·.length)).sum + 2 * ts.length := by
    clear h
    induction ts with
    | nil => rfl
    | cons t ts ih => rw [piled_cons, ih, List.map_cons, List.sum_cons, List.length_cons]; omega
  rw [e1] at h
  rw [e2]
  omega
/-- a list's text -/
def ltx (ts : List Str) : Str := if ts = [] then "[]" else listText ts
theorem ltx_le (ts : List Str) : (ltx ts).length ≤ piled ts + 2 := by
  unfold ltx
  split
  · exact Nat.le_trans (by decide : (("[]" : String) : Str).length ≤ 2) (Nat.le_add_left _ _)
  · exact lt_le ts
theorem tt_n {ts : List Str} {n m : Nat} (h : ∀ t ∈ ts, t.length ≤ n) (l : ts.length ≤ m) : (tupleText ts).length ≤ (n + 2) * m + 3 := by
  have h1 := tt_le ts
  have h2 := piled_le h
  have h3 : (n + 2) * ts.length ≤ (n + 2) * m := Nat.mul_le_mul_left _ l
  omega
theorem ltx_n {ts : List Str} {n m : Nat} (h : ∀ t ∈ ts, t.length ≤ n) (l : ts.length ≤ m) : (ltx ts).length ≤ (n + 2) * m + 2 := by
  have h1 := ltx_le ts
  have h2 := piled_le h
  have h3 : (n + 2) * ts.length ≤ (n + 2) * m := Nat.mul_le_mul_left _ l
  omega
section
variable {X : Cx} {n : Nat}
theorem rp_all {α : Type} {outs : List Addr} {H : Hp} {g : α → V} {t : α → Str} : ∀ {l : List α}, (∀ x ∈ l, RpU X n outs H (g x) (t x)) → RpAll X n outs H (l.map g) (l.map t)
  | [], _ => .nil
  | x :: l, h => .cons (h x List.mem_cons_self) (rp_all fun y hy => h y (List.mem_cons_of_mem _ hy))
theorem rp_strs {outs : List Addr} {H : Hp} (F : List Str) : RpAll X n outs H (F.map V.str) (F.map reprText) := rp_all fun _ _ => .str
theorem rp_list {outs : List Addr} {H : Hp} {a : Addr} {xs : List V} {ts : List Str} (ha : H a = some (.lst xs)) (na : a ∉ outs) (h : RpAll X n (a :: outs) H xs ts) : RpU X (n + 1) outs H (.ref a) (ltx ts) := by
  unfold ltx
  have ln := h.len
  by_cases e : ts = []
  · rw [if_pos e]
    rw [e] at ln
    have : xs = [] := List.length_eq_zero_iff.mp ln.symm
    rw [this] at ha
    exact RpU.list0 ha na
  · rw [if_neg e]
    exact RpU.list ha na (fun z => e (by rw [z] at ln; exact List.length_eq_zero_iff.mp ln)) h
end
end TXL
set_option Elab.async false
set_option linter.all false
set_option maxRecDepth 100000
set_option maxHeartbeats 4000000
namespace K16
open PySem PySem.Spec PyProof.Rows L2
open C8 (Cal Mak Met pe_c pe_mk pe_mt pe_mt0)
open LamX (Tabs ExtN TabB)
open THI (SN)
open RPO TXL
open EXV (Xc)
open EXW (Dct)
open KW1 (dscI)
/-- the table of the lambdas -/
def T0 (K : PySem.W.Frag) : List (Addr × Str) := [((He.cT K ("_law_right", none)).2, (envOfC d_l_right.qual d_l_right.scope 0 0 .none).qual ++ "<lambda>"), ((He.cT K ("law", none)).2, (envOfC d_law.qual d_law.scope 0 0 .none).qual ++ "<lambda>")]
theorem tabs_kp {T : List (Addr × Str)} {h : Addr} {H H' : Hp} {c : Nat} (t : Tabs T H) (k : Kp h H H') (x : Pen H h c) : Tabs T H' := by
  obtain ⟨l, ns, n, m, h1, _⟩ := x
  intro p hp
  obtain ⟨q, hq, tq, cq⟩ := t p hp
  refine ⟨q, k.1 _ _ hq (fun z => by rw [z, h1] at hq; cases hq), tq, fun pos cv e => ?_⟩
  obtain ⟨c0, e1, e2⟩ := cq pos cv e
  exact ⟨c0, e1, k.1 _ _ e2 (fun z => by rw [z, h1] at e2; cases e2)⟩
theorem snE {A B : Hp} (e : ExtN A B) : SN A B := fun b o h n => e b o h n
theorem nm_len {x : Str} (h : Nm x) : (reprText x).length ≤ 133 := by
  obtain ⟨z, hz, rfl⟩ := h
  exact rt_len hz
theorem small {i : Int} (h0 : -1000 ≤ i) (h1 : i ≤ 1000) : i.natAbs.log2 < 1920 := by
  by_cases e : i.natAbs = 0
  · rw [e]
    decide
  · have : i.natAbs.log2 < 10 := (Nat.log2_lt e).mpr (by omega)
    omega
theorem sm_len : ∀ n : Fin 2001, ((toString ((n.val : Int) - 1000) : String) : Str).length ≤ 100 := by decide +kernel
theorem small_len {i : Int} (h0 : -1000 ≤ i) (h1 : i ≤ 1000) : ((toString i : String) : Str).length ≤ 100 := by
  have := sm_len ⟨(i + 1000).toNat, by omega⟩
  have e : (((i + 1000).toNat : Nat) : Int) - 1000 = i := by omega
  rw [show ((⟨(i + 1000).toNat, by omega⟩ : Fin 2001).val : Int) - 1000 = i from e] at this
  exact this
theorem sts_nn {F L : List Str} {g : Str → Int} (k : Fk F L g) : ∀ x ∈ sts F L g, 0 ≤ x := fun x hx => by
  obtain ⟨y, _, rfl⟩ := List.mem_map.mp hx
  exact (k.rm0 y).1
theorem lac_le {F L : List Str} {g : Str → Int} (k : Fk F L g) : 0 ≤ lac F L g ∧ lac F L g ≤ 12 := by
  have h1 := k.fl
  have h2 := sum_nn (sts_nn k)
  unfold lac
  split <;> omega
/-- what is kept, shown -/
noncomputable def txP (g : Str → Int) (x : Str) : Str := tupleText [reprText x, (toString (g x) : String)]
noncomputable def txK (F L : List Str) (g : Str → Int) : List Str := [ltx (F.map reprText), ltx ((SRI.srtI L g).map (txP g))]
theorem txK_len {F L : List Str} {g : Str → Int} (k : Fk F L g) : (tupleText (txK F L g)).length ≤ sizeLine := by
  refine Nat.le_trans (tt_n (n := 10000) (m := 2) (fun t ht => ?_) (Nat.le_refl _)) (by decide : (10000 + 2) * 2 + 3 ≤ sizeLine)
  have pL := SRI.srtI_perm L g
  unfold txK at ht
  simp only [List.mem_cons, List.not_mem_nil, or_false] at ht
  rcases ht with rfl | rfl
  · have := ltx_n (ts := F.map reprText) (n := 133) (m := 12) (fun t ht => by
      obtain ⟨y, hy, rfl⟩ := List.mem_map.mp ht
      exact nm_len (k.fn y hy)) (by rw [List.length_map]; exact k.fl)
    omega
  · have := ltx_n (ts := (SRI.srtI L g).map (txP g)) (n := 300) (m := 20) (fun t ht => by
      obtain ⟨y, hy, rfl⟩ := List.mem_map.mp ht
      have hy := pL.subset hy
      have h1 := nm_len (k.ln y hy)
      have h2 := k.gv y hy
      have h3 := small_len (i := g y) (by omega) (by omega)
      have := tt_n (ts := [reprText y, (toString (g y) : String)]) (n := 133) (m := 2) (fun t ht => by
        simp only [List.mem_cons, List.not_mem_nil, or_false] at ht
        rcases ht with rfl | rfl <;> omega) (Nat.le_refl _)
      unfold txP
      omega) (by rw [List.length_map, pL.length_eq]; exact k.ll)
    omega
/-- what repr asks of what is kept -/
theorem kept_rp {X : Cx} {F L : List Str} {g : Str → Int} {a l t : Addr} {ts : List Addr} {H0 H1 : Hp} (k : Fk F L g) (ha : H0 a = some (.lst (F.map V.str))) (hl : H0 l = some (.lst (ts.map V.ref)))
    (hp : Paired (fun (t : Addr) (x : Str) => H0 t = some (.tup [.str x, .int (g x)])) ts (SRI.srtI L g)) (ft : H0 t = none) (s : SN H0 H1) : RpAll X 4 [t] H1 [.ref a, .ref l] (txK F L g) := by
  have new : ∀ {b u}, H0 b = some u → b ∉ [t] := fun {b u} e z => by rw [List.mem_singleton.mp z, ft] at e; cases e
  have pL := SRI.srtI_perm L g
  refine .cons (rp_list (s.lst ha) (new ha) (rp_strs F)) (.cons (rp_list (s.lst hl) (new hl) ?_) .nil)
  have go : ∀ {ts : List Addr} {xs : List Str}, Paired (fun (t : Addr) (x : Str) => H0 t = some (.tup [.str x, .int (g x)])) ts xs → (∀ x ∈ xs, x ∈ L) → RpAll X 3 (l :: [t]) H1 (ts.map V.ref) (xs.map (txP g)) := by
    intro ts xs hp
    induction hp with
    | nil => exact fun _ => .nil
    | @cons p x ts xs hc _ ih =>
      intro hx
      have h2 := k.gv x (hx x List.mem_cons_self)
      have n1 : p ∉ l :: [t] := fun z => by
        rcases List.mem_cons.mp z with e | z
        · rw [e, hl] at hc
          cases hc
        · exact new hc z
      exact .cons (RpU.tup (s.tup hc) n1 (.cons .str (.cons (.int (small (by omega) (by omega))) .nil))) (ih fun y hy => hx y (List.mem_cons_of_mem _ hy))
  exact go hp fun x hx => pL.subset hx
/-- an answer, shown -/
noncomputable def vA (F L : List Str) (g : Str → Int) : List V := if lac F L g ≤ 0 then [.str "told", .int ((cnt (F.length : Int) (dscI (sts F L g)) : Nat) : Int)] else [.str "seats", .int (lac F L g)]
noncomputable def txA (F L : List Str) (g : Str → Int) : List Str := if lac F L g ≤ 0 then [reprText "told", (toString ((cnt (F.length : Int) (dscI (sts F L g)) : Nat) : Int) : String)] else [reprText "seats", (toString (lac F L g) : String)]
theorem cnt12 {F L : List Str} {g : Str → Int} (k : Fk F L g) : cnt (F.length : Int) (dscI (sts F L g)) ≤ 12 := by
  have h1 := cnt_le (dscI (sts F L g)) (F.length : Int)
  have h2 := (dsc_perm (sts F L g)).length_eq
  have h3 : (sts F L g).length = F.length := by unfold sts; rw [List.length_map]
  have := k.fl
  omega
theorem txA_len {F L : List Str} {g : Str → Int} (k : Fk F L g) : (tupleText (txA F L g)).length ≤ sizeLine := by
  have h1 := cnt12 k
  have h2 := lac_le k
  refine Nat.le_trans (tt_n (n := 100) (m := 2) (fun t ht => ?_) ?_) (by decide : (100 + 2) * 2 + 3 ≤ sizeLine)
  · unfold txA at ht
    split at ht
    · simp only [List.mem_cons, List.not_mem_nil, or_false] at ht
      rcases ht with rfl | rfl
      · exact Nat.le_trans (by decide +kernel : (reprText "told").length ≤ 100) (by decide)
      · exact small_len (by omega) (by omega)
    · simp only [List.mem_cons, List.not_mem_nil, or_false] at ht
      rcases ht with rfl | rfl
      · exact Nat.le_trans (by decide +kernel : (reprText "seats").length ≤ 100) (by decide)
      · exact small_len (by omega) (by omega)
  · unfold txA
    split <;> exact Nat.le_refl _
theorem ans_rp {X : Cx} {F L : List Str} {g : Str → Int} {t : Addr} {H : Hp} (k : Fk F L g) : RpAll X 4 [t] H (vA F L g) (txA F L g) := by
  have h1 := cnt12 k
  have h2 := lac_le k
  unfold vA txA
  split
  · exact .cons .str (.cons (.int (small (by omega) (by omega))) .nil)
  · exact .cons .str (.cons (.int (small (by omega) (by omega))) .nil)
end K16
set_option Elab.async false
set_option linter.all false
set_option maxRecDepth 100000
set_option maxHeartbeats 4000000
namespace K16
open PySem PySem.Spec PyProof.Rows L2
open C8 (Cal Mak Met pe_c pe_mk pe_mt pe_mt0)
open LamX (Tabs ExtN TabB)
open THI (SN)
open RPO TXL
open EXV (Xc)
open EXW (Dct)
open KW1 (dscI)
open KM (pr Sz)
theorem pd_mono {α β : Type} {F G : α → β → Prop} : ∀ {as : List α} {bs : List β}, Paired F as bs → (∀ x y, F x y → G x y) → Paired G as bs
  | _, _, .nil, _ => .nil
  | _, _, .cons h t, f => .cons (f _ _ h) (pd_mono t f)
theorem oneR {K : PySem.W.Frag} (d : (He.cT K ("law", none)).2 ≠ (He.cT K ("_law_right", none)).2) : ∀ p ∈ T0 K, p.1 = (He.cT K ("_law_right", none)).2 → p.2 = (envOfC d_l_right.qual d_l_right.scope 0 0 .none).qual ++ "<lambda>" := fun p hp e => by
  rcases List.mem_cons.mp hp with q | q
  · rw [q]
  · rw [List.mem_singleton.mp q] at e
    exact absurd e d
/-- the row by what they are worth -/
noncomputable def zr (F : List Str) (ρ : Str → Rat) : List Str := open Classical in if h : ∃ Z : List Str, Z.Perm F ∧ Z.Pairwise (IO.le ρ) then h.choose else []
theorem zr_eq {F Z : List Str} {ρ : Str → Rat} (pm : Z.Perm F) (pw : Z.Pairwise (IO.le ρ)) : zr F ρ = Z := by
  unfold zr
  have h : ∃ Z : List Str, Z.Perm F ∧ Z.Pairwise (IO.le ρ) := ⟨Z, pm, pw⟩
  rw [dif_pos h]
  exact le_same h.choose_spec.2 pw (h.choose_spec.1.trans pm.symm)
/-- the answer that stands at t -/
def Ans (H : Hp) (t : Addr) (F L : List Str) (g : Str → Int) (ρ : Str → Rat) : Prop :=
  (lac F L g ≤ 0 ∧ ∃ o, H t = some (.tup [.str "told", .ref o]) ∧ H o = some (.lst ((cho F L g (zr F ρ)).map V.str))) ∨ (0 < lac F L g ∧ H t = some (.tup [.str "seats", .int (lac F L g)]))
theorem Ans.sn {H H' : Hp} {t : Addr} {F L : List Str} {g : Str → Int} {ρ : Str → Rat} (h : Ans H t F L g ρ) (s : SN H H') : Ans H' t F L g ρ := by
  rcases h with ⟨a, o, b, c⟩ | ⟨a, b⟩
  · exact .inl ⟨a, o, s.tup b, s.lst c⟩
  · exact .inr ⟨a, s.tup b⟩
noncomputable def tA (F L : List Str) (g : Str → Int) (ρ : Str → Rat) : List Str := if lac F L g ≤ 0 then [reprText "told", ltx ((cho F L g (zr F ρ)).map reprText)] else [reprText "seats", (toString (lac F L g) : String)]
theorem cho_in {F L : List Str} {g : Str → Int} {ρ : Str → Rat} : (cho F L g (zr F ρ)).length ≤ F.length ∧ ∀ x ∈ cho F L g (zr F ρ), x ∈ F := by
  have pz : (zr F ρ).length ≤ F.length ∧ ∀ x ∈ zr F ρ, x ∈ F := by
    unfold zr
    split
    · rename_i h
      exact ⟨Nat.le_of_eq h.choose_spec.1.length_eq, fun x hx => h.choose_spec.1.subset hx⟩
    · exact ⟨Nat.zero_le _, fun x hx => nomatch hx⟩
  have ps := (sortS_at (gr (rm L g) (zr F ρ) (cnt (F.length : Int) (dscI (sts F L g))) (F.length : Int))).2.1
  have sb := (gr_sub (s := rm L g) (zr F ρ) (cnt (F.length : Int) (dscI (sts F L g))) (F.length : Int)).1
  unfold cho
  refine ⟨by rw [ps.length_eq]; exact Nat.le_trans sb.length_le pz.1, fun x hx => pz.2 x (sb.subset (ps.subset hx))⟩
theorem tA_len {F L : List Str} {g : Str → Int} {ρ : Str → Rat} (k : Fk F L g) : (tupleText (tA F L g ρ)).length ≤ sizeLine := by
  have h2 := lac_le k
  obtain ⟨c1, c2⟩ := cho_in (F := F) (L := L) (g := g) (ρ := ρ)
  have fl := k.fl
  refine Nat.le_trans (tt_n (n := 2000) (m := 2) (fun t ht => ?_) ?_) (by decide : (2000 + 2) * 2 + 3 ≤ sizeLine)
  · unfold tA at ht
    split at ht
    · simp only [List.mem_cons, List.not_mem_nil, or_false] at ht
      rcases ht with rfl | rfl
      · exact Nat.le_trans (by decide +kernel : (reprText "told").length ≤ 100) (by decide)
      · have := ltx_n (ts := (cho F L g (zr F ρ)).map reprText) (n := 133) (m := 12) (fun t ht => by
          obtain ⟨y, hy, rfl⟩ := List.mem_map.mp ht
          exact nm_len (k.fn y (c2 y hy))) (by rw [List.length_map]; omega)
        omega
    · simp only [List.mem_cons, List.not_mem_nil, or_false] at ht
      rcases ht with rfl | rfl
      · exact Nat.le_trans (by decide +kernel : (reprText "seats").length ≤ 100) (by decide)
      · exact Nat.le_trans (small_len (by omega) (by omega)) (by decide)
  · unfold tA
    split <;> exact Nat.le_refl _
theorem ans_rp16 {X : Cx} {F L : List Str} {g : Str → Int} {ρ : Str → Rat} {t : Addr} {H : Hp} (k : Fk F L g) (h : Ans H t F L g ρ) : ∃ vs, H t = some (.tup vs) ∧ RpAll X 5 [t] H vs (tA F L g ρ) := by
  have h2 := lac_le k
  rcases h with ⟨lc, o, e1, e2⟩ | ⟨lc, e1⟩
  · refine ⟨_, e1, ?_⟩
    unfold tA
    rw [if_pos lc]
    refine .cons .str (.cons (rp_list e2 (fun z => ?_) (rp_strs _)) .nil)
    rw [List.mem_singleton.mp z, e1] at e2
    cases e2
  · refine ⟨_, e1, ?_⟩
    unfold tA
    rw [if_neg (by omega)]
    exact .cons .str (.cons (.int (small (by omega) (by omega))) .nil)
noncomputable def tK (F L : List Str) (g : Str → Int) (ys : List Str) : List Str := [ltx (F.map reprText), ltx ((SRI.srtI L g).map (txP g)), ltx (ys.map reprText)]
theorem tK_len {F L ys : List Str} {g : Str → Int} (k : Fk F L g) (hy : ∀ x ∈ ys, Nm x) (ly : ys.length ≤ 20) : (tupleText (tK F L g ys)).length ≤ sizeLine := by
  refine Nat.le_trans (tt_n (n := 10000) (m := 3) (fun t ht => ?_) (Nat.le_refl _)) (by decide : (10000 + 2) * 3 + 3 ≤ sizeLine)
  have pL := SRI.srtI_perm L g
  unfold tK at ht
  simp only [List.mem_cons, List.not_mem_nil, or_false] at ht
  rcases ht with rfl | rfl | rfl
  · have := ltx_n (ts := F.map reprText) (n := 133) (m := 12) (fun t ht => by
      obtain ⟨y, hy, rfl⟩ := List.mem_map.mp ht
      exact nm_len (k.fn y hy)) (by rw [List.length_map]; exact k.fl)
    omega
  · have := ltx_n (ts := (SRI.srtI L g).map (txP g)) (n := 300) (m := 20) (fun t ht => by
      obtain ⟨y, hy, rfl⟩ := List.mem_map.mp ht
      have hy := pL.subset hy
      have h1 := nm_len (k.ln y hy)
      have h2 := k.gv y hy
      have h3 := small_len (i := g y) (by omega) (by omega)
      have := tt_n (ts := [reprText y, (toString (g y) : String)]) (n := 133) (m := 2) (fun t ht => by
        simp only [List.mem_cons, List.not_mem_nil, or_false] at ht
        rcases ht with rfl | rfl <;> omega) (Nat.le_refl _)
      unfold txP
      omega) (by rw [List.length_map, pL.length_eq]; exact k.ll)
    omega
  · have := ltx_n (ts := ys.map reprText) (n := 133) (m := 20) (fun t ht => by
      obtain ⟨y, h, rfl⟩ := List.mem_map.mp ht
      exact nm_len (hy y h)) (by rw [List.length_map]; exact ly)
    omega
/-- what repr asks of what is kept -/
theorem kept16 {X : Cx} {F L ys : List Str} {g : Str → Int} {a l yl t : Addr} {ts : List Addr} {H0 H1 : Hp} (k : Fk F L g) (ha : H0 a = some (.lst (F.map V.str))) (hl : H0 l = some (.lst (ts.map V.ref))) (hyl : H0 yl = some (.lst (ys.map V.str)))
    (hp : Paired (fun (t : Addr) (x : Str) => H0 t = some (.tup [.str x, .int (g x)])) ts (SRI.srtI L g)) (ft : H0 t = none) (s : SN H0 H1) : RpAll X 5 [t] H1 [.ref a, .ref l, .ref yl] (tK F L g ys) := by
  have new : ∀ {b u}, H0 b = some u → b ∉ [t] := fun {b u} e z => by rw [List.mem_singleton.mp z, ft] at e; cases e
  have pL := SRI.srtI_perm L g
  refine .cons (rp_list (s.lst ha) (new ha) (rp_strs F)) (.cons (rp_list (s.lst hl) (new hl) ?_) (.cons (rp_list (s.lst hyl) (new hyl) (rp_strs ys)) .nil))
  have go : ∀ {ts : List Addr} {xs : List Str}, Paired (fun (t : Addr) (x : Str) => H0 t = some (.tup [.str x, .int (g x)])) ts xs → (∀ x ∈ xs, x ∈ L) → RpAll X 4 (l :: [t]) H1 (ts.map V.ref) (xs.map (txP g)) := by
    intro ts xs hp
    induction hp with
    | nil => exact fun _ => .nil
    | @cons p x ts xs hc _ ih =>
      intro hx
      have h2 := k.gv x (hx x List.mem_cons_self)
      have n1 : p ∉ l :: [t] := fun z => by
        rcases List.mem_cons.mp z with e | z
        · rw [e, hl] at hc
          cases hc
        · exact new hc z
      exact .cons (RpU.tup (s.tup hc) n1 (.cons .str (.cons (.int (small (by omega) (by omega))) .nil))) (ih fun y hy => hx y (List.mem_cons_of_mem _ hy))
  exact go hp fun x hx => pL.subset hx
/-- a dict of refs locked -/
theorem lockR {H : Hp} {d : Addr} {ks : List Str} {ad : Str → Addr} (hd : H d = some (.dK (ks.map fun x => ((Sum.inr x : Key), V.ref (ad x))))) (od : Obj) :
    (upd H d (.frz od (.dK (ks.map fun x => ((Sum.inr x : Key), V.ref (ad x)))))) d = some (.frz od (.dK (ks.map fun x => ((Sum.inr x : Key), V.ref (ad x))))) ∧
    (∀ b o, H b = some o → b ≠ d → (upd H d (.frz od (.dK (ks.map fun x => ((Sum.inr x : Key), V.ref (ad x)))))) b = some o) ∧
    (∀ b, (upd H d (.frz od (.dK (ks.map fun x => ((Sum.inr x : Key), V.ref (ad x)))))) b = none → H b = none ∧ b ≠ d) ∧
    (∀ H', Same (upd H d (.frz od (.dK (ks.map fun x => ((Sum.inr x : Key), V.ref (ad x)))))) H' → Same H (upd H' d (.dK (ks.map fun x => ((Sum.inr x : Key), V.ref (ad x)))))) := by
  refine ⟨upd_same, fun b o e n => by rw [upd_ne n]; exact e, fun b e => ?_, fun H' s b o e => ?_⟩
  · by_cases z : b = d
    · subst z
      rw [upd_same] at e
      cases e
    · rw [upd_ne z] at e
      exact ⟨e, z⟩
  · by_cases z : b = d
    · subst z
      rw [hd] at e
      cases e
      exact upd_same
    · rw [upd_ne z]
      exact s b o (by rw [upd_ne z]; exact e)
theorem paired_map {α : Type} {R : Addr → Key × V → Prop} {g : α → Addr} {k : α → Key × V} : ∀ {l : List α}, (∀ x ∈ l, R (g x) (k x)) → Paired R (l.map g) (l.map k)
  | [], _ => .nil
  | x :: l, h => .cons (h x List.mem_cons_self) (paired_map fun y hy => h y (List.mem_cons_of_mem _ hy))
theorem nin_take16 {l : List Str} {i : Nat} {x : Str} (nd : l.Nodup) (h : l[i]? = some x) : x ∉ l.take i := fun z => by
  obtain ⟨j, hj, e⟩ := List.mem_iff_getElem.mp z
  rw [List.length_take] at hj
  rw [List.getElem_take] at e
  obtain ⟨il, ei⟩ := List.getElem?_eq_some_iff.mp h
  have := (List.getElem_inj nd).mp (e.trans ei.symm)
  omega
theorem tabs_lst {T : List (Addr × Str)} {H : Hp} {l : Addr} {xs ys : List V} (t : Tabs T H) (hl : H l = some (.lst xs)) : Tabs T (upd H l (.lst ys)) := by
  intro p hp
  obtain ⟨q, hq, tq, cq⟩ := t p hp
  refine ⟨q, by rw [upd_ne (fun z => by rw [z, hl] at hq; cases hq)]; exact hq, tq, fun pos cv e => ?_⟩
  obtain ⟨c0, e1, e2⟩ := cq pos cv e
  exact ⟨c0, e1, by rw [upd_ne (fun z => by rw [z, hl] at e2; cases e2)]; exact e2⟩
section
variable {P : Program} {w : World} {K : PySem.W.Frag} {mg : Str → Option Value} {base : Heap} {N C fM fG : Addr} {fd fdM fdG : FuncData} {owN : Str → Bool} {abN : String → Bool} {dM : List Value}
/-- worths in a dict -/
structure WF (H : Hp) (d : Addr) (ks : List Str) (ad : Str → Addr) (q : Str → Int × Int) : Prop where
  at_ : H d = some (.dK (ks.map fun x => ((Sum.inr x : Key), V.ref (ad x))))
  tp : ∀ x ∈ ks, H (ad x) = some (.tup [.int (q x).1, .int (q x).2])
  no : ∀ x, x ∉ ks → q x = (0, 1)
  nd : ks.Nodup
  l12 : ks.length ≤ 20
  nm : ∀ x ∈ ks, Nm x
theorem WF.wd {H : Hp} {d : Addr} {ks : List Str} {ad : Str → Addr} {q : Str → Int × Int} (h : WF H d ks ad q) : WD H d (ks.map fun x => ((Sum.inr x : Key), V.ref (ad x))) q := by
  refine ⟨h.at_, fun x v e => ?_, fun x e => h.no x fun hx => ?_⟩
  · by_cases hx : x ∈ ks
    · rw [DQ.val_map (fun y => V.ref (ad y)) hx] at e
      cases e
      exact ⟨_, rfl, h.tp x hx⟩
    · rw [DQ.val_none (fun y => V.ref (ad y)) hx] at e
      cases e
  · rw [DQ.val_map (fun y => V.ref (ad y)) hx] at e
    cases e
theorem WF.sn {H H' : Hp} {d : Addr} {ks : List Str} {ad : Str → Addr} {q : Str → Int × Int} (h : WF H d ks ad q) (s : SN H H') : WF H' d ks ad q := ⟨s.dK h.at_, fun x hx => s.tup (h.tp x hx), h.no, h.nd, h.l12, h.nm⟩
def spRt (K : PySem.W.Frag) : Sp := fun vs H Q _ => ∃ (a d wd : Addr) (F L ks : List Str) (g : Str → Int) (ad : Str → Addr) (q : Str → Int × Int), vs = [.ref a, .ref d, .ref wd] ∧ Fk F L g ∧ H a = some (.lst (F.map V.str)) ∧ H d = some (.dK (idK L g)) ∧ WF H wd ks ad q ∧ Wq q ∧
  Tabs (T0 K) H ∧ ∀ H', SN H H' → Tabs (T0 K) H' → Q (.bl true) H'
theorem ok_rt (Fr : Dn K d_l_right (He.fAd K ("_law_right", none)) fd) (b : Bl mg) (b2 : B2 mg) (bd : mg "dict" = none) (TB : TabB base mg (He.cT K ("_law_right", none)).1 (He.cT K ("_law_right", none)).2) (dT : (He.cT K ("law", none)).2 ≠ (He.cT K ("_law_right", none)).2) (MS : K16.Q.MakS P w K mg base C)
    (cDu : Cal P w K mg base 3 "_law_due" spDu []) (cWd : Cal P w K mg base 1 "_law_word" (spWdA K mg) []) (cFd : Cal P w K mg base 1 "_law_field" (spFdA K mg) [])
    (FM : FnOk P w K mg base (L2.CX P w) 5 fM fdM ["riders", "seats", "standing"] (spCho C N)) (gM : mg "choose" = some (.ref fM)) (kM : PySem.W.keepIn K (.ref fM) = true) (bM : Binds K fdM ["riders", "seats", "standing"] []) (hM : KBn K fdM ["riders", "seats", "standing"] 1 ["standing", "seats"] (fun us ws => us ++ ws.reverse) (fun vs zs => vs ++ zs.reverse))
    (FGt : Dn K d_l_got fG fdG) (gG : mg "_law_got" = some (.ref fG)) (kG : PySem.W.keepIn K (.ref fG) = true) (bG : Binds K fdG ["_law_deed"] [])
    (gl : ∀ x ∈ ex16, mg x = some (.ref (He.ga K x))) (TE : Ex K mg N owN abN) (TM : Exm K N owN) (TW : WordOk owN abN "seats") (tc : cl10.any owN = true) (tf : fldOf owN = some "lack") (xf : XfC K N) (nt : PySem.W.findIn K (.ref N) "lack" = some none) :
    GL.FnG P w K mg base 10 (He.fAd K ("_law_right", none)) fd ["_law_folk", "_law_rooms", "_law_worths_here"] (spRt K) := by
  refine GL.okGT Fr sc_l_right (fun vs H Q E h => ?_) (fun A outer s H vs Q E hgd hr h => ?_)
  · obtain ⟨_, _, _, _, _, _, _, _, _, rfl, _⟩ := h
    rfl
  · obtain ⟨a, d, wd, F, L, ks, g, ad, q, rfl, fk, ha, hd, hw, wq, tabs, hQ⟩ := h
    obtain ⟨ocG, odG, dVG, kVG, docG, pmG, anG, cdvG, ctG, oslG, rfl, lkG, hcG, _, _⟩ := FGt.ex
    have hu := hu_of hr
    have hgd2 : (A.deeper (envOfC d_l_right.qual d_l_right.scope s.heap.objs.size (He.fAd K ("_law_right", none)) (.ref (He.cT K ("_law_right", none)).1))).guards = some [] := hgd
    have hu64 : (A.deeper (envOfC d_l_right.qual d_l_right.scope s.heap.objs.size (He.fAd K ("_law_right", none)) (.ref (He.cT K ("_law_right", none)).1))).units + 64 < cLine := by have := hr.un; omega
    refine ⟨_, PSs.nox (C8.pss_cut (ps_set (i := 3) sc_l_right.nd rfl (.inl rfl) (pe_callB (RPO.call_reprT (n := 5) hgd2 (hr.mono (by decide))) rfl b2.rep boot_repr (pa_cons (pe_c cDu hr (by decide) rfl (pa_cons (pv 0) (pa_cons (pv 1) (pa_cons (pv 2) pa_nil)))) pa_nil)))
      (C8.pss_cut (ps_set (i := 6) sc_l_right.nd rfl (.inr rfl) (pe_callTy (call_dictP rfl) rfl bd boot_dict (pa_cons (pe_lock (pe_lc (own := [("_law_called", 7)]) (g := gName 7) (tt := tYes) rfl sc_l_right.nd (pi_keys (pv 2)) (blkOk_by (N := N_l_right) (sc := defScope s_l_right) (by decide +kernel))
          (fun _ _ _ _ _ => pg_name (i := 7) sc_l_right.nd rfl (Or.inl rfl)) (fun _ _ _ _ _ => pts_nil)
          (fun _ _ _ _ _ => pe_tup (pa_cons (pv 7) (pa_cons (pe_mk MS hr (by decide) rfl (pa_cons (pe_ix (r := rIxT K) ix_tup (pe_dget hu (pv 2) (pv 7) (fun _ _ => rfl)) pe_int (fun _ _ => rfl)) (pa_cons (pe_ix (r := rIxT K) ix_tup (pe_dget hu (pv 2) (pv 7) (fun _ _ => rfl)) pe_int (fun _ _ => rfl)) pa_nil))) pa_nil))))) pa_nil)))
      (C8.pss_cut (ps_set (i := 4) sc_l_right.nd rfl (.inl rfl) (pe_callB (RPO.call_reprT (n := 5) hgd2 (hr.mono (by decide))) rfl b2.rep boot_repr (pa_cons (pe_tup (pa_cons (pv 0) (pa_cons (pe_callB (SRI.cr_sortedItK rfl hu64) rfl b2.srt boot_sorted (pa_cons (pe_bm0 PySem.F.plainAttrs_dict PySem.F.slot_dict_items PySem.F.type_dict_items SRI.mt_itemsK (pv 1)) pa_nil))
          (pa_cons (pe_callB (call_sortedD rfl) rfl b2.srt boot_sorted (pa_cons (pv 6) pa_nil)) pa_nil)))) pa_nil)))
      (C8.pss_cut (ps_set (i := 5) sc_l_right.nd rfl (.inl rfl) (LMS.pe_lamS (T := T0 K) (k := 5) rfl gG kG lkG hcG bG sc_l_got rfl (.inl rfl) (got_gives gl (hr.mono (by decide)) cWd cFd) TB rfl List.mem_cons_self (oneR dT) (hr.mono (by decide)) (LamX.lamS_by (sc := d_l_right.scope) (by decide +kernel)) rfl (fun _ _ _ _ _ => rfl)
              (fun A' outer' s1 H1 E' lf lc r => pe_callS (E := fun σ cls d H => E' cls d H) FM r rfl gM kM bM (fun σ => passAt (takes_of rfl rfl rfl rfl) σ) (pa_cons (pv 0) (pa_cons (pv 1) (pa_cons (pv 6) pa_nil))))))
      (pss_cons (ps_if (PW.pt (pw_or (pt_cmpR op_ne (pe_callB (RPO.call_reprT (n := 5) hgd2 (hr.mono (by decide))) rfl b2.rep boot_repr (pa_cons (pv 5) pa_nil)) (pv 3) (nomark _))
          (pw_or1 (pt_cmpR op_ne (pe_callB (RPO.call_reprT (n := 5) hgd2 (hr.mono (by decide))) rfl b2.rep boot_repr (pa_cons (LMS.pe_lamS (T := T0 K) (k := 5) rfl gG kG lkG hcG bG sc_l_got rfl (.inl rfl) (got_gives gl (hr.mono (by decide)) cWd cFd) TB rfl List.mem_cons_self (oneR dT) (hr.mono (by decide)) (LamX.lamS_by (sc := d_l_right.scope) (by decide +kernel)) rfl (fun _ _ _ _ _ => rfl)
              (fun A' outer' s1 H1 E' lf lc r => pe_callN (E := E') FM r rfl gM kM hM (passes_call (takes_of rfl rfl rfl rfl) fun _ _ _ _ h => h) (pa_cons (pv 0) pa_nil) (pk_cons (pv 6) (pk_cons (pv 1) pk_nil)))) pa_nil)) (pv 3) (nomark _))))) pss_never pss_nil)
      (C8.pss_cut (ps_if (pt_cmpR op_eq (pe_ix (r := rIxT K) ix_tup (pv 5) pe_int (fun _ _ => rfl)) pe_str (nomark _))
          (pss_cons (ps_expr (pe_bm PySem.F.plainAttrs_list PySem.F.slot_list_append PySem.F.type_list_append mt_append (pe_ix (r := rIxT K) ix_tup (pv 5) pe_int (fun _ _ => rfl)) (pa_cons pe_str pa_nil)))
          (pss_one (ps_expr (pe_bm0 PySem.F.plainAttrs_list PySem.F.slot_list_reverse PySem.F.type_list_reverse mt_reverse (pe_ix (r := rIxT K) ix_tup (pv 5) pe_int (fun _ _ => rfl)))))) pss_nil)
      (pss_cons (ps_if (pt_cmpR op_ne (pe_callB (RPO.call_reprT (n := 5) hgd2 (hr.mono (by decide))) rfl b2.rep boot_repr (pa_cons (LMS.pe_lamS (T := T0 K) (k := 5) rfl gG kG lkG hcG bG sc_l_got rfl (.inl rfl) (got_gives gl (hr.mono (by decide)) cWd cFd) TB rfl List.mem_cons_self (oneR dT) (hr.mono (by decide)) (LamX.lamS_by (sc := d_l_right.scope) (by decide +kernel)) rfl (fun _ _ _ _ _ => rfl)
              (fun A' outer' s1 H1 E' lf lc r => pe_callS (E := fun σ cls d H => E' cls d H) FM r rfl gM kM bM (fun σ => passAt (takes_of rfl rfl rfl rfl) σ) (pa_cons (pv 0) (pa_cons (pv 1) (pa_cons (pv 6) pa_nil))))) pa_nil)) (pv 3) (nomark _)) pss_never pss_nil)
      (pss_one (ps_ret (pe_cmpR op_eq (pe_callB (RPO.call_reprT (n := 5) hgd2 (hr.mono (by decide))) rfl b2.rep boot_repr (pa_cons (pe_tup (pa_cons (pv 0) (pa_cons (pe_callB (SRI.cr_sortedItK rfl hu64) rfl b2.srt boot_sorted (pa_cons (pe_bm0 PySem.F.plainAttrs_dict PySem.F.slot_dict_items PySem.F.type_dict_items SRI.mt_itemsK (pv 1)) pa_nil))
          (pa_cons (pe_callB (call_sortedD rfl) rfl b2.srt boot_sorted (pa_cons (pv 6) pa_nil)) pa_nil)))) pa_nil)) (pv 4) (nomark _))))))))))), ?_⟩
    have nz : ∀ v : V, (!decide (v = v)) = false := fun v => by simp
    have nz2 : ∀ v : V, decide (v = v) = true := fun v => by simp
    have wd0 := hw.wd
    -- what is due
    refine ⟨fun σ' H' => σ' = [some (.ref a), some (.ref d), some (.ref wd), some (.str (tupleText (tA F L g (rq q)))), none, none, none, none] ∧ Same H H', ?_, ?_⟩
    · refine ⟨_, rfl, _, rfl, _, rfl, a, d, wd, F, L, g, _, q, rfl, fk, ha, hd, wd0, wq, fun lc t H' s' ht => ?_, fun lc t o Z H' s' ht ho pm pw => ?_⟩
      · obtain ⟨vs, e1, e2⟩ := ans_rp16 (X := _) (ρ := rq q) fk (.inr ⟨lc, ht⟩)
        exact ⟨t, vs, _, rfl, e1, e2, tA_len fk, fun H6 e6 => ⟨rfl, s'.trans e6⟩⟩
      · obtain ⟨vs, e1, e2⟩ := ans_rp16 (X := _) (ρ := rq q) fk (.inl ⟨lc, o, ht, by rw [zr_eq pm pw]; exact ho⟩)
        exact ⟨t, vs, _, rfl, e1, e2, tA_len fk, fun H6 e6 => ⟨rfl, s'.trans e6⟩⟩
    rintro σ' H1 ⟨rfl, s01⟩
    have hw1 := hw.sn (SN.of s01)
    -- Shares
    refine ⟨fun σ' H' => ∃ (hd2 : Addr) (sa : Str → Addr), σ' = [some (.ref a), some (.ref d), some (.ref wd), some (.str (tupleText (tA F L g (rq q)))), none, none, some (.ref hd2), none] ∧ Same H1 H' ∧ H' hd2 = some (.dK (ks.map fun x => ((Sum.inr x : Key), V.ref (sa x)))) ∧ ∀ x ∈ ks, K16.Q.Sh C H' (sa x) (pr (rq q x)), ?_, ?_⟩
    · refine ⟨wd, _, hw1.at_, trivial, fun od => ?_⟩
      obtain ⟨hd1, kp1, new1, back1⟩ := lockR hw1.at_ od
      have hv1 : ∀ x ∈ ks, (upd H1 wd (.frz od (.dK (ks.map fun x => ((Sum.inr x : Key), V.ref (ad x)))))) (ad x) = some (.tup [.int (q x).1, .int (q x).2]) := fun x hx => kp1 _ _ (hw1.tp x hx) fun z => by have := hw1.tp x hx; rw [z, hw1.at_] at this; cases this
      generalize upd H1 wd (.frz od (.dK (ks.map fun x => ((Sum.inr x : Key), V.ref (ad x))))) = H2 at hd1 kp1 new1 back1 hv1
      refine ⟨_, rfl, wd, od, rfl, .inl ⟨_, hd1, fun D hD => lc_it walk_keys (fun i H' => ∃ (pa sa : Str → Addr), H' D = some (.lst ((ks.take i).map fun x => V.ref (pa x))) ∧ (∀ x ∈ ks.take i, H' (pa x) = some (.tup [.str x, .ref (sa x)]) ∧ K16.Q.Sh C H' (sa x) (pr (rq q x))) ∧ Same H2 H')
        ⟨fun _ => 0, fun _ => 0, upd_same, fun x hx => by simp at hx, same_new hD⟩ (fun i H' _ z => by obtain ⟨_, _, _, _, sm⟩ := z; exact sm _ _ hd1) ?_ ?_⟩⟩
      · rintro i x H3 H3' hi ⟨pa, sa, hdd, hval, sm⟩ ⟨eH, kk, v, hkk, rfl⟩
        have eH := eH.symm
        subst eH
        rw [List.length_map] at hi
        rw [List.getElem?_map] at hkk
        obtain ⟨z, hz0, e0⟩ := Option.map_eq_some_iff.mp hkk
        cases e0
        have hzL := List.mem_of_getElem? hz0
        have nzz := nin_take16 hw.nd hz0
        refine ⟨rfl, ?_⟩
        have dg : DGet H3 wd (.str z) (some (.ref (ad z))) := .inl ⟨_, Sum.inr z, .inr ⟨od, sm _ _ hd1⟩, rfl, (DQ.val_map (fun y => V.ref (ad y)) hzL).symm⟩
        have hvz := sm _ _ (hv1 z hzL)
        refine ⟨_, rfl, _, rfl, _, rfl, wd, _, rfl, dg, ad z, _, _, _, rfl, rfl, SqT.of hvz, atI_nat (j := 0) rfl, _, rfl, _, rfl, wd, _, rfl, dg, ad z, _, _, _, rfl, rfl, SqT.of hvz, atI_nat (j := 1) rfl, ?_⟩
        obtain ⟨b0, b60⟩ := wq.b z
        have e64 : (2 : Nat) ^ 6 = 64 := by decide
        intro t dt nt ndt ne
        refine K16.Q.mk_in (n := 6) nt ndt (by omega) (by rw [e64]; omega) (by decide) (by decide) fun H4 s4 ht => ⟨rfl, ?_⟩
        refine ⟨by show 2 ≤ sizeLine; decide, fun u fu => ?_⟩
        have sq := same_new (o := .tup [.str z, .ref t]) fu
        have s24 := s4.trans sq
        have hD4 := s24 _ _ hdd
        have l12 := hw.l12
        refine ⟨_, hD4, by rw [List.length_map, List.length_take]; exact line_lt (by omega), fun x => if x = z then u else pa x, fun x => if x = z then t else sa x, ?_, fun x hx => ?_, fun b o e => ?_⟩
        · rw [upd_same, take_one hz0, List.map_append]
          have e1 : (ks.take i).map (fun x => V.ref (pa x)) = (ks.take i).map fun x => V.ref (if x = z then u else pa x) := List.map_congr_left fun x hx => by rw [if_neg (show ¬ x = z from fun e => nzz (e ▸ hx))]
          rw [e1]
          simp
        · have nD : ∀ {p : Addr} {o : HO}, (upd H4 u (.tup [.str z, .ref t])) p = some o → (∀ ys, o ≠ .lst ys) → p ≠ D := fun {p o} e n zz => by
            rw [zz, hD4] at e
            exact n _ (Option.some.inj e).symm
          rw [take_one hz0] at hx
          by_cases e : x = z
          · subst e
            dsimp only
            rw [if_pos rfl, if_pos rfl]
            refine ⟨?_, ?_⟩
            · rw [upd_ne (nD upd_same (fun ys e => by cases e))]
              exact upd_same
            · obtain ⟨dx, e⟩ := ht
              have e2 := sq _ _ e
              exact ⟨dx, by rw [upd_ne (nD e2 (fun ys e => by cases e))]; exact e2⟩
          · have hx' : x ∈ ks.take i := by
              rcases List.mem_append.mp hx with q' | q'
              · exact q'
              · exact absurd (List.mem_singleton.mp q') e
            obtain ⟨h1, dx, h2⟩ := hval x hx'
            dsimp only
            rw [if_neg e, if_neg e]
            have g1 := s24 _ _ h1
            have g2 := s24 _ _ h2
            exact ⟨by rw [upd_ne (nD g1 (fun ys e => by cases e))]; exact g1, dx, by rw [upd_ne (nD g2 (fun ys e => by cases e))]; exact g2⟩
        · rw [upd_ne (ne_of_none e hD)]
          exact s24 _ _ (sm _ _ e)
      rintro H3 ⟨pa, sa, hdd, hval, sm⟩
      rw [List.length_map, List.take_length] at hdd hval
      obtain ⟨nD, nDd⟩ := new1 D hD
      have hd3 := sm _ _ hd1
      have s13 := back1 H3 sm
      refine ⟨hd3, ?_⟩
      have g0 : (upd H3 wd (.dK (ks.map fun x => ((Sum.inr x : Key), V.ref (ad x))))) D = some (.lst (ks.map fun x => V.ref (pa x))) := by rw [upd_ne nDd]; exact hdd
      have g1 : ∀ x ∈ ks, (upd H3 wd (.dK (ks.map fun x => ((Sum.inr x : Key), V.ref (ad x))))) (pa x) = some (.tup [.str x, .ref (sa x)]) ∧ K16.Q.Sh C (upd H3 wd (.dK (ks.map fun x => ((Sum.inr x : Key), V.ref (ad x))))) (sa x) (pr (rq q x)) := fun x hx => by
        obtain ⟨h1, dx, h2⟩ := hval x hx
        exact ⟨by rw [upd_ne fun z => by rw [z, hd3] at h1; cases h1]; exact h1, dx, by rw [upd_ne fun z => by rw [z, hd3] at h2; cases h2]; exact h2⟩
      generalize upd H3 wd (.dK (ks.map fun x => ((Sum.inr x : Key), V.ref (ad x)))) = H4 at s13 g0 g1
      refine ⟨D, ks.map pa, ks.map fun x => ((Sum.inr x : Key), V.ref (sa x)), rfl, by rw [List.map_map]; exact SqL.of g0, paired_map fun x hx => SqT.of (g1 x hx).1, fun u fu => ?_⟩
      have em : mergeK [] (ks.map fun x => ((Sum.inr x : Key), V.ref (sa x))) = ks.map fun x => ((Sum.inr x : Key), V.ref (sa x)) := DQ.merge_map (fun x => V.ref (sa x)) (l := ks) (m := []) hw.nd
      rw [em]
      have sq := same_new (o := .dK (ks.map fun x => ((Sum.inr x : Key), V.ref (sa x)))) fu
      refine ⟨u, sa, rfl, s13.trans sq, upd_same, fun x hx => ?_⟩
      obtain ⟨dx, e⟩ := (g1 x hx).2
      exact ⟨dx, sq _ _ e⟩
    rintro σ' H2 ⟨hd2, sa, rfl, s12, hh2, hs2⟩
    have s02 := s01.trans s12
    -- what is kept
    refine ⟨fun σ' H' => ∃ ys : List Str, σ' = [some (.ref a), some (.ref d), some (.ref wd), some (.str (tupleText (tA F L g (rq q)))), some (.str (tupleText (tK F L g ys))), none, some (.ref hd2), none] ∧ Same H2 H' ∧ ys.Perm ks ∧ PyProof.Rows.sortedS ys = true, ?_, ?_⟩
    · refine ⟨_, rfl, _, rfl, .inr (.inr (.inl ⟨rfl, .inl ⟨_, s02 _ _ hd⟩⟩)), d, _, rfl, rfl, s02 _ _ hd, fun p3 f3 => ?_⟩
      have s3 := same_new (o := DX.itemsO p3 d) f3
      refine ⟨p3, d, L, g, rfl, upd_same, s3 _ _ (s02 _ _ hd), fun H4 l4 ts4 s4 nl4 hl4 hp4 => ?_⟩
      have s24 : Same H2 H4 := s3.trans s4
      refine ⟨_, rfl, hd2, _, ks, rfl, .inl (s24 _ _ hh2), by rw [List.map_map]; rfl, by have := hw.l12; omega, fun ys p pm so fp => ?_⟩
      have sp := same_new (o := .lst (ys.map V.str)) fp
      have hl5 := sp _ _ hl4
      have hyl : (upd H4 p (.lst (ys.map V.str))) p = some (.lst (ys.map V.str)) := upd_same
      have hp5 := pd_mono hp4 fun x y z => sp _ _ z.2
      have s25 := s24.trans sp
      generalize upd H4 p (.lst (ys.map V.str)) = H5 at hl5 hyl hp5 s25
      refine ⟨by show 3 ≤ sizeLine; decide, fun t5 f5 => ?_⟩
      refine ⟨t5, _, tK F L g ys, rfl, upd_same, kept16 (H0 := H5) fk (s25 _ _ (s02 _ _ ha)) hl5 hyl hp5 f5 (SN.of (same_new f5)), tK_len fk (fun x hx => hw.nm x (pm.subset hx)) (by rw [pm.length_eq]; exact hw.l12), fun H6 e6 => ?_⟩
      exact ⟨ys, rfl, (s25.trans (same_new f5)).trans e6, pm, so⟩
    rintro σ' H3 ⟨ys, rfl, s23, ypm, yso⟩
    have s03 := s02.trans s23
    have t3 := tabs.ext s03
    have ha3 := s03 _ _ ha
    have hd3 := s03 _ _ hd
    have hh3 := s23 _ _ hh2
    have hs3 : ∀ x ∈ ks, K16.Q.Sh C H3 (sa x) (pr (rq q x)) := fun x hx => (hs2 x hx).keep s23
    have sz6 : ∀ x, Sz 6 (rq q x) := fun x => by
      obtain ⟨t0, t4⟩ := wq.t x
      obtain ⟨b0, b60⟩ := wq.b x
      have e64 : (2 : Nat) ^ 6 = 64 := by decide
      exact KM.sz_of_low (by omega) (by rw [e64]; omega) (by rw [e64]; omega)
    have r0 : ∀ x, x ∉ ks → rq q x = 0 := fun x hx => by
      unfold rq
      rw [hw.no x hx]
      rfl
    have fin : ∀ {H' : Hp} {E' : XK} {Q' : VK} {RR : Addr → Hp → Prop}, SN H3 H' → Tabs (T0 K) H' → (∀ cls d H'' (wd : Str) (v : V), RefAt K mg cls d H'' wd v → (∀ t H2, Same H'' H2 → H'' t = none → H2 t = some (.tup [.str wd, v]) → RR t H2) → E' cls d H'') →
        (∀ v H'', (∀ t H2, Same H'' H2 → H'' t = none → H2 t = some (.tup [.str "told", v]) → RR t H2) → Q' v H'') →
        (∀ t H2, SN H' H2 → Tabs (T0 K) H2 → Ans H2 t F L g (rq q) → (∀ o, H2 t = some (.tup [.str "told", .ref o]) → H' o = none) → RR t H2) → spCho C N [.ref a, .ref d, .ref hd2] H' Q' E' := fun {H' E' Q' RR} sg tb hE hT hQ' => by
      refine ⟨a, d, .ref hd2, F, L, g, rq q, 6, rfl, fk, sg.lst ha3, sg.dK hd3, .inl ⟨hd2, _, rfl, sg.dK hh3, fun x v e => ?_, fun x e => ?_⟩, sz6, by decide, by decide, fun k0 dx H'' s' fdx hdx => ?_, fun k0 o Z H'' s' fo pm pw ho => ?_⟩
      · by_cases hx : x ∈ ks
        · rw [DQ.val_map (fun y => V.ref (sa y)) hx] at e
          cases e
          obtain ⟨dx, e9⟩ := hs3 x hx
          exact ⟨_, rfl, dx, sg _ _ e9 fun _ z => nomatch z⟩
        · rw [DQ.val_none (fun y => V.ref (sa y)) hx] at e
          cases e
      · refine r0 x fun hx => ?_
        rw [DQ.val_map (fun y => V.ref (sa y)) hx] at e
        cases e
      · refine hE _ _ _ "seats" (.int (lac F L g)) ⟨N, owN, abN, rfl, TE, TM, TW, .inl tc, .inr ⟨dx, _, rfl, hdx⟩, ⟨fun f0 ef => ?_, fun e => ?_⟩⟩ fun t H2 s2 ft ht => hQ' t H2 (SN.of (s'.trans s2)) (tb.ext (s'.trans s2)) (.inr ⟨k0, ht⟩) fun o e => ?_
        · rw [tf] at ef
          cases ef
          exact ⟨dx, _, rfl, hdx, xf, nt, rfl⟩
        · rw [tf] at e
          cases e
        · rw [ht] at e
          cases e
      · refine hT _ _ fun t H2 s2 ft ht => hQ' t H2 (SN.of (s'.trans s2)) (tb.ext (s'.trans s2)) (.inl ⟨k0, o, ht, by rw [zr_eq pm pw]; exact s2 _ _ ho⟩) fun o2 e => ?_
        rw [ht] at e
        cases e
        exact fo
    have putS : ∀ {H H' : Hp} {o : Addr} {u : HO}, SN H H' → (∀ b x, H b = some x → (∀ ps, x ≠ .tbl ps) → b ≠ o) → SN H (upd H' o u) := fun s f b x e n => by
      rw [upd_ne (f b x e n)]
      exact s b x e n
    -- told the first time
    refine ⟨fun σ' H' => ∃ t, σ' = [some (.ref a), some (.ref d), some (.ref wd), some (.str (tupleText (tA F L g (rq q)))), some (.str (tupleText (tK F L g ys))), some (.ref t), some (.ref hd2), none] ∧ SN H3 H' ∧ Tabs (T0 K) H' ∧ Ans H' t F L g (rq q) ∧ ∀ o, H' t = some (.tup [.str "told", .ref o]) → ∀ b x, H3 b = some x → (∀ ps, x ≠ .tbl ps) → b ≠ o, ?_, ?_⟩
    · refine ⟨t3, fun G5 e5 t5 => fun H1' E' Q' sH hE' hT' => ?_⟩
      have g5 : SN H3 H1' := SN.trans (snE e5) (SN.of sH)
      refine ⟨_, rfl, _, rfl, _, rfl, fin (E' := E') (Q' := Q') g5 (t5.ext sH) hE' hT' fun t' H9 g9 t9 an9 f9 => ?_⟩
      exact ⟨t', rfl, SN.trans g5 g9, t9, an9, fun o e b x hb n z => by
        have := f9 o e
        rw [← z, g5 b x hb n] at this
        cases this⟩
    rintro σ' H4 ⟨t, rfl, s34, t4, an4, fr4⟩
    obtain ⟨vs4, e41, e42⟩ := ans_rp16 (X := _) fk an4
    refine ⟨_, rfl, t, vs4, _, rfl, e41, e42, tA_len fk, fun G5 e5 => ?_⟩
    refine ⟨_, rfl, rfl, _, rfl, ?_⟩
    rw [nz]
    refine iteF ?_
    refine ⟨t4.ext e5, fun G6 e6 t6 => fun H1' E' Q' sH hE' hT' => ?_⟩
    have u6 : SN H4 H1' := SN.trans (SN.trans (SN.of e5) (snE e6)) (SN.of sH)
    refine ⟨_, rfl, _, rfl, _, rfl, rfl, rfl, fin (E' := E') (Q' := Q') (SN.trans s34 u6) (t6.ext sH) hE' hT' fun t' H7 g7 t7 an7 f7 => ?_⟩
    obtain ⟨vs7, e71, e72⟩ := ans_rp16 (X := _) fk an7
    refine ⟨t', vs7, _, rfl, e71, e72, tA_len fk, fun G8 e8 => ?_⟩
    refine ⟨_, rfl, rfl, _, rfl, ?_⟩
    rw [nz]
    refine iteF ?_
    have u8 : SN H4 G8 := SN.trans (SN.trans u6 g7) (SN.of e8)
    have t8 := t7.ext e8
    have s38 := SN.trans s34 u8
    -- what was told is changed
    refine ⟨fun σ' H' => σ' = [some (.ref a), some (.ref d), some (.ref wd), some (.str (tupleText (tA F L g (rq q)))), some (.str (tupleText (tK F L g ys))), some (.ref t), some (.ref hd2), none] ∧ SN H3 H' ∧ Tabs (T0 K) H', ?_, ?_⟩
    · rcases an4 with ⟨lc, o, h1, h2⟩ | ⟨lc, h1⟩
      · have h18 := u8.tup h1
        have h28 := u8.lst h2
        have fro := fr4 o h1
        have nto : t ≠ o := fun z => by rw [z, h2] at h1; cases h1
        refine ⟨_, rfl, t, _, _, _, rfl, rfl, SqT.of h18, atI_nat (j := 0) rfl, rfl, _, rfl, iteT ?_⟩
        obtain ⟨c1, _⟩ := cho_in (F := F) (L := L) (g := g) (ρ := rq q)
        have fl := fk.fl
        refine ⟨_, rfl, t, _, _, _, rfl, rfl, SqT.of h18, atI_nat (j := 1) rfl, Or.inl ⟨rfl, _, SqL.of h28⟩, o, _, _, rfl, rfl, h28, by rw [List.length_map]; exact line_lt (by omega), ?_⟩
        have h19 : (upd G8 o (.lst ((cho F L g (zr F (rq q))).map V.str ++ [.str "zz"]))) t = some (.tup [.str "told", .ref o]) := by rw [upd_ne nto]; exact h18
        have h29 : (upd G8 o (.lst ((cho F L g (zr F (rq q))).map V.str ++ [.str "zz"]))) o = some (.lst ((cho F L g (zr F (rq q))).map V.str ++ [.str "zz"])) := upd_same
        have t9 := tabs_lst (ys := (cho F L g (zr F (rq q))).map V.str ++ [.str "zz"]) t8 h28
        have s39 := putS (u := .lst ((cho F L g (zr F (rq q))).map V.str ++ [.str "zz"])) s38 fro
        generalize upd G8 o (.lst ((cho F L g (zr F (rq q))).map V.str ++ [.str "zz"])) = G9 at h19 h29 t9 s39
        refine ⟨_, rfl, t, _, _, _, rfl, rfl, SqT.of h19, atI_nat (j := 1) rfl, Or.inl ⟨rfl, _, SqL.of h29⟩, o, _, rfl, rfl, h29, rfl, putS s39 fro, tabs_lst t9 h29⟩
      · have h18 := u8.tup h1
        refine ⟨_, rfl, t, _, _, _, rfl, rfl, SqT.of h18, atI_nat (j := 0) rfl, rfl, _, rfl, iteF ⟨rfl, s38, t8⟩⟩
    rintro σ' H10 ⟨rfl, s310, t10⟩
    -- told once more
    refine ⟨t10, fun G11 e11 t11 => fun H1'' E'' Q'' sH' hE'' hT'' => ?_⟩
    have u11 : SN H3 H1'' := SN.trans (SN.trans s310 (snE e11)) (SN.of sH')
    refine ⟨_, rfl, _, rfl, _, rfl, fin (E' := E'') (Q' := Q'') u11 (t11.ext sH') hE'' hT'' fun t'' H12 g12 t12 an12 f12 => ?_⟩
    obtain ⟨vs12, e121, e122⟩ := ans_rp16 (X := _) fk an12
    refine ⟨t'', vs12, _, rfl, e121, e122, tA_len fk, fun G13 e13 => ?_⟩
    refine ⟨_, rfl, rfl, _, rfl, ?_⟩
    rw [nz]
    refine iteF ?_
    have s313 : SN H3 G13 := SN.trans (SN.trans u11 g12) (SN.of e13)
    have t13 := t12.ext e13
    -- what was kept
    refine ⟨_, rfl, _, rfl, .inr (.inr (.inl ⟨rfl, .inl ⟨_, s313.dK hd3⟩⟩)), d, _, rfl, rfl, s313.dK hd3, fun p3 f3 => ?_⟩
    have s3 := same_new (o := DX.itemsO p3 d) f3
    refine ⟨p3, d, L, g, rfl, upd_same, s3 _ _ (s313.dK hd3), fun H14 l4 ts4 s4 nl4 hl4 hp4 => ?_⟩
    have s14 : SN H3 H14 := SN.trans s313 (SN.of (s3.trans s4))
    refine ⟨_, rfl, hd2, _, ks, rfl, .inl (s14.dK hh3), by rw [List.map_map]; rfl, by have := hw.l12; omega, fun ys2 p pm so fp => ?_⟩
    have ey : ys = ys2 := IO.sorted_same (IO.sorted_pw yso) (IO.sorted_pw so) (ypm.trans pm.symm)
    subst ey
    have sp := same_new (o := .lst (ys.map V.str)) fp
    have hl5 := sp _ _ hl4
    have hyl : (upd H14 p (.lst (ys.map V.str))) p = some (.lst (ys.map V.str)) := upd_same
    have hp5 := pd_mono hp4 fun x y z => sp _ _ z.2
    have s15 : SN H3 (upd H14 p (.lst (ys.map V.str))) := SN.trans s14 (SN.of sp)
    have t15 := (t13.ext (s3.trans s4)).ext sp
    generalize upd H14 p (.lst (ys.map V.str)) = H15 at hl5 hyl hp5 s15 t15
    refine ⟨by show 3 ≤ sizeLine; decide, fun t5 f5 => ?_⟩
    refine ⟨t5, _, tK F L g ys, rfl, upd_same, kept16 (H0 := H15) fk (s15.lst ha3) hl5 hyl hp5 f5 (SN.of (same_new f5)), tK_len fk (fun x hx => hw.nm x (pm.subset hx)) (by rw [pm.length_eq]; exact hw.l12), fun H16 e16 => ?_⟩
    refine ⟨_, rfl, rfl, ?_⟩
    rw [nz2]
    exact hQ _ (SN.up s03 (SN.trans s15 (SN.of ((same_new f5).trans e16)))) (t15.ext ((same_new f5).trans e16))
end
end K16
set_option Elab.async false
set_option linter.all false
set_option maxRecDepth 100000
set_option maxHeartbeats 4000000
namespace K16
open PySem PySem.Spec PyProof.Rows L2
open C8 (Cal Mak Met pe_c pe_mk pe_mt pe_mt0)
open SX (S)
theorem pen_some {p : Addr} {H : Hp} {c : Nat} (pen : Pen H p c) : H p ≠ none := by
  obtain ⟨l, ns, n, m, h1, _⟩ := pen
  intro z
  rw [z] at h1
  cases h1
theorem pick4 {H : Hp} {a b c d : Int} {n : Nat} (hn : n < 4) : ([V.int a, V.int b, V.int c, V.int d] : List V)[n]? = some (V.int ([a, b, c, d].getD n 0)) := by
  match n, hn with
  | 0, _ => rfl
  | 1, _ => rfl
  | 2, _ => rfl
  | 3, _ => rfl
section
variable {P : Program} {w : World} {K : PySem.W.Frag} {mg : Str → Option Value} {base : Heap} {f : Addr} {fd : FuncData}
/-- riders and their seats, told -/
def spDr : Sp := fun vs H Q _ => ∃ (p : Addr) (c : Nat), vs = [.ref p] ∧ Pen H p (c + 110) ∧ ∀ (t a d : Addr) (F L : List Str) (g : Str → Int) (H' : Hp), Fk F L g → L.length ≤ 12 → Pen H' p c → Kp p H H' →
  H' t = some (.tup [.ref a, .ref d]) → H' a = some (.lst (F.map V.str)) → H' d = some (.dK (idK L g)) → Off p a H' → Off p d H' → Q (.ref t) H'
theorem ok_dr (F : Dn K d_l_drawn f fd) (b : Bl mg) (cD : CalD P w K mg base) (cN : Cal P w K mg base 2 "_law_names" spNames []) : FnOk P w K mg base CX0 3 f fd ["_law_pen_here"] spDr := by
  refine F.ok sc_l_drawn (fun vs H Q E h => ?_) (fun cdv A outer s H vs Q E hr h => ?_)
  · obtain ⟨p, c, rfl, _⟩ := h
    rfl
  · obtain ⟨p, c, rfl, pen, hQ⟩ := h
    have hu := hu_of hr
    have dr : ∀ {X : Cx}, True := fun {X} => trivial
    refine ⟨_, PSs.nox (pss_cons (ps_set (i := 1) sc_l_drawn.nd rfl (.inl rfl) (pe_c cN hr (by decide) rfl (pa_cons (pv 0) (pa_cons pe_int pa_nil))))
      (pss_cons (ps_set (i := 2) sc_l_drawn.nd rfl (.inl rfl) (pe_ix ix_list (pe_lst (pa_cons (pe_c cD hr (by decide) rfl (pa_cons (pv 0) (pa_cons pe_int pa_nil))) (pa_cons (pe_c cD hr (by decide) rfl (pa_cons (pv 0) (pa_cons pe_int pa_nil))) (pa_cons pe_int pa_nil)))) (pe_c cD hr (by decide) rfl (pa_cons (pv 0) (pa_cons pe_int pa_nil))) (fun _ _ => rfl)))
      (pss_cons (ps_par3 (i := 3) (j := 4) (l := 5) rfl sc_l_drawn.nd rfl rfl rfl (by decide) (by decide) (by decide) rfl rfl rfl (pa_cons (pe_slice sl_list (pv 1) po_none (po_some (pv 2))) (pa_cons pe_dnewK
          (pa_cons (pe_ix ix_list (pe_lst (pa_cons pe_int (pa_cons pe_int (pa_cons pe_int (pa_cons pe_int pa_nil))))) (pe_c cD hr (by decide) rfl (pa_cons (pv 0) (pa_cons pe_int pa_nil))) (fun _ _ => rfl)) pa_nil))) rfl)
      (pss_cons (ps_for PassesOwn.never rfl (pi_list (pv 1)) (pg_name (i := 6) sc_l_drawn.nd rfl (.inl rfl))
        (pss_cons (ps_set (i := 7) sc_l_drawn.nd rfl (.inl rfl) (pe_c cD hr (by decide) rfl (pa_cons (pv 0) (pa_cons pe_int pa_nil))))
        (pss_one (ps_if (pt_cmpR op_gt (pv 7) pe_int (nomark _))
          (pss_one (ps_dput hu (pv 4) (pv 6) (pe_ix ix_list (pe_lst (pa_cons pe_int (pa_cons (pe_op op_add pe_int (pe_c cD hr (by decide) rfl (pa_cons (pv 0) (pa_cons (pv 5) pa_nil)))) (pa_cons (pe_c cD hr (by decide) rfl (pa_cons (pv 0) (pa_cons (pe_op op_add (pv 5) pe_int) pa_nil)))
              (pa_cons (pe_op op_add pe_int (pe_c cD hr (by decide) rfl (pa_cons (pv 0) (pa_cons pe_int pa_nil)))) pa_nil))))) (pe_op op_sub (pv 7) pe_int) (fun _ _ => rfl)) rfl)) pss_nil))))
      (pss_one (ps_ret (pe_tup (pa_cons (pv 3) (pa_cons (pv 4) pa_nil))))))))), ?_⟩
    refine ⟨_, rfl, p, c + 70, 12, rfl, pen, by decide, fun o zs H1 pen1 k1 fo off1 ho lz okz ndz => ?_⟩
    -- how many
    refine ⟨_, rfl, p, c + 69, _, rfl, pen1, by decide, by decide, fun r1 H2 a1 b1 pen2 k2 => ?_⟩
    refine ⟨_, rfl, p, c + 68, _, rfl, pen2, by decide, by decide, fun r2 H3 a2 b2 pen3 k3 => ?_⟩
    have off3 := (off1.kp k2).kp k3
    have ho3 := k3.1 _ _ (k2.1 _ _ ho off1.ne) (off1.kp k2).ne
    refine ⟨by show 3 ≤ sizeLine; decide, fun m1 fm1 => ?_⟩
    have s4 := same_new (o := .lst [V.int r1, V.int r2, V.int 12]) fm1
    have hm4 : (upd H3 m1 (.lst [V.int r1, V.int r2, V.int 12])) m1 = some (.lst [V.int r1, V.int r2, V.int 12]) := upd_same
    have offm : Off p m1 (upd H3 m1 (.lst [V.int r1, V.int r2, V.int 12])) := (Off.of pen3 fm1).kp (Kp.same s4)
    generalize upd H3 m1 (.lst [V.int r1, V.int r2, V.int 12]) = H4 at s4 hm4 offm ⊢
    refine ⟨_, rfl, p, c + 67, _, rfl, pen3.same s4, by decide, by decide, fun r3 H5 a3 b3 pen5 k5 => ?_⟩
    obtain ⟨n3, rfl⟩ := Int.eq_ofNat_of_zero_le a3
    obtain ⟨n1, rfl⟩ := Int.eq_ofNat_of_zero_le a1
    obtain ⟨n2, rfl⟩ := Int.eq_ofNat_of_zero_le a2
    obtain ⟨m, m12, em⟩ : ∃ m : Nat, m ≤ 12 ∧ ([V.int (n1 : Int), V.int (n2 : Int), V.int 12] : List V)[n3]? = some (V.int (m : Int)) := by
      match n3, b3 with
      | 0, _ => exact ⟨n1, by omega, rfl⟩
      | 1, _ => exact ⟨n2, by omega, rfl⟩
      | 2, _ => exact ⟨12, by omega, rfl⟩
      | k + 3, hk => exact absurd hk (by omega)
    refine ⟨m1, _, _, _, rfl, rfl, SqL.of (k5.1 _ _ hm4 offm.ne), atI_nat em, ?_⟩
    have off5 := (off3.kp (Kp.same s4)).kp k5
    have ho5 := k5.1 _ _ (s4 _ _ ho3) (off3.kp (Kp.same s4)).ne
    have k15 : Kp p H1 H5 := ((k2.trans k3).trans (Kp.same s4)).trans k5
    -- the riders, the dict
    have ezs : (zs.map fun l => V.str (S l)) = (zs.map S).map V.str := by rw [List.map_map]; rfl
    rw [ezs] at ho5
    have hFk : ∀ x ∈ zs.map S, Nm x := fun x hx => by
      obtain ⟨z, hz, rfl⟩ := List.mem_map.mp hx
      exact ⟨z, okz z hz, rfl⟩
    have hFn : (zs.map S).Nodup := List.pairwise_map.mpr (ndz.imp fun {a b} n e => n (SX.S_inj e))
    have hFl : (zs.map S).length = 12 := by rw [List.length_map, lz]
    generalize zs.map S = Z at ho5 hFk hFn hFl
    refine ⟨_, rfl, _, rfl, _, rfl, o, _, rfl, SqL.of ho5, fun fa ffa => ?_⟩
    rw [cut_take V.str (Int.natCast_nonneg m), Int.toNat_natCast]
    have s6 := same_new (o := .lst ((Z.take m).map V.str)) ffa
    have hfa : (upd H5 fa (.lst ((Z.take m).map V.str))) fa = some (.lst ((Z.take m).map V.str)) := upd_same
    have offa : Off p fa (upd H5 fa (.lst ((Z.take m).map V.str))) := (Off.of pen5 ffa).kp (Kp.same s6)
    generalize upd H5 fa (.lst ((Z.take m).map V.str)) = H6 at s6 hfa offa ⊢
    refine fun d fd => ?_
    have s7 := same_new (o := .dK []) fd
    have hd7 : (upd H6 d (.dK [])) d = some (.dK []) := upd_same
    have offd : Off p d (upd H6 d (.dK [])) := (Off.of (pen5.same s6) fd).kp (Kp.same s7)
    have nda : fa ≠ d := ne_of_none hfa fd
    have pen7 := (pen5.same s6).same s7
    generalize upd H6 d (.dK []) = H7 at s7 hd7 offd pen7 ⊢
    refine ⟨by show 4 ≤ sizeLine; decide, fun m2 fm2 => ?_⟩
    have s8 := same_new (o := .lst [V.int 2, V.int 4, V.int 9, V.int 9]) fm2
    have hm8 : (upd H7 m2 (.lst [V.int 2, V.int 4, V.int 9, V.int 9])) m2 = some (.lst [V.int 2, V.int 4, V.int 9, V.int 9]) := upd_same
    have offm2 : Off p m2 (upd H7 m2 (.lst [V.int 2, V.int 4, V.int 9, V.int 9])) := (Off.of pen7 fm2).kp (Kp.same s8)
    generalize upd H7 m2 (.lst [V.int 2, V.int 4, V.int 9, V.int 9]) = H8 at s8 hm8 offm2 ⊢
    refine ⟨_, rfl, p, c + 66, _, rfl, pen7.same s8, by decide, by decide, fun r4 H9 a4 b4 pen9 k9 => ?_⟩
    obtain ⟨n4, rfl⟩ := Int.eq_ofNat_of_zero_le a4
    obtain ⟨ms, ms1, ms9, ems⟩ : ∃ ms : Int, 2 ≤ ms ∧ ms ≤ 9 ∧ ([V.int 2, V.int 4, V.int 9, V.int 9] : List V)[n4]? = some (V.int ms) := by
      match n4, b4 with
      | 0, _ => exact ⟨2, by omega, by omega, rfl⟩
      | 1, _ => exact ⟨4, by omega, by omega, rfl⟩
      | 2, _ => exact ⟨9, by omega, by omega, rfl⟩
      | 3, _ => exact ⟨9, by omega, by omega, rfl⟩
      | k + 4, hk => exact absurd hk (by omega)
    refine ⟨m2, _, _, _, rfl, rfl, SqL.of (k9.1 _ _ hm8 offm2.ne), atI_nat ems, ?_⟩
    have offd9 := (offd.kp (Kp.same s8)).kp k9
    have offa9 := ((offa.kp (Kp.same s7)).kp (Kp.same s8)).kp k9
    have hd9 := k9.1 _ _ (s8 _ _ hd7) (offd.kp (Kp.same s8)).ne
    have hfa9 := k9.1 _ _ (s8 _ _ (s7 _ _ hfa)) ((offa.kp (Kp.same s7)).kp (Kp.same s8)).ne
    have off9 := (((off5.kp (Kp.same s6)).kp (Kp.same s7)).kp (Kp.same s8)).kp k9
    have ho9 := k9.1 _ _ (s8 _ _ (s7 _ _ (s6 _ _ ho5))) ((((off5.kp (Kp.same s6)).kp (Kp.same s7)).kp (Kp.same s8))).ne
    have k19 : Kp p H1 H9 := (((k15.trans (Kp.same s6)).trans (Kp.same s7)).trans (Kp.same s8)).trans k9
    have nod : o ≠ d := ne_of_none (s6 _ _ ho5) fd
    have fd0 : H1 d = none := by
      cases q : H1 d with
      | none => rfl
      | some u =>
        have z := ((k15.trans (Kp.same s6)).1 _ _ q (fun z => (pen_some (pen5.same s6)) (z ▸ fd)))
        rw [fd] at z
        cases z
    refine ⟨_, _, _, rfl, ?_⟩
    have hms9 : ms < 1073741824 := by omega
    refine ⟨_, rfl, o, rfl, ⟨_, SqL.of ho9⟩, for_list (K := K) (xs := Z.map V.str) (fun i σ H' => ∃ (v6 v7 : Option V) (L : List Str) (g : Str → Int), σ = [some (.ref p), some (.ref o), some (.int (m : Int)), some (.ref fa), some (.ref d), some (.int ms), v6, v7] ∧ H' d = some (.dK (idK L g)) ∧ L.length ≤ i ∧ (∀ x ∈ L, x ∈ Z) ∧ (∀ x ∈ L, 0 ≤ g x ∧ g x ≤ 9) ∧
      Pen H' p (c + 65 - 4 * i) ∧ Kp p H1 H' ∧ Off p d H' ∧ Off p o H' ∧ H' o = some (.lst (Z.map V.str)) ∧ Off p fa H' ∧ H' fa = some (.lst ((Z.take m).map V.str))) ?_ ?_ ?_ ?_⟩
    · exact ⟨_, _, [], fun _ => 0, rfl, hd9, Nat.le_refl _, by simp, by simp, pen9.weak (by omega), k19, offd9, off9, ho9, offa9, hfa9⟩
    · rintro i σ H' _ ⟨_, _, _, _, _, _, _, _, _, _, _, _, _, q, _⟩
      exact SqL.of q
    · rintro i v σ H' hv ⟨v6, v7, L, g, rfl, hd, ll, lz', gv, pen', k', od, oo, ho', oa, ha'⟩
      obtain ⟨x, hx, rfl⟩ : ∃ x, Z[i]? = some x ∧ v = .str x := by
        rw [List.getElem?_map] at hv
        obtain ⟨x, hx, e⟩ := Option.map_eq_some_iff.mp hv
        exact ⟨x, hx, e.symm⟩
      have i12 : i < 12 := by rw [← hFl]; exact (List.getElem?_eq_some_iff.mp hx).1
      refine ⟨_, rfl, p, c + 65 - 4 * i - 1, _, rfl, pen'.weak (by omega), by decide, by decide, fun q1 G1 u1 w1 pn1 kk1 => ?_⟩
      obtain ⟨lot, rfl⟩ := Int.eq_ofNat_of_zero_le u1
      have hd1 := kk1.1 _ _ hd od.ne
      have od1 := od.kp kk1
      have ho1 := kk1.1 _ _ ho' oo.ne
      have oo1 := oo.kp kk1
      have ha1 := kk1.1 _ _ ha' oa.ne
      have oa1 := oa.kp kk1
      have kt1 := k'.trans kk1
      refine ⟨_, rfl, _, _, rfl, rfl, _, rfl, ?_⟩
      refine ite2 (fun c1 => ?_) (fun c1 => ?_)
      · have l0 : 0 < lot := by
          have := of_decide_eq_true c1
          omega
        refine ⟨_, rfl, _, rfl, p, c + 65 - 4 * i - 2, _, rfl, pn1.weak (by omega), by omega, hms9, fun q2 G2 u2 w2 pn2 kk2 => ?_⟩
        refine ⟨_, _, rfl, rfl, ?_⟩
        refine ⟨_, rfl, _, rfl, _, _, rfl, rfl, p, c + 65 - 4 * i - 3, _, rfl, pn2.weak (by omega), by omega, by omega, fun q3 G3 u3 w3 pn3 kk3 => ?_⟩
        refine ⟨_, rfl, p, c + 65 - 4 * i - 4, _, rfl, pn3.weak (by omega), by decide, by decide, fun q4 G4 u4 w4 pn4 kk4 => ?_⟩
        refine ⟨_, _, rfl, rfl, ?_⟩
        refine ⟨by show 4 ≤ sizeLine; decide, fun e fe => ?_⟩
        have se := same_new (o := .lst [V.int 0, V.int (1 + q2), V.int q3, V.int (1 + q4)]) fe
        have he : (upd G4 e (.lst [V.int 0, V.int (1 + q2), V.int q3, V.int (1 + q4)])) e = some (.lst [V.int 0, V.int (1 + q2), V.int q3, V.int (1 + q4)]) := upd_same
        have pn5 := pn4.same se
        have kk5 := ((kk2.trans kk3).trans kk4).trans (Kp.same se)
        generalize upd G4 e (.lst [V.int 0, V.int (1 + q2), V.int q3, V.int (1 + q4)]) = G5 at se he pn5 kk5 ⊢
        obtain ⟨y, y0, y9, ey⟩ : ∃ y : Int, 0 ≤ y ∧ y ≤ 9 ∧ ([V.int 0, V.int (1 + q2), V.int q3, V.int (1 + q4)] : List V)[lot - 1]? = some (V.int y) := by
          match lot, l0, w1 with
          | 1, _, _ => exact ⟨0, by omega, by omega, rfl⟩
          | 2, _, _ => exact ⟨1 + q2, by omega, by omega, rfl⟩
          | 3, _, _ => exact ⟨q3, by omega, by omega, rfl⟩
          | 4, _, _ => exact ⟨1 + q4, by omega, by omega, rfl⟩
          | k + 5, _, hk => exact absurd hk (by omega)
        have hd5 := kk5.1 _ _ hd1 od1.ne
        have od5 := od1.kp kk5
        have el : (lot : Int) - 1 = ((lot - 1 : Nat) : Int) := by omega
        have ea : atI ([V.int 0, V.int (1 + q2), V.int q3, V.int (1 + q4)] : List V) ((lot : Int) - 1) = some (V.int y) := by rw [el]; exact atI_nat ey
        refine ⟨_, rfl, _, _, rfl, rfl, e, _, _, _, rfl, rfl, SqL.of he, ea, ?_⟩
        refine ⟨_, rfl, _, rfl, d, _, rfl, DPut.k (k := Sum.inr x) hd5 ?_, ?_⟩
        · rw [List.length_map]
          exact Nat.lt_of_lt_of_le (by omega : L.length < 64) (by decide)
        rw [id_put]
        have nod : o ≠ d := fun z => by rw [z, hd] at ho'; cases ho'
        have nad : fa ≠ d := fun z => by rw [z, hd] at ha'; cases ha'
        have opd : p ≠ d := fun z => od.ne z.symm
        refine ⟨_, _, addI L x, setI g x y, rfl, upd_same, ?_, ?_, ?_, (pn5.put od5).weak (by omega), (kt1.trans kk5).new fd0, od5.put opd, ?_, ?_, ?_, ?_⟩
        · have := addI_len L x
          omega
        · intro z hz
          rcases addI_sub hz with h | rfl
          · exact lz' z h
          · exact List.mem_of_getElem? hx
        · intro z hz
          unfold setI
          by_cases ez : z = x
          · rw [if_pos ez]
            exact ⟨y0, y9⟩
          · rw [if_neg ez]
            exact gv z ((addI_sub hz).elim id fun h => absurd h ez)
        · exact (oo1.kp kk5).put opd
        · rw [upd_ne nod]
          exact kk5.1 _ _ ho1 oo1.ne
        · exact (oa1.kp kk5).put opd
        · rw [upd_ne nad]
          exact kk5.1 _ _ ha1 oa1.ne
      · exact ⟨_, _, L, g, rfl, hd1, by omega, lz', gv, pn1.weak (by omega), kt1, od1, oo1, ho1, oa1, ha1⟩
    · rintro σ H' ⟨v6, v7, L, g, rfl, hd, ll, lz', gv, pen', k', od, oo, ho', oa, ha'⟩
      rw [List.length_map, hFl] at ll pen'
      refine ⟨_, rfl, _, rfl, by show 2 ≤ sizeLine; decide, fun t ft => ?_⟩
      have st := same_new (o := .tup [.ref fa, .ref d]) ft
      refine hQ t fa d (Z.take m) L g _ ⟨?_, ?_, ?_, by omega, fun x hx => hFk x (lz' x hx), gv⟩ (by omega) ((pen'.same st).weak (by omega)) ((k1.trans k').trans (Kp.same st)) upd_same (st _ _ ha') (st _ _ hd) (oa.kp (Kp.same st)) (od.kp (Kp.same st))
      · rw [List.length_take]
        omega
      · exact hFn.sublist (List.take_sublist _ _)
      · exact fun x hx => hFk x (List.mem_of_mem_take hx)
end
end K16
set_option Elab.async false
set_option linter.all false
set_option maxRecDepth 100000
set_option maxHeartbeats 4000000
namespace K16
open PySem PySem.Spec PyProof.Rows L2
open C8 (Cal Mak Met pe_c pe_mk pe_mt pe_mt0)
open LamX (Tabs ExtN TabB)
open THI (SN)
open RPO TXL
open EXV (Xc)
open EXW (Dct)
open KW1 (dscI)
open KM (pr Sz)
theorem Pen.sn {H H' : Hp} {p : Addr} {c : Nat} (x : Pen H p c) (s : SN H H') : Pen H' p c := by
  obtain ⟨l, ns, n, m, h1, h2, h3⟩ := x
  exact ⟨l, ns, n, m, s.lst h1, s.lst h2, h3⟩
theorem Off.sn {H H' : Hp} {p D : Addr} (x : Off p D H) (s : SN H H') : Off p D H' := by
  obtain ⟨l, n, m, h1, h2⟩ := x
  exact ⟨l, n, m, s.lst h1, h2⟩
theorem tabs_dK {T : List (Addr × Str)} {H : Hp} {l : Addr} {xs ys : List (Key × V)} (t : Tabs T H) (hl : H l = some (.dK xs)) : Tabs T (upd H l (.dK ys)) := by
  intro p hp
  obtain ⟨q, hq, tq, cq⟩ := t p hp
  refine ⟨q, by rw [upd_ne (fun z => by rw [z, hl] at hq; cases hq)]; exact hq, tq, fun pos cv e => ?_⟩
  obtain ⟨c0, e1, e2⟩ := cq pos cv e
  exact ⟨c0, e1, by rw [upd_ne (fun z => by rw [z, hl] at e2; cases e2)]; exact e2⟩
theorem oneL {K : PySem.W.Frag} (d : (He.cT K ("law", none)).2 ≠ (He.cT K ("_law_right", none)).2) : ∀ p ∈ T0 K, p.1 = (He.cT K ("law", none)).2 → p.2 = (envOfC d_law.qual d_law.scope 0 0 .none).qual ++ "<lambda>" := fun p hp e => by
  rcases List.mem_cons.mp hp with q | q
  · rw [q] at e
    exact absurd e.symm d
  · rw [List.mem_singleton.mp q]
theorem find_nd {ws : List Wt} (nd : (ws.map (·.1)).Nodup) {w : Wt} (h : w ∈ ws) : ws.find? (fun v => decide (v.1 = w.1)) = some w := by
  induction ws with
  | nil => exact nomatch h
  | cons v ws ih =>
    obtain ⟨n1, n2⟩ := List.nodup_cons.mp nd
    rw [List.find?_cons]
    rcases List.mem_cons.mp h with rfl | h
    · simp
    · have ne : ¬ v.1 = w.1 := fun e => n1 (List.mem_map.mpr ⟨w, h, e.symm⟩)
      rw [decide_eq_false ne]
      exact ih n2 h
theorem find_no {ws : List Wt} {x : Str} (h : x ∉ ws.map (·.1)) : ws.find? (fun v => decide (v.1 = x)) = none := by
  rw [List.find?_eq_none]
  intro v hv e
  exact h (List.mem_map.mpr ⟨v, hv, of_decide_eq_true e⟩)
def adW (ws : List Wt) (x : Str) : Addr := match ws.find? (fun v => decide (v.1 = x)) with
  | some w => w.2.1
  | none => 0
def qW (ws : List Wt) (x : Str) : Int × Int := match ws.find? (fun v => decide (v.1 = x)) with
  | some w => w.2.2
  | none => (0, 1)
theorem wf_of {H : Hp} {o : Addr} {ws : List Wt} (ho : H o = some (.dK (kvW ws))) (wk : Wk H ws) (l : ws.length ≤ 20) (nm : ∀ w ∈ ws, Nm w.1) : WF H o (ws.map (·.1)) (adW ws) (qW ws) ∧ Wq (qW ws) := by
  have ea : ∀ w ∈ ws, adW ws w.1 = w.2.1 ∧ qW ws w.1 = w.2.2 := fun w hw => by
    unfold adW qW
    rw [find_nd wk.nd hw]
    exact ⟨rfl, rfl⟩
  have eq0 : ∀ x, x ∉ ws.map (·.1) → qW ws x = (0, 1) := fun x hx => by
    unfold qW
    rw [find_no hx]
  refine ⟨⟨?_, fun x hx => ?_, eq0, wk.nd, by rw [List.length_map]; exact l, fun x hx => ?_⟩, ⟨fun x => ?_, fun x => ?_⟩⟩
  · rw [ho]
    unfold kvW
    rw [List.map_map]
    congr 2
    exact List.map_congr_left fun w hw => by
      show _ = ((Sum.inr w.1 : Key), V.ref (adW ws w.1))
      rw [(ea w hw).1]
  · obtain ⟨w, hw, rfl⟩ := List.mem_map.mp hx
    rw [(ea w hw).1, (ea w hw).2]
    exact wk.tp w hw
  · obtain ⟨w, hw, rfl⟩ := List.mem_map.mp hx
    exact nm w hw
  · by_cases hx : x ∈ ws.map (·.1)
    · obtain ⟨w, hw, rfl⟩ := List.mem_map.mp hx
      rw [(ea w hw).2]
      exact wk.bt w hw
    · rw [eq0 x hx]
      decide
  · by_cases hx : x ∈ ws.map (·.1)
    · obtain ⟨w, hw, rfl⟩ := List.mem_map.mp hx
      rw [(ea w hw).2]
      exact wk.bb w hw
    · rw [eq0 x hx]
      decide
theorem nm_ok {x : Str} (h : Nm x) : PyData.strOk x = true := by
  obtain ⟨z, hz, rfl⟩ := h
  unfold PyData.strOk
  rw [← Array.all_toList, List.all_eq_true]
  intro c hc
  have := hz.2.2 c hc
  exact decide_eq_true (by omega)
theorem pick16 {F : List Str} {i : Int} (i0 : 0 ≤ i) (i1 : i < (F.length : Int)) : ∃ x ∈ F, atI (F.map V.str) i = some (.str x) := by
  obtain ⟨j, rfl⟩ := Int.eq_ofNat_of_zero_le i0
  have hj : j < F.length := by omega
  exact ⟨F[j], List.getElem_mem hj, atI_nat (j := j) (by rw [List.getElem?_map, List.getElem?_eq_getElem hj]; rfl)⟩
theorem addI_nd {L : List Str} {x : Str} (h : L.Nodup) : (addI L x).Nodup := by
  unfold addI
  split
  · exact h
  · rename_i n
    rw [List.nodup_append]
    exact ⟨h, by simp, fun a ha b hb e => by
      rw [List.mem_singleton] at hb
      subst hb
      exact n (e ▸ ha)⟩
theorem put_ref {L : List Str} {ad : Str → Addr} {x : Str} {t : Addr} : putK (L.map fun y => ((Sum.inr y : Key), V.ref (ad y))) (Sum.inr x) (.ref t) = (addI L x).map fun y => ((Sum.inr y : Key), V.ref (if y = x then t else ad y)) := by
  unfold addI
  split
  · rename_i h
    rw [DQ.put_old (fun y => V.ref (ad y)) h]
    exact List.map_congr_left fun y _ => by by_cases e : y = x <;> simp [e]
  · rename_i h
    have e1 : (L.map fun y => ((Sum.inr y : Key), V.ref (ad y))) = L.map fun y => ((Sum.inr y : Key), V.ref (if y = x then t else ad y)) := List.map_congr_left fun y hy => by rw [if_neg (show ¬ y = x from fun e => h (e ▸ hy))]
    rw [e1]
    have e2 := DQ.put_new (fun y => V.ref (if y = x then t else ad y)) h
    rw [if_pos rfl] at e2
    exact e2
theorem WF.put {H : Hp} {d u : Addr} {ks : List Str} {ad : Str → Addr} {q : Str → Int × Int} {x : Str} {t b : Int} (h : WF H d ks ad q) (hu : H u = some (.tup [.int t, .int b])) (nx : Nm x) (l : ks.length ≤ 19) :
    WF (upd H d (.dK (putK (ks.map fun y => ((Sum.inr y : Key), V.ref (ad y))) (Sum.inr x) (.ref u)))) d (addI ks x) (fun y => if y = x then u else ad y) (fun y => if y = x then (t, b) else q y) := by
  have kt : ∀ c ys, H c = some (.tup ys) → (upd H d (.dK (putK (ks.map fun y => ((Sum.inr y : Key), V.ref (ad y))) (Sum.inr x) (.ref u)))) c = some (.tup ys) := fun c ys e => by rw [upd_ne (ne_of e h.at_ (by intro z; cases z))]; exact e
  refine ⟨by rw [upd_same, put_ref], fun y hy => ?_, fun y hy => ?_, addI_nd h.nd, Nat.le_trans (addI_len ks x) (by omega), fun y hy => ?_⟩
  · by_cases e : y = x
    · simp only [e, if_true]
      exact kt _ _ hu
    · simp only [e, if_false]
      exact kt _ _ (h.tp y ((addI_sub hy).resolve_right e))
  · have n1 : ¬ y = x := fun e => hy (by
      rw [e]
      unfold addI
      split
      · assumption
      · simp)
    have n2 : y ∉ ks := fun z => hy (by
      unfold addI
      split
      · exact z
      · exact List.mem_append_left _ z)
    simp only [n1, if_false]
    exact h.no y n2
  · rcases addI_sub hy with z | z
    · exact h.nm y z
    · rw [z]
      exact nx
theorem Fk.put {F L : List Str} {g : Str → Int} {x : Str} {v : Int} (k : Fk F L g) (l : L.length ≤ 19) (hx : Nm x) (v0 : 0 ≤ v) (v9 : v ≤ 9) : Fk F (addI L x) (setI g x v) := by
  refine ⟨k.fl, k.nd, k.fn, Nat.le_trans (addI_len L x) (by omega), fun y hy => ?_, fun y hy => ?_⟩
  · rcases addI_sub hy with z | z
    · exact k.ln y z
    · rw [z]
      exact hx
  · unfold setI
    split
    · exact ⟨v0, v9⟩
    · rename_i n
      exact k.gv y ((addI_sub hy).resolve_right n)
def q0 : Str → Int × Int := fun _ => (0, 1)
theorem wq0 : Wq q0 := ⟨fun _ => ⟨by show (-4 : Int) ≤ 0; decide, by show (0 : Int) ≤ 4; decide⟩, fun _ => ⟨by show (1 : Int) ≤ 1; decide, by show (1 : Int) ≤ 60; decide⟩⟩
theorem rq0 (x : Str) : rq q0 x = 0 := by
  show Rat.divInt 0 1 = 0
  rfl
theorem WF.kp {H H' : Hp} {p d : Addr} {c : Nat} {ks : List Str} {ad : Str → Addr} {q : Str → Int × Int} (h : WF H d ks ad q) (k : Kp p H H') (pn : Pen H p c) (o : Off p d H) : WF H' d ks ad q :=
  ⟨k.1 _ _ h.at_ o.ne, fun x hx => k.1 _ _ (h.tp x hx) (fun z => by
    obtain ⟨l, ns, n, m, e, _⟩ := pn
    have := h.tp x hx
    rw [z, e] at this
    cases this), h.no, h.nd, h.l12, h.nm⟩
section
variable {P : Program} {w : World} {K : PySem.W.Frag} {mg : Str → Option Value} {base : Heap} {N C fM fG : Addr} {fd fdM fdG : FuncData} {owN : Str → Bool} {abN : String → Bool} {its : List Value}
def spLaw (K : PySem.W.Frag) : Sp := fun vs H Q _ => ∃ (a : Addr) (ns : List Int), vs = [.ref a] ∧ SqL K H a (ns.map V.int) ∧ ns.length ≤ 63 ∧ Tabs (T0 K) H ∧ ∀ H', Q (.bl true) H'
theorem ok_law (Fl : Dn K d_law (He.fAd K ("law", none)) fd) (b : Bl mg) (b2 : B2 mg) (TB : TabB base mg (He.cT K ("law", none)).1 (He.cT K ("law", none)).2) (dT : (He.cT K ("law", none)).2 ≠ (He.cT K ("_law_right", none)).2)
    (cP : Cal P w K mg base 1 "_law_pen" (spPen K) []) (cD : Cal P w K mg base 1 "_law_draw" spDraw []) (cDr : Cal P w K mg base 3 "_law_drawn" spDr []) (cWo : Cal P w K mg base 2 "_law_worths" spWo []) (cDu : Cal P w K mg base 3 "_law_due" spDu []) (cR : GL.CalG P w K mg base 10 "_law_right" (spRt K) [])
    (cWd : Cal P w K mg base 1 "_law_word" (spWdA K mg) []) (cFd : Cal P w K mg base 1 "_law_field" (spFdA K mg) [])
    (FM : FnOk P w K mg base (L2.CX P w) 5 fM fdM ["riders", "seats", "standing"] (spCho C N)) (gM : mg "choose" = some (.ref fM)) (kM : PySem.W.keepIn K (.ref fM) = true) (bM : Binds K fdM ["riders", "seats", "standing"] []) (hM : KBn K fdM ["riders", "seats", "standing"] 0 ["seats", "riders"] (fun us ws => us ++ ws.reverse ++ its) (fun vs zs => vs ++ zs.reverse ++ [V.non]))
    (FGt : Dn K d_l_got fG fdG) (gG : mg "_law_got" = some (.ref fG)) (kG : PySem.W.keepIn K (.ref fG) = true) (bG : Binds K fdG ["_law_deed"] [])
    (gl : ∀ x ∈ ex16, mg x = some (.ref (He.ga K x))) (TE : Ex K mg N owN abN) (TM : Exm K N owN) (TW : WordOk owN abN "seats") (tc : cl10.any owN = true) (tf : fldOf owN = some "lack") (xf : XfC K N) (nt : PySem.W.findIn K (.ref N) "lack" = some none) :
    GL.FnG P w K mg base 11 (He.fAd K ("law", none)) fd ["_law_script"] (spLaw K) := by
  refine GL.okGT Fl sc_law (fun vs H Q E h => ?_) (fun A outer s H vs Q E hgd hr h => ?_)
  · obtain ⟨a, ns, rfl, _⟩ := h
    rfl
  · obtain ⟨s0, ns, rfl, hS, hlen, tabs, hQ⟩ := h
    obtain ⟨ocG, odG, dVG, kVG, docG, pmG, anG, cdvG, ctG, oslG, rfl, lkG, hcG, _, _⟩ := FGt.ex
    have hu := hu_of hr
    have hgd2 : (A.deeper (envOfC d_law.qual d_law.scope s.heap.objs.size (He.fAd K ("law", none)) (.ref (He.cT K ("law", none)).1))).guards = some [] := hgd
    have hu64 : (A.deeper (envOfC d_law.qual d_law.scope s.heap.objs.size (He.fAd K ("law", none)) (.ref (He.cT K ("law", none)).1))).units + 64 < cLine := by have := hr.un; omega
    refine ⟨_, PSs.nox (pss_cons (ps_set (i := 1) sc_law.nd rfl (.inl rfl) (pe_c cP hr (by decide) rfl (pa_cons (pv 0) pa_nil)))
      (pss_cons (ps_for PassesOwn.never rfl (pi_range1 rfl b.range (pa_cons pe_int pa_nil)) (pg_name (i := 2) sc_law.nd rfl (.inl rfl))
        (pss_cons (ps_asg (pe_c cDr hr (by decide) rfl (pa_cons (pv 1) pa_nil)) (pg_tup rfl (pgs_cons (pg_name (i := 7) sc_law.nd rfl (.inr rfl)) (pgs_cons (pg_name (i := 8) sc_law.nd rfl (.inr rfl)) pgs_nil))))
        (pss_cons (ps_set (i := 3) sc_law.nd rfl (.inl rfl) (pe_c cWo hr (by decide) rfl (pa_cons (pv 1) (pa_cons (pv 7) pa_nil))))
        (C8.pss_cut (ps_set (i := 4) sc_law.nd rfl (.inl rfl) (pe_callB (RPO.call_reprT (n := 5) hgd2 (hr.mono (by decide))) rfl b2.rep boot_repr (pa_cons (pe_c cDu hr (by decide) rfl (pa_cons (pv 7) (pa_cons (pv 8) (pa_cons pe_dnewK pa_nil)))) pa_nil)))
        (pss_cons (ps_for PassesOwn.never rfl (pi_tup (pe_tup (pa_cons pe_non (pa_cons pe_dnewK pa_nil)))) (pg_name (i := 9) sc_law.nd rfl (.inr rfl))
          (pss_one (ps_if (pt_cmpR op_ne (pe_callB (RPO.call_reprT (n := 5) hgd2 (hr.mono (by decide))) rfl b2.rep boot_repr (pa_cons (LMS.pe_lamS (T := T0 K) (k := 5) rfl gG kG lkG hcG bG sc_l_got rfl (.inl rfl) (got_gives gl (hr.mono (by decide)) cWd cFd) TB rfl (List.mem_cons_of_mem _ (List.mem_singleton.mpr rfl)) (oneL dT) (hr.mono (by decide)) (LamX.lamS_by (sc := d_law.scope) (by decide +kernel)) rfl (fun _ _ _ _ _ => rfl)
              (fun A' outer' s1 H1 E' lf lc r => pe_callS (E := fun σ cls d H => E' cls d H) FM r rfl gM kM bM (fun σ => passAt (takes_of rfl rfl rfl rfl) σ) (pa_cons (pv 7) (pa_cons (pv 8) (pa_cons (pv 9) pa_nil))))) pa_nil)) (pv 4) (nomark _)) pss_never pss_nil)))
        (pss_cons (ps_if (PW.pt (pw_or (pt_cmpR op_ne (pe_callB (RPO.call_reprT (n := 5) hgd2 (hr.mono (by decide))) rfl b2.rep boot_repr (pa_cons (LMS.pe_lamS (T := T0 K) (k := 5) rfl gG kG lkG hcG bG sc_l_got rfl (.inl rfl) (got_gives gl (hr.mono (by decide)) cWd cFd) TB rfl (List.mem_cons_of_mem _ (List.mem_singleton.mpr rfl)) (oneL dT) (hr.mono (by decide)) (LamX.lamS_by (sc := d_law.scope) (by decide +kernel)) rfl (fun _ _ _ _ _ => rfl)
              (fun A' outer' s1 H1 E' lf lc r => GL.pe_cKX (E := E') FM r rfl gM kM hM (passes_call (takes_of rfl rfl rfl rfl) fun _ _ _ _ h => h) (pk_cons (pv 8) (pk_cons (pv 7) pk_nil)))) pa_nil)) (pv 4) (nomark _))
            (pw_or1 (pt_not (pt_val (GL.pe_cG cR hgd2 hr (by decide) rfl (pa_cons (pv 7) (pa_cons (pv 8) (pa_cons (pv 3) pa_nil))))))))) pss_never pss_nil)
        (pss_one (ps_if (pt_cmpR (op_neD hu64) (pv 7) (pe_lst pa_nil) (nomark _))
          (pss_cons (ps_par (i := 5) (j := 6) rfl sc_law.nd rfl rfl (by decide) rfl rfl (pa_cons (pe_ix (r := rIxL K) ix_list (pv 7) (pe_c cD hr (by decide) rfl (pa_cons (pv 1) (pa_cons (pe_callB call_len_seq rfl b.len boot_len (pa_cons (pv 7) pa_nil)) pa_nil))) (fun _ _ => rfl))
            (pa_cons (pe_ix (r := rIxL K) ix_list (pv 7) (pe_c cD hr (by decide) rfl (pa_cons (pv 1) (pa_cons (pe_callB call_len_seq rfl b.len boot_len (pa_cons (pv 7) pa_nil)) pa_nil))) (fun _ _ => rfl)) pa_nil)) rfl)
          (pss_cons (ps_dput hu (pv 3) (pv 5) (pe_tup (pa_cons (pe_op op_sub (pe_c cD hr (by decide) rfl (pa_cons (pv 1) (pa_cons pe_int pa_nil))) pe_int) (pa_cons (pe_op op_add pe_int (pe_c cD hr (by decide) rfl (pa_cons (pv 1) (pa_cons pe_int pa_nil)))) pa_nil))) rfl)
          (pss_cons (ps_dput hu (pv 8) (pv 6) (pe_c cD hr (by decide) rfl (pa_cons (pv 1) (pa_cons pe_int pa_nil))) rfl)
          (pss_one (ps_if (pt_not (pt_val (GL.pe_cG cR hgd2 hr (by decide) rfl (pa_cons (pv 7) (pa_cons (pv 8) (pa_cons (pv 3) pa_nil)))))) pss_never pss_nil))))) pss_nil))))))))
      (pss_one (ps_ret pe_bl)))), ?_⟩
    have nz : ∀ v : V, (!decide (v = v)) = false := fun v => by simp
    refine ⟨_, rfl, s0, ns, rfl, hS, hlen, fun p H1 s1 f1 pen1 => ?_⟩
    refine ⟨5, rfl, by decide, by decide, for_range (n := 5) (fun i σ H3 => (∃ v2 v3 v4 v5 v6 v7 v8 v9 : Option V, σ = [some (.ref s0), some (.ref p), v2, v3, v4, v5, v6, v7, v8, v9]) ∧ Pen H3 p (250 * (6 - i)) ∧ Tabs (T0 K) H3) ⟨⟨_, _, _, _, _, _, _, _, rfl⟩, pen1.weak (by decide), Tabs.ext tabs s1⟩ ?_ ?_⟩
    · rintro i σ H3 hi ⟨⟨v2, v3, v4, v5, v6, v7, v8, v9, rfl⟩, pen3, t3⟩
      refine ⟨_, rfl, p, 250 * (6 - i) - 110, rfl, pen3.weak (by omega), fun t a d F L g H4 fk l12 pen4 k4 ht ha hd oa od => ?_⟩
      have t4 := tabs_kp t3 k4 pen3
      refine ⟨t, _, rfl, SqT.of ht, rfl, _, _, rfl, _, _, rfl, rfl, ?_⟩
      refine ⟨_, rfl, _, rfl, p, a, 250 * (6 - i) - 170, F, rfl, pen4.weak (by omega), ha, oa, fk.fl, fk.nd, fun wd ws H5 pen5 k5 hwd owd fwd wk wl wn => ?_⟩
      have t5 := tabs_kp t4 k5 pen4
      have ha5 := k5.1 _ _ ha oa.ne
      have hd5 := k5.1 _ _ hd od.ne
      have oa5 := oa.kp k5
      have od5 := od.kp k5
      obtain ⟨wf, wq⟩ := wf_of hwd wk (by omega) fun w hw => fk.fn _ (wn w hw)
      have ndw : d ≠ wd := ne_of_none hd fwd
      have naw : a ≠ wd := ne_of_none ha fwd
      have wkl : (ws.map (·.1)).length ≤ 19 := by rw [List.length_map]; omega
      generalize ws.map (·.1) = ks at wf wkl
      generalize adW ws = ad at wf
      generalize qW ws = q at wf wq
      clear wk wn wl hwd ht ha hd oa od k5 pen4 t4
      refine ⟨fun σ' H' => σ' = [some (.ref s0), some (.ref p), some (.int (0 + (i : Int))), some (.ref wd), some (.str (tupleText (tA F L g (rq q0)))), v5, v6, some (.ref a), some (.ref d), v9] ∧ Same H5 H', ?_, ?_⟩
      · refine ⟨_, rfl, _, rfl, fun e fe => ?_⟩
        have se := same_new (o := .dK []) fe
        refine ⟨a, d, e, F, L, g, [], q0, rfl, fk, se _ _ ha5, se _ _ hd5, ⟨upd_same, fun x v e => (nomatch e), fun x _ => rfl⟩, wq0, fun lc t H' s' ht => ?_, fun lc t o Z H' s' ht ho pm pw => ?_⟩
        · obtain ⟨vs, e1, e2⟩ := ans_rp16 (X := _) (ρ := rq q0) fk (.inr ⟨lc, ht⟩)
          exact ⟨t, vs, _, rfl, e1, e2, tA_len fk, fun H6 e6 => ⟨rfl, (se.trans s').trans e6⟩⟩
        · obtain ⟨vs, e1, e2⟩ := ans_rp16 (X := _) (ρ := rq q0) fk (.inl ⟨lc, o, ht, by rw [zr_eq pm pw]; exact ho⟩)
          exact ⟨t, vs, _, rfl, e1, e2, tA_len fk, fun H6 e6 => ⟨rfl, (se.trans s').trans e6⟩⟩
      rintro σ' H6 ⟨rfl, s56⟩
      have ha6 := s56 _ _ ha5
      have hd6 := s56 _ _ hd5
      have fin : ∀ {H' : Hp} {E' : XK} {Q' : VK} {RR : Addr → Hp → Prop} {st : V}, SN H6 H' → Tabs (T0 K) H' → StV C H' st (rq q0) → (∀ cls d H'' (wd : Str) (v : V), RefAt K mg cls d H'' wd v → (∀ t H2, Same H'' H2 → H'' t = none → H2 t = some (.tup [.str wd, v]) → RR t H2) → E' cls d H'') →
          (∀ v H'', (∀ t H2, Same H'' H2 → H'' t = none → H2 t = some (.tup [.str "told", v]) → RR t H2) → Q' v H'') →
          (∀ t H2, SN H' H2 → Tabs (T0 K) H2 → Ans H2 t F L g (rq q0) → RR t H2) → spCho C N [.ref a, .ref d, st] H' Q' E' := fun {H' E' Q' RR st} sg tb hst hE hT hQ' => by
        refine ⟨a, d, st, F, L, g, rq q0, 1, rfl, fk, sg.lst ha6, sg.dK hd6, hst, fun x => by rw [rq0]; exact ⟨by decide, by decide⟩, by decide, by decide, fun k0 dx H'' s' fdx hdx => ?_, fun k0 o Z H'' s' fo pm pw ho => ?_⟩
        · refine hE _ _ _ "seats" (.int (lac F L g)) ⟨N, owN, abN, rfl, TE, TM, TW, .inl tc, .inr ⟨dx, _, rfl, hdx⟩, ⟨fun f0 ef => ?_, fun e => ?_⟩⟩ fun t H2 s2 ft ht => hQ' t H2 (SN.of (s'.trans s2)) (tb.ext (s'.trans s2)) (.inr ⟨k0, ht⟩)
          · rw [tf] at ef
            cases ef
            exact ⟨dx, _, rfl, hdx, xf, nt, rfl⟩
          · rw [tf] at e
            cases e
        · exact hT _ _ fun t H2 s2 ft ht => hQ' t H2 (SN.of (s'.trans s2)) (tb.ext (s'.trans s2)) (.inl ⟨k0, o, ht, by rw [zr_eq pm pw]; exact s2 _ _ ho⟩)
      -- without credits
      intro e fe
      have se := same_new (o := .dK []) fe
      refine ⟨by show 2 ≤ sizeLine; decide, fun u fu => ?_⟩
      have su := same_new (o := .tup [.non, .ref e]) fu
      have he : (upd (upd H6 e (.dK [])) u (.tup [.non, .ref e])) e = some (.dK []) := su _ _ upd_same
      have hu8 : (upd (upd H6 e (.dK [])) u (.tup [.non, .ref e])) u = some (.tup [.non, .ref e]) := upd_same
      have s68 := se.trans su
      generalize upd (upd H6 e (.dK [])) u (.tup [.non, .ref e]) = H8 at he hu8 s68
      have t8 := (t5.ext s56).ext s68
      refine ⟨u, rfl, ⟨_, SqT.of hu8⟩, for_tup (K := K) (xs := [.non, .ref e]) (fun j σ H' => ∃ v9 : Option V, σ = [some (.ref s0), some (.ref p), some (.int (0 + (i : Int))), some (.ref wd), some (.str (tupleText (tA F L g (rq q0)))), v5, v6, some (.ref a), some (.ref d), v9] ∧ SN H8 H' ∧ Tabs (T0 K) H')
        ⟨_, rfl, SN.of (Same.refl _), t8⟩ (fun j σ H' _ z => by obtain ⟨_, _, z, _⟩ := z; exact SqT.of (z.tup hu8)) ?_ ?_⟩
      · rintro j v σ Hj hj ⟨v9', rfl, sj, tj⟩
        have hv : v = .non ∨ v = .ref e := by
          have := List.mem_of_getElem? hj
          simpa using this
        have hst : ∀ {Hx : Hp}, SN H8 Hx → StV C Hx v (rq q0) := fun {Hx} s => by
          rcases hv with rfl | rfl
          · exact .inr ⟨rfl, fun x => rq0 x⟩
          · exact .inl ⟨e, [], rfl, s.dK he, fun x v e => (nomatch e), fun x _ => rq0 x⟩
        refine ⟨tj, fun G5 e5 t5 => fun H1' E' Q' sH hE' hT' => ?_⟩
        have g5 : SN H8 H1' := SN.trans (SN.trans sj (snE e5)) (SN.of sH)
        refine ⟨_, rfl, _, rfl, _, rfl, fin (E' := E') (Q' := Q') (SN.up s68 g5) (t5.ext sH) (hst g5) hE' hT' fun t' H9 g9 t9 an9 => ?_⟩
        obtain ⟨vs9, e91, e92⟩ := ans_rp16 (X := _) fk an9
        refine ⟨t', vs9, _, rfl, e91, e92, tA_len fk, fun G9 e9 => ?_⟩
        refine ⟨_, rfl, rfl, _, rfl, ?_⟩
        rw [nz]
        exact iteF ⟨_, rfl, SN.trans (SN.trans g5 g9) (SN.of e9), t9.ext e9⟩
      rintro σ' H9 ⟨v9', rfl, s89, t9⟩
      -- by names
      refine ⟨t9, fun G5 e5 t5 => fun H1' E' Q' sH hE' hT' => ?_⟩
      have g5 : SN H8 H1' := SN.trans (SN.trans s89 (snE e5)) (SN.of sH)
      refine ⟨_, rfl, _, rfl, rfl, fin (E' := E') (Q' := Q') (SN.up s68 g5) (t5.ext sH) (.inr ⟨rfl, fun x => rq0 x⟩) hE' hT' fun t' H10 g10 t10 an10 => ?_⟩
      obtain ⟨vs10, e101, e102⟩ := ans_rp16 (X := _) fk an10
      refine ⟨t', vs10, _, rfl, e101, e102, tA_len fk, fun G10 e10 => ?_⟩
      refine ⟨_, rfl, rfl, _, rfl, ?_⟩
      rw [nz]
      refine iteF ?_
      have s510 : SN H5 G10 := SN.up (s56.trans s68) (SN.trans (SN.trans g5 g10) (SN.of e10))
      have t10' := t10.ext e10
      -- right
      refine ⟨_, rfl, _, rfl, _, rfl, a, d, wd, F, L, ks, g, ad, q, rfl, fk, s510.lst ha5, s510.dK hd5, wf.sn s510, wq, t10', fun H11 s1011 t11 => ?_⟩
      have s511 := SN.trans s510 s1011
      refine ⟨_, rfl, iteF ?_⟩
      have ha11 := s511.lst ha5
      have hd11 := s511.dK hd5
      have wf11 := wf.sn s511
      have pen11 := pen5.sn s511
      have oa11 := oa5.sn s511
      have od11 := od5.sn s511
      have ow11 := owd.sn s511
      clear fin t8 t9 s89 g5 s510 t10' s511 s1011 wf ha6 hd6 s56 s68 he hu8
      -- one put otherwise
      refine ⟨_, rfl, by show 0 ≤ sizeLine; decide, fun e2 fe2 => ?_⟩
      have se2 := same_new (o := .lst []) fe2
      refine ⟨.list (F.map .str), .list [], Dp.lst (SqL.of (se2 _ _ ha11)) (DQ.dp_strs F), Dp.lst (SqL.of upd_same) .nil, DQ.sh_strs (fun x hx => nm_ok (fk.fn x hx)), by decide, _, rfl, ?_⟩
      have ha12 := se2 _ _ ha11
      have hd12 := se2 _ _ hd11
      have wf12 := wf11.sn (SN.of se2)
      have pen12 := pen11.same se2
      have oa12 := oa11.sn (SN.of se2)
      have od12 := od11.sn (SN.of se2)
      have ow12 := ow11.sn (SN.of se2)
      have t12 := t11.ext se2
      generalize upd H11 e2 (.lst []) = H12 at ha12 hd12 wf12 pen12 oa12 od12 ow12 t12
      rw [eqv_nil]
      refine ite2 (fun cF => ?_) (fun cF => ⟨⟨_, _, _, _, _, _, _, _, rfl⟩, pen12.weak (by omega), t12⟩)
      have Fne : 0 < F.length := by
        cases F with
        | nil => exact absurd cF (by simp)
        | cons x F => exact Nat.succ_pos _
      have fl := fk.fl
      have fln : ((F.map V.str).length : Nat) = F.length := List.length_map _
      refine ⟨_, rfl, _, rfl, _, rfl, a, _, rfl, .inl (SqL.of ha12), p, 250 * (6 - i) - 171, _, rfl, pen12.weak (by omega), by rw [fln]; omega, by rw [fln]; omega, fun r1 H13 r10 r11 pen13 k13 => ?_⟩
      rw [fln] at r11
      obtain ⟨x, hxF, hx⟩ := pick16 r10 r11
      have ha13 := k13.1 _ _ ha12 oa12.ne
      refine ⟨a, _, _, _, rfl, rfl, SqL.of ha13, hx, _, rfl, _, rfl, _, rfl, a, _, rfl, .inl (SqL.of ha13), p, 250 * (6 - i) - 172, _, rfl, pen13.weak (by omega), by rw [fln]; omega, by rw [fln]; omega, fun r2 H14 r20 r21 pen14 k14 => ?_⟩
      rw [fln] at r21
      obtain ⟨y, hyF, hy⟩ := pick16 r20 r21
      have oa13 := oa12.kp k13
      have ha14 := k14.1 _ _ ha13 oa13.ne
      refine ⟨a, _, _, _, rfl, rfl, SqL.of ha14, hy, _, _, rfl, ?_⟩
      have k24 := k13.trans k14
      -- a worth
      refine ⟨_, rfl, p, 250 * (6 - i) - 173, 9, rfl, pen14.weak (by omega), by decide, by decide, fun r3 H15 r30 r31 pen15 k15 => ⟨_, _, rfl, rfl, _, rfl, p, 250 * (6 - i) - 174, 3, rfl, pen15.weak (by omega), by decide, by decide, fun r4 H16 r40 r41 pen16 k16 => ⟨_, _, rfl, rfl, by show 2 ≤ sizeLine; decide, fun u fu => ?_⟩⟩⟩
      have su := same_new (o := .tup [V.int (r3 - 4), V.int (1 + r4)]) fu
      have hu17 : (upd H16 u (.tup [V.int (r3 - 4), V.int (1 + r4)])) u = some (.tup [V.int (r3 - 4), V.int (1 + r4)]) := upd_same
      have k26 := ((k24.trans k15).trans k16).trans (Kp.same su)
      have pen17 := pen16.same su
      generalize upd H16 u (.tup [V.int (r3 - 4), V.int (1 + r4)]) = H17 at hu17 k26 pen17
      have wf17 := wf12.kp k26 pen12 ow12
      have ow17 := ow12.kp k26
      have od17 := od12.kp k26
      have oa17 := oa12.kp k26
      have ha17 := k26.1 _ _ ha12 oa12.ne
      have hd17 := k26.1 _ _ hd12 od12.ne
      have t17 := tabs_kp t12 k26 pen12
      refine ⟨_, rfl, _, rfl, wd, _, rfl, DPut.k (k := Sum.inr x) wf17.at_ (by rw [List.length_map]; exact line_lt (by omega)), ?_⟩
      have wf18 := wf17.put (x := x) hu17 (fk.fn x hxF) wkl
      have wq18 : Wq (fun y => if y = x then (r3 - 4, 1 + r4) else q y) := by
        refine ⟨fun z => ?_, fun z => ?_⟩
        · by_cases e : z = x
          · simp only [e, if_true]
            omega
          · simp only [e, if_false]
            exact wq.t z
        · by_cases e : z = x
          · simp only [e, if_true]
            omega
          · simp only [e, if_false]
            exact wq.b z
      have pwd : p ≠ wd := ow17.ne.symm
      have pd : p ≠ d := od17.ne.symm
      have ha18 : (upd H17 wd (.dK (putK (ks.map fun y => ((Sum.inr y : Key), V.ref (ad y))) (Sum.inr x) (.ref u)))) a = some (.lst (F.map V.str)) := by rw [upd_ne naw]; exact ha17
      have hd18 : (upd H17 wd (.dK (putK (ks.map fun y => ((Sum.inr y : Key), V.ref (ad y))) (Sum.inr x) (.ref u)))) d = some (.dK (idK L g)) := by rw [upd_ne ndw]; exact hd17
      have pen18 := pen17.put (o := .dK (putK (ks.map fun y => ((Sum.inr y : Key), V.ref (ad y))) (Sum.inr x) (.ref u))) ow17
      have od18 := od17.put (o := .dK (putK (ks.map fun y => ((Sum.inr y : Key), V.ref (ad y))) (Sum.inr x) (.ref u))) pwd
      have oa18 := oa17.put (o := .dK (putK (ks.map fun y => ((Sum.inr y : Key), V.ref (ad y))) (Sum.inr x) (.ref u))) pwd
      have ow18 := ow17.put (o := .dK (putK (ks.map fun y => ((Sum.inr y : Key), V.ref (ad y))) (Sum.inr x) (.ref u))) pwd
      have t18 := tabs_dK (ys := putK (ks.map fun y => ((Sum.inr y : Key), V.ref (ad y))) (Sum.inr x) (.ref u)) t17 wf17.at_
      generalize upd H17 wd (.dK (putK (ks.map fun y => ((Sum.inr y : Key), V.ref (ad y))) (Sum.inr x) (.ref u))) = H18 at wf18 ha18 hd18 pen18 od18 oa18 ow18 t18
      generalize (addI ks x) = ks2 at wf18
      generalize (fun y => if y = x then u else ad y) = ad2 at wf18
      generalize (fun y => if y = x then (r3 - 4, 1 + r4) else q y) = q2 at wf18 wq18
      -- seats
      refine ⟨_, rfl, p, 250 * (6 - i) - 175, 10, rfl, pen18.weak (by omega), by decide, by decide, fun v H19 v0 v10 pen19 k19 => ?_⟩
      have wf19 := wf18.kp k19 pen18 ow18
      have hd19 := k19.1 _ _ hd18 od18.ne
      have ha19 := k19.1 _ _ ha18 oa18.ne
      have od19 := od18.kp k19
      have t19 := tabs_kp t18 k19 pen18
      refine ⟨_, rfl, _, rfl, d, _, rfl, DPut.k (k := Sum.inr y) hd19 (by rw [List.length_map]; exact line_lt (by omega)), ?_⟩
      rw [id_put]
      have fk20 := fk.put (x := y) (v := v) (by omega) (fk.fn y hyF) v0 (by omega)
      have nad : a ≠ d := ne_of ha19 hd19 (by intro z; cases z)
      have ha20 : (upd H19 d (.dK (idK (addI L y) (setI g y v)))) a = some (.lst (F.map V.str)) := by rw [upd_ne nad]; exact ha19
      have kt : ∀ b ys, H19 b = some (.tup ys) → (upd H19 d (.dK (idK (addI L y) (setI g y v)))) b = some (.tup ys) := fun b ys e => by rw [upd_ne (ne_of e hd19 (by intro z; cases z))]; exact e
      have wf20 : WF (upd H19 d (.dK (idK (addI L y) (setI g y v)))) wd ks2 ad2 q2 := ⟨by rw [upd_ne ndw.symm]; exact wf19.at_, fun z hz => kt _ _ (wf19.tp z hz), wf19.no, wf19.nd, wf19.l12, wf19.nm⟩
      have pen20 := pen19.put (o := .dK (idK (addI L y) (setI g y v))) od19
      have t20 := tabs_dK (ys := idK (addI L y) (setI g y v)) t19 hd19
      have hd20 : (upd H19 d (.dK (idK (addI L y) (setI g y v)))) d = some (.dK (idK (addI L y) (setI g y v))) := upd_same
      generalize upd H19 d (.dK (idK (addI L y) (setI g y v))) = H20 at ha20 hd20 wf20 pen20 t20
      refine ⟨_, rfl, _, rfl, _, rfl, a, d, wd, F, _, ks2, _, ad2, q2, rfl, fk20, ha20, hd20, wf20, wq18, t20, fun H21 s21 t21 => ?_⟩
      exact ⟨_, rfl, iteF ⟨⟨_, _, _, _, _, _, _, _, rfl⟩, (pen20.sn s21).weak (by omega), t21⟩⟩
    · rintro σ H3 ⟨⟨v2, v3, v4, v5, v6, v7, v8, v9, rfl⟩, pen3, t3⟩
      exact hQ _
end
end K16
set_option Elab.async false
set_option linter.all false
set_option maxRecDepth 100000
set_option maxHeartbeats 4000000
namespace K16
open PySem PySem.Spec PyProof.Rows L2
theorem isB_ok {K : PySem.W.Frag} {C : Addr} (h : GX.isB K C = true) : PySem.W.findIn K (.ref C) "__class__" = some (some (.builtin "object.__class__")) ∧ PySem.W.specialIn K (.builtin "object.__class__") "__get__" = some (some (.builtin "getset_descriptor.__get__")) ∧ PySem.W.takesIn K (.builtin "object.__class__") = some true ∧ PySem.W.mroIn K C (.type "object") = some true := by
  unfold GX.isB at h
  simp only [Bool.and_eq_true, decide_eq_true_eq] at h
  exact ⟨He.eqO_ok h.1, He.eqO_ok h.2.1, h.2.2.1, h.2.2.2⟩
theorem exc_of {K : PySem.W.Frag} {C : Addr} (h : GX.isB K C = true) (x : XfC K C) : ExcC K C := by
  obtain ⟨a, b, c, d⟩ := isB_ok h
  exact ⟨x.ga, x.gg, x.exC, x.hdC, a, b, c, d⟩
theorem xkC_ok {K : PySem.W.Frag} {C : Addr} {bs : List Value} {nid vi ty : String} {ow : Str → Bool} {ab : String → Bool} (h : xkC K C bs nid vi ty ow ab = true) : GX.Gx K C bs nid ∧ PySem.W.findCls K (.type ty) (.type "type") "__init__" = some (.val (.builtin vi)) ∧ XfC K C ∧ ExcC K C ∧ Exm K C ow ∧
    (∀ x ∈ ex16, PySem.W.kitOne K (.ref C) (.ref (He.ga K x)) = some (ow x)) ∧ ∀ x ∈ ex7, PySem.W.kitOne K (.ref C) (.type x) = some (ab x) := by
  unfold xkC at h
  obtain ⟨h2, h⟩ := Bool.and_eq_true_iff.mp h
  obtain ⟨h3, h⟩ := Bool.and_eq_true_iff.mp h
  obtain ⟨h4, h⟩ := Bool.and_eq_true_iff.mp h
  obtain ⟨h6, h⟩ := Bool.and_eq_true_iff.mp h
  obtain ⟨h5, h⟩ := Bool.and_eq_true_iff.mp h
  obtain ⟨h7, h8⟩ := Bool.and_eq_true_iff.mp h
  exact ⟨GX.gxB_ok h2, GX.vvB_ok h3, xfB_ok h4, exc_of h6 (xfB_ok h4), fun x hx => of_decide_eq_true (List.all_eq_true.mp h5 x hx), fun x hx => of_decide_eq_true (List.all_eq_true.mp h7 x hx), fun x hx => of_decide_eq_true (List.all_eq_true.mp h8 x hx)⟩
theorem wordN : WordOk owN abN "seats" := ⟨by decide +kernel, ⟨6, by decide, by decide +kernel, fun m hm => (by
  obtain rfl | rfl | rfl | rfl | rfl | rfl : m = 0 ∨ m = 1 ∨ m = 2 ∨ m = 3 ∨ m = 4 ∨ m = 5 := by omega
  all_goals decide +kernel), by decide +kernel⟩, by decide +kernel⟩
theorem fldN : fldOf owN = some "lack" := by decide +kernel
theorem clN : cl10.any owN = true := by decide +kernel
end K16
set_option Elab.async false
set_option linter.all false
set_option maxRecDepth 100000
set_option maxHeartbeats 0
namespace K16
open PySem PySem.Spec PyProof.Rows L2
abbrev hk : PySem.W.Hook := He.hookX 6 fa fn [] tf xk
def ob (s : PySem.W.SharedT) : He.AlX := He.obsX 6 fa fn [] tf xk (HandSHeadRun.getT s)
theorem ob_eq (s : PySem.W.SharedT) : ob s = hk.obs s.abs := He.obsX_eq (HandSHeadRun.getT_eq s)
theorem glue {α β γ δ : Type} {x : Option α} {f : α → β} {g : α → γ} {h : α → δ} {b : β} {c : γ} {d : δ} (e1 : x.map f = some b) (e2 : x.map g = some c) (e3 : x.map h = some d) : x.map (fun s => (f s, g s, h s)) = some (b, c, d) := by
  cases x with
  | none => cases e1
  | some z =>
    have a1 : f z = b := Option.some.inj e1
    have a2 : g z = c := Option.some.inj e2
    have a3 : h z = d := Option.some.inj e3
    show some (f z, g z, h z) = _
    rw [a1, a2, a3]
theorem ob_z (z : PySem.W.SharedT) : ob z = ((((fa.all fun f => f.ok (Kf z)) && (fn.all fun d => d.ok (Kf z)), fn.map fun d => He.fnW (Kf z) d.at_), []), xk (Kf z) && He.tabsB (HandSHeadRun.getT z) tf (Kf z)) := by
  unfold ob He.obsX He.obsT He.obsD
  rw [List.map_nil]
theorem runO (w : World) (os : PySem.OsState) : (eN w os).map ob = some (((true, fn.map He.DefD.val), []), true) := by
  have b := runB w os
  have c := runC w os
  revert b c
  generalize eN w os = x
  intro b c
  cases x with
  | none => exact absurd b (by simp)
  | some z =>
    rw [Option.map_some] at b c ⊢
    have b := Option.some.inj b
    have c := Option.some.inj c
    rw [Prod.mk.injEq, Prod.mk.injEq] at c
    rw [ob_z, b, c.1, c.2.1, c.2.2]
    rfl
theorem run_ (w : World) : HandSHeadRun.RunEq R (PySem.W.view R.prog [45]) hk ob 8000 loose w := by
  intro os
  have q := glue (runL w os) (runS w os) (runO w os)
  unfold eN at q
  exact q
end K16
set_option Elab.async false
set_option linter.all false
set_option maxRecDepth 100000
set_option maxHeartbeats 0
namespace K16
open PySem PySem.Spec PyProof.Rows L2
open C8 (Cal Mak Met pe_c pe_mk pe_mt pe_mt0)
theorem cal_of {P : Program} {w : World} {K : PySem.W.Frag} {mg : Str → Option Value} {base : Heap} {f : Addr} {fd : FuncData} {ps : List Str} {k : Nat} {x : Str} {sp : Sp} (F : FnOk P w K mg base CX0 k f fd ps sp) (g : mg x = some (.ref f)) (kp : PySem.W.keepIn K (.ref f) = true) (b : Binds K fd ps []) : Cal P w K mg base k x sp [] :=
  ⟨f, fd, ps, [], F, g, kp, b, .nil⟩
theorem met_of {P : Program} {w : World} {K : PySem.W.Frag} {mg : Str → Option Value} {base : Heap} {f C : Addr} {fd : FuncData} {ps : List Str} {k : Nat} {m : Str} {sp : Sp} (c : Cls K C) (h : Meth K C m f) (F : FnOk P w K mg base CX0 k f fd ps sp) (b : Binds K fd ps []) : Met P w K mg base k C m sp [] :=
  ⟨f, fd, ps, [], c, h, F, b, .nil⟩
theorem facts {P : Program} {w : World} {K : PySem.W.Frag} {h h0 : Heap} {mg : Str → Option Value} {f : Addr} (X : K.In h) (G : h.Ns mainGlobals mg) (hfa : mg ("law" : Str) = some (.ref f)) (c : He.SaysX fa fn [] tf xk w h0 K) :
    ∃ fd : FuncData, (∀ (s : Shared) (v : Value), BindsTo s fd ⟨[v], []⟩ [("_law_script", v)]) ∧ ∀ base : Heap, K.In base → base.Ns mainGlobals mg → LamX.TabB base mg (He.cT K ("_law_right", none)).1 (He.cT K ("_law_right", none)).2 → LamX.TabB base mg (He.cT K ("law", none)).1 (He.cT K ("law", none)).2 → GL.FnG P w K mg base 11 f fd ["_law_script"] (spLaw K) := by
  have d := c.t.d
  have x := c.more
  have gl : ∀ (i : Nat) (x : Str), fa[i]? = some (.glo x) → mg x = some (.ref (He.ga K x)) := fun i x e => He.glo_ok X G (d.fact i e)
  have fr : ∀ (i : Nat) (x : Str), fa[i]? = some (.free x) → mg x = none := fun i x e => He.free_ok X G (d.fact i e)
  have me : ∀ (i : Nat) (C m : Str), fa[i]? = some (.meth C m) → Meth K (He.ga K C) m (He.ma K (He.ga K C) m) := fun i C m e => He.meth_ok (d.fact i e)
  have gl_is_whole := gl 0 "is_whole" rfl
  have gl_common_part := gl 1 "common_part" rfl
  have gl_in_order := gl 2 "in_order" rfl
  have gl_seats_of := gl 3 "seats_of" rfl
  have gl_lacking := gl 4 "lacking" rfl
  have gl_fewest := gl 5 "fewest" rfl
  have gl_best_sum := gl 6 "best_sum" rfl
  have gl_choose := gl 7 "choose" rfl
  have gl__law_pen := gl 8 "_law_pen" rfl
  have gl__law_draw := gl 9 "_law_draw" rfl
  have gl__law_names := gl 10 "_law_names" rfl
  have gl__law_word := gl 11 "_law_word" rfl
  have gl__law_field := gl 12 "_law_field" rfl
  have gl__law_got := gl 13 "_law_got" rfl
  have gl__law_drawn := gl 14 "_law_drawn" rfl
  have gl__law_best := gl 15 "_law_best" rfl
  have gl__law_fewest := gl 16 "_law_fewest" rfl
  have gl__law_sets := gl 17 "_law_sets" rfl
  have gl__law_worths := gl 18 "_law_worths" rfl
  have gl__law_order := gl 19 "_law_order" rfl
  have gl__law_due := gl 20 "_law_due" rfl
  have gl__law_right := gl 21 "_law_right" rfl
  have gl_law := gl 22 "law" rfl
  have fr_isinstance := fr 23 "isinstance" rfl
  have fr_int := fr 24 "int" rfl
  have fr_bool := fr 25 "bool" rfl
  have fr_abs := fr 26 "abs" rfl
  have fr_str := fr 27 "str" rfl
  have fr_list := fr 28 "list" rfl
  have fr_range := fr 29 "range" rfl
  have fr_len := fr 30 "len" rfl
  have fr_all := fr 31 "all" rfl
  have fr_any := fr 32 "any" rfl
  have fr_max := fr 33 "max" rfl
  have fr_min := fr 34 "min" rfl
  have fr_repr := fr 35 "repr" rfl
  have fr_sum := fr 36 "sum" rfl
  have fr_sorted := fr 37 "sorted" rfl
  have fr_tuple := fr 38 "tuple" rfl
  have fr_dict := fr 39 "dict" rfl
  have fr_enumerate := fr 40 "enumerate" rfl
  have fr_reversed := fr 41 "reversed" rfl
  have fr_ValueError := fr 42 "ValueError" rfl
  have fr_KeyError := fr 43 "KeyError" rfl
  have fr_IndexError := fr 44 "IndexError" rfl
  have fr_LookupError := fr 45 "LookupError" rfl
  have fr_ArithmeticError := fr 46 "ArithmeticError" rfl
  have fr_RuntimeError := fr 47 "RuntimeError" rfl
  have fr_TypeError := fr 48 "TypeError" rfl
  have gl_Share := gl 49 "Share" rfl
  have cls_Share := He.cls_ok (d.fact 50 (f := .cls "Share") rfl)
  have mk_Share := He.mkr_ok (d.fact 51 (f := .mkr "Share") rfl)
  have gl_NoKind := gl 52 "NoKind" rfl
  have gl_Nought := gl 53 "Nought" rfl
  have gl_NoShare := gl 54 "NoShare" rfl
  have gl_Uneven := gl 55 "Uneven" rfl
  have gl_BadName := gl 56 "BadName" rfl
  have gl_NoNumber := gl 57 "NoNumber" rfl
  have gl_NoRide := gl 58 "NoRide" rfl
  have gl_NoText := gl 59 "NoText" rfl
  have gl_NoName := gl 60 "NoName" rfl
  have gl_NoDay := gl 61 "NoDay" rfl
  have gl_NoSeats := gl 62 "NoSeats" rfl
  have gl_TooMany := gl 63 "TooMany" rfl
  have gl_Taken := gl 64 "Taken" rfl
  have gl_NoRule := gl 65 "NoRule" rfl
  have gl_NothingDone := gl 66 "NothingDone" rfl
  have gl_NoRow := gl 67 "NoRow" rfl
  have no_Share_top := He.noat_ok (d.fact 68 (f := .noat "Share" "top") rfl)
  have no_Share_bottom := He.noat_ok (d.fact 69 (f := .noat "Share" "bottom") rfl)
  have no_NoSeats_lack := He.noat_ok (d.fact 70 (f := .noat "NoSeats" "lack") rfl)
  have me_Share_below := me 71 "Share" "below" rfl
  have me_NoSeats_init := me 72 "NoSeats" "__init__" rfl
  obtain ⟨fd_NoSeats_init, D_NoSeats_init⟩ := d.def_ 11 (d := d_NoSeats_init) rfl
  obtain ⟨fd_is_whole, D_is_whole⟩ := d.def_ 17 (d := d_is_whole) rfl
  obtain ⟨fd_common_part, D_common_part⟩ := d.def_ 18 (d := d_common_part) rfl
  obtain ⟨fd_Share_init, D_Share_init⟩ := d.def_ 19 (d := d_Share_init) rfl
  obtain ⟨fd_Share_below, D_Share_below⟩ := d.def_ 27 (d := d_Share_below) rfl
  obtain ⟨fd_in_order, D_in_order⟩ := d.def_ 29 (d := d_in_order) rfl
  obtain ⟨fd_seats_of, D_seats_of⟩ := d.def_ 30 (d := d_seats_of) rfl
  obtain ⟨fd_lacking, D_lacking⟩ := d.def_ 31 (d := d_lacking) rfl
  obtain ⟨fd_fewest, D_fewest⟩ := d.def_ 32 (d := d_fewest) rfl
  obtain ⟨fd_best_sum, D_best_sum⟩ := d.def_ 33 (d := d_best_sum) rfl
  obtain ⟨fd_choose, D_choose⟩ := d.def_ 34 (d := d_choose) rfl
  obtain ⟨fd_l_pen, D_l_pen⟩ := d.def_ 35 (d := d_l_pen) rfl
  obtain ⟨fd_l_draw, D_l_draw⟩ := d.def_ 36 (d := d_l_draw) rfl
  obtain ⟨fd_l_names, D_l_names⟩ := d.def_ 37 (d := d_l_names) rfl
  obtain ⟨fd_l_word, D_l_word⟩ := d.def_ 38 (d := d_l_word) rfl
  obtain ⟨fd_l_field, D_l_field⟩ := d.def_ 39 (d := d_l_field) rfl
  obtain ⟨fd_l_got, D_l_got⟩ := d.def_ 40 (d := d_l_got) rfl
  obtain ⟨fd_l_drawn, D_l_drawn⟩ := d.def_ 41 (d := d_l_drawn) rfl
  obtain ⟨fd_l_best, D_l_best⟩ := d.def_ 42 (d := d_l_best) rfl
  obtain ⟨fd_l_fewest, D_l_fewest⟩ := d.def_ 43 (d := d_l_fewest) rfl
  obtain ⟨fd_l_sets, D_l_sets⟩ := d.def_ 44 (d := d_l_sets) rfl
  obtain ⟨fd_l_worths, D_l_worths⟩ := d.def_ 45 (d := d_l_worths) rfl
  obtain ⟨fd_l_order, D_l_order⟩ := d.def_ 46 (d := d_l_order) rfl
  obtain ⟨fd_l_due, D_l_due⟩ := d.def_ 47 (d := d_l_due) rfl
  obtain ⟨fd_l_right, D_l_right⟩ := d.def_ 48 (d := d_l_right) rfl
  obtain ⟨fd_law, D_law⟩ := d.def_ 49 (d := d_law) rfl
  have e := hfa.symm.trans gl_law
  cases e
  have bL := FunD.bindsA (ps := ["_law_script"]) D_law fun _ _ _ _ _ _ us hl => match us, hl with | [_], _ => rfl
  refine ⟨fd_law, fun s v => bL s [v] rfl, fun base _ _ TB TB2 => ?_⟩
  have b_NoSeats_init : Binds K fd_NoSeats_init ["self", "lack"] [] := D_NoSeats_init.bindsN fun _ _ _ _ _ _ us hl => match us, hl with | [_, _], _ => rfl
  have b_is_whole : Binds K fd_is_whole ["thing"] [] := D_is_whole.bindsN fun _ _ _ _ _ _ us hl => match us, hl with | [_], _ => rfl
  have b_common_part : Binds K fd_common_part ["one", "other"] [] := D_common_part.bindsN fun _ _ _ _ _ _ us hl => match us, hl with | [_, _], _ => rfl
  have b_Share_init : Binds K fd_Share_init ["self", "top", "bottom"] [] := by
    obtain ⟨ds, h1, h2⟩ := D_Share_init.binds1 (ps := ["self", "top", "bottom"]) 3 1 (List.cons_ne_nil _ _) rfl (fun T kV doc pm an cdv ct us its hl h1 => match us, hl, its, h1 with | [_, _, _], _, [_], _ => ⟨_, rfl, rfl⟩)
    cases h1
    exact h2
  obtain ⟨ds1_Share_init, v1_Share_init, b1_Share_init⟩ := D_Share_init.binds1 (ps := ["self", "top", "bottom"]) 2 0 (List.cons_ne_nil _ _) rfl (fun T kV doc pm an cdv ct us its hl h1 => match us, hl, its, h1 with | [_, _], _, [_], _ => ⟨_, rfl, rfl⟩)
  have b_Share_below : Binds K fd_Share_below ["self", "other"] [] := D_Share_below.bindsN fun _ _ _ _ _ _ us hl => match us, hl with | [_, _], _ => rfl
  have b_in_order : Binds K fd_in_order ["names", "shares"] [] := D_in_order.bindsN fun _ _ _ _ _ _ us hl => match us, hl with | [_, _], _ => rfl
  have b_seats_of : Binds K fd_seats_of ["names", "seats"] [] := D_seats_of.bindsN fun _ _ _ _ _ _ us hl => match us, hl with | [_, _], _ => rfl
  have b_lacking : Binds K fd_lacking ["riders", "seats"] [] := D_lacking.bindsN fun _ _ _ _ _ _ us hl => match us, hl with | [_, _], _ => rfl
  have b_fewest : Binds K fd_fewest ["riders", "seats"] [] := D_fewest.bindsN fun _ _ _ _ _ _ us hl => match us, hl with | [_, _], _ => rfl
  have b_best_sum : Binds K fd_best_sum ["numbers", "many"] [] := D_best_sum.bindsN fun _ _ _ _ _ _ us hl => match us, hl with | [_, _], _ => rfl
  have b_choose : Binds K fd_choose ["riders", "seats", "standing"] [] := by
    obtain ⟨ds, h1, h2⟩ := D_choose.binds1 (ps := ["riders", "seats", "standing"]) 3 1 (List.cons_ne_nil _ _) rfl (fun T kV doc pm an cdv ct us its hl h1 => match us, hl, its, h1 with | [_, _, _], _, [_], _ => ⟨_, rfl, rfl⟩)
    cases h1
    exact h2
  obtain ⟨ds1_choose, v1_choose, b1_choose⟩ := D_choose.binds1 (ps := ["riders", "seats", "standing"]) 2 0 (List.cons_ne_nil _ _) rfl (fun T kV doc pm an cdv ct us its hl h1 => match us, hl, its, h1 with | [_, _], _, [_], _ => ⟨_, rfl, rfl⟩)
  have b_l_pen : Binds K fd_l_pen ["_law_script"] [] := D_l_pen.bindsN fun _ _ _ _ _ _ us hl => match us, hl with | [_], _ => rfl
  have b_l_draw : Binds K fd_l_draw ["_law_pen_here", "_law_many"] [] := D_l_draw.bindsN fun _ _ _ _ _ _ us hl => match us, hl with | [_, _], _ => rfl
  have b_l_names : Binds K fd_l_names ["_law_pen_here", "_law_many"] [] := D_l_names.bindsN fun _ _ _ _ _ _ us hl => match us, hl with | [_, _], _ => rfl
  have b_l_word : Binds K fd_l_word ["_law_e"] [] := D_l_word.bindsN fun _ _ _ _ _ _ us hl => match us, hl with | [_], _ => rfl
  have b_l_field : Binds K fd_l_field ["_law_e"] [] := D_l_field.bindsN fun _ _ _ _ _ _ us hl => match us, hl with | [_], _ => rfl
  have b_l_got : Binds K fd_l_got ["_law_deed"] [] := D_l_got.bindsN fun _ _ _ _ _ _ us hl => match us, hl with | [_], _ => rfl
  have b_l_drawn : Binds K fd_l_drawn ["_law_pen_here"] [] := D_l_drawn.bindsN fun _ _ _ _ _ _ us hl => match us, hl with | [_], _ => rfl
  have b_l_best : Binds K fd_l_best ["_law_folk", "_law_rooms"] [] := D_l_best.bindsN fun _ _ _ _ _ _ us hl => match us, hl with | [_, _], _ => rfl
  have b_l_fewest : Binds K fd_l_fewest ["_law_folk", "_law_rooms"] [] := D_l_fewest.bindsN fun _ _ _ _ _ _ us hl => match us, hl with | [_, _], _ => rfl
  have b_l_sets : Binds K fd_l_sets ["_law_many", "_law_size"] [] := D_l_sets.bindsN fun _ _ _ _ _ _ us hl => match us, hl with | [_, _], _ => rfl
  have b_l_worths : Binds K fd_l_worths ["_law_pen_here", "_law_known"] [] := D_l_worths.bindsN fun _ _ _ _ _ _ us hl => match us, hl with | [_, _], _ => rfl
  have b_l_order : Binds K fd_l_order ["_law_folk", "_law_worths_here"] [] := D_l_order.bindsN fun _ _ _ _ _ _ us hl => match us, hl with | [_, _], _ => rfl
  have b_l_due : Binds K fd_l_due ["_law_folk", "_law_rooms", "_law_worths_here"] [] := D_l_due.bindsN fun _ _ _ _ _ _ us hl => match us, hl with | [_, _, _], _ => rfl
  have b_l_right : Binds K fd_l_right ["_law_folk", "_law_rooms", "_law_worths_here"] [] := D_l_right.bindsN fun _ _ _ _ _ _ us hl => match us, hl with | [_, _, _], _ => rfl
  have b_law : Binds K fd_law ["_law_script"] [] := D_law.bindsN fun _ _ _ _ _ _ us hl => match us, hl with | [_], _ => rfl
  obtain ⟨xG, xV, xF, xC, xM, x16, x7⟩ := xkC_ok (show xkC K (He.ga K "NoSeats") ieT "IndexError.__new__" "IndexError.__init__" "IndexError" owN abN = true from (Bool.and_eq_true_iff.mp x).1)
  have dT : (He.cT K ("law", none)).2 ≠ (He.cT K ("_law_right", none)).2 := of_decide_eq_true (Bool.and_eq_true_iff.mp x).2
  have B : Bl mg := ⟨fr_isinstance, fr_int, fr_bool, fr_str, fr_list, fr_range, fr_len, fr_all, fr_any, fr_max, fr_min⟩
  have BB : B2 mg := ⟨fr_sum, fr_sorted, fr_tuple, fr_repr⟩
  have BQ : K16.Q.Bl mg := ⟨fr_isinstance, fr_int, fr_bool, fr_abs, fr_list, fr_range, fr_len⟩
  have T : K16.Q.Cl K mg (He.ga K "Share") := ⟨cls_Share, no_Share_top, no_Share_bottom, gl_Share⟩
  have cW : K16.Q.CalW P w K mg base := cal_of (K16.Q.ok_whole D_is_whole BQ) gl_is_whole D_is_whole.kp b_is_whole
  have cG : K16.Q.CalG P w K mg base := cal_of (K16.Q.ok_gcd D_common_part BQ) gl_common_part D_common_part.kp b_common_part
  have FI := K16.Q.ok_init D_Share_init cW cG T
  have MS : K16.Q.MakS P w K mg base (He.ga K "Share") := ⟨_, _, _, _, mk_Share, FI, T.g, b_Share_init, .nil⟩
  have M1 : K16.Q.MakS1 P w K mg base (He.ga K "Share") := ⟨_, _, _, _, mk_Share, FI, T.g, b1_Share_init, v1_Share_init⟩
  have mB : Met P w K mg base 1 (He.ga K "Share") "below" (K16.Q.spLt (He.ga K "Share")) [] := met_of T.cl me_Share_below ((K16.Q.ok_below D_Share_below T).imp fun _ _ _ _ => K16.Q.belowR) b_Share_below
  have cIO := cal_of (P := P) (w := w) (base := base) (K16.Q.ok_in_order D_in_order BQ fr_sorted M1 mB) gl_in_order D_in_order.kp b_in_order
  have cP := cal_of (P := P) (w := w) (base := base) (ok_pen D_l_pen B) gl__law_pen D_l_pen.kp b_l_pen
  have cD : CalD P w K mg base := cal_of (ok_draw D_l_draw B) gl__law_draw D_l_draw.kp b_l_draw
  have cN := cal_of (ok_names D_l_names B cD) gl__law_names D_l_names.kp b_l_names
  have cDr := cal_of (ok_dr D_l_drawn B cD cN) gl__law_drawn D_l_drawn.kp b_l_drawn
  have cBe := cal_of (P := P) (w := w) (base := base) (ok_be D_l_best B fr_reversed) gl__law_best D_l_best.kp b_l_best
  have cLf := cal_of (ok_lf D_l_fewest B fr_enumerate cBe) gl__law_fewest D_l_fewest.kp b_l_fewest
  have cSo := cal_of (P := P) (w := w) (base := base) (ok_so D_seats_of) gl_seats_of D_seats_of.kp b_seats_of
  have FLa := ok_la D_lacking B BB cSo
  have cLa := cal_of FLa gl_lacking D_lacking.kp b_lacking
  have cBs := cal_of (P := P) (w := w) (base := base) (ok_bs D_best_sum BB) gl_best_sum D_best_sum.kp b_best_sum
  have cWd := cal_of (P := P) (w := w) (base := base) (ok_wdA D_l_word B) gl__law_word D_l_word.kp b_l_word
  have cFd := cal_of (P := P) (w := w) (base := base) (ok_fdA D_l_field B) gl__law_field D_l_field.kp b_l_field
  have KE : KnS K mg (He.ga K "NoSeats") (He.ma K (He.ga K "NoSeats") "__init__") := ⟨xG, me_NoSeats_init.1, eq_of_beq me_NoSeats_init.2, xV, no_NoSeats_lack, gl_NoSeats, fr_IndexError⟩
  have EG : ∀ x ∈ ex16, mg x = some (.ref (He.ga K x)) := fun x hx => by
    simp only [List.mem_cons, List.not_mem_nil, or_false] at hx
    rcases hx with rfl | rfl | rfl | rfl | rfl | rfl | rfl | rfl | rfl | rfl | rfl | rfl | rfl | rfl | rfl | rfl
    · exact gl_NoKind
    · exact gl_Nought
    · exact gl_NoShare
    · exact gl_Uneven
    · exact gl_BadName
    · exact gl_NoNumber
    · exact gl_NoRide
    · exact gl_NoText
    · exact gl_NoName
    · exact gl_NoDay
    · exact gl_NoSeats
    · exact gl_TooMany
    · exact gl_Taken
    · exact gl_NoRule
    · exact gl_NothingDone
    · exact gl_NoRow
  have ET : ∀ x ∈ ex7, mg (Str.ofString x) = none := fun x hx => by
    simp only [List.mem_cons, List.not_mem_nil, or_false] at hx
    rcases hx with rfl | rfl | rfl | rfl | rfl | rfl | rfl
    · exact fr_ValueError
    · exact fr_KeyError
    · exact fr_IndexError
    · exact fr_LookupError
    · exact fr_ArithmeticError
    · exact fr_RuntimeError
    · exact fr_TypeError
  have EN : Ex K mg (He.ga K "NoSeats") owN abN := ⟨EG, ET, xC, x16, x7⟩
  have FN := ok_Ns (P := P) (w := w) (base := base) D_NoSeats_init KE
  have FM4 := ok_fe D_fewest B BB KE cSo cLa FN b_NoSeats_init
  have FCh := ok_cho D_choose B BB fr_enumerate FM4 gl_fewest D_fewest.kp b_fewest cSo cBs cIO
  have cWo := cal_of (P := P) (w := w) (base := base) (ok_wo D_l_worths B cD) gl__law_worths D_l_worths.kp b_l_worths
  have cOr := cal_of (P := P) (w := w) (base := base) (ok_or D_l_order B fr_sorted) gl__law_order D_l_order.kp b_l_order
  have cSs := cal_of (P := P) (w := w) (base := base) (ok_ss D_l_sets B) gl__law_sets D_l_sets.kp b_l_sets
  have cDu := cal_of (P := P) (w := w) (base := base) (ok_du D_l_due B BB cLf cOr cSs) gl__law_due D_l_due.kp b_l_due
  obtain ⟨i1, hM1⟩ := KW.kb1 (ps := ["riders", "seats", "standing"]) D_choose 1 ["standing", "seats"] (fun us its ws => us ++ ws.reverse) (List.cons_ne_nil _ _) (fun r _ s => r.append (KW.vals_rev s)) (fun T kV doc pm an cdv ct us its ws h1 h2 h3 => match us, h1, its, h2, ws, h3 with | [_], _, [_], _, [_, _], _ => ⟨_, rfl, rfl⟩)
  obtain ⟨i0, hM0⟩ := KW.kb1 (ps := ["riders", "seats", "standing"]) D_choose 0 ["seats", "riders"] (fun us its ws => us ++ ws.reverse ++ its) (List.cons_ne_nil _ _) (fun r d s => (r.append (KW.vals_rev s)).append d) (fun T kV doc pm an cdv ct us its ws h1 h2 h3 => match us, h1, its, h2, ws, h3 with | [], _, [_], _, [_, _], _ => ⟨_, rfl, rfl⟩)
  have cR : GL.CalG P w K mg base 10 "_law_right" (spRt K) [] := ⟨_, _, _, _, ok_rt D_l_right B BB fr_dict TB dT MS cDu cWd cFd FCh gl_choose D_choose.kp b_choose hM1 D_l_got gl__law_got D_l_got.kp b_l_got EG EN xM wordN clN fldN xF no_NoSeats_lack, gl__law_right, D_l_right.kp, b_l_right, .nil⟩
  exact ok_law D_law B BB TB2 dT cP cD cDr cWo cDu cR cWd cFd FCh gl_choose D_choose.kp b_choose hM0 D_l_got gl__law_got D_l_got.kp b_l_got EG EN xM wordN clN fldN xF no_NoSeats_lack
end K16
open PySem PySem.W PySem.Calls PyProof.Rows
set_option maxRecDepth 100000 in
set_option maxHeartbeats 0 in
theorem PySem.Challenge.cw_rideturns_k16_who_drives_holds : PySem.Challenge.rw_rideturns_k16_who_drives.Holds := by
  w_on; o_law
  refine HandSHeadRun.head_any (r := OpenLaw.row PySem.Challenge.rw_rideturns_k16_who_drives) (q := view (OpenLaw.row PySem.Challenge.rw_rideturns_k16_who_drives).prog [45]) (H := K16.hk) (ob := K16.ob) (M := 8000) (loose := K16.loose) (d := HandSHeadRun.topDef (OpenLaw.row PySem.Challenge.rw_rideturns_k16_who_drives).prog 45) (kwd := []) K16.ob_eq
    (by kernel_rfl) (fun s => by kernel_rfl) K16.run_ (by kernel_rfl) (by kernel_rfl) (by kernel_rfl) (by rfl) (by first | assumption | decide +kernel) (by decide +kernel) ⟨rfl, rfl, rfl, rfl, rfl, by decide +kernel⟩ ?hw ?hc
  case hw => w_witness2
  case hc =>
    refine GL.walkTG (l := PySem.Challenge.rw_rideturns_k16_who_drives) (n := 63) (k := 11) (x := "_law_script") rfl (by decide) (by kernel_rfl) ⟨rfl, by decide, by decide⟩ ?F
    intro w mg fa h Y G hmg0
    obtain ⟨K, KX, c⟩ := Y
    have hmg : mg ("law" : PySem.Str) = some (.ref fa) := by
      have e : (HandSHeadRun.topDef (OpenLaw.row PySem.Challenge.rw_rideturns_k16_who_drives).prog 45).name = ("law" : PySem.Str) := by kernel_rfl
      rw [← e]
      exact hmg0
    obtain ⟨fd, hb, hF⟩ := K16.facts (P := (PySem.Challenge.rw_rideturns_k16_who_drives).prog) (w := w) KX G hmg c
    refine ⟨K, KX, fd, [He.cT K ("_law_right", none), He.cT K ("law", none)], K16.spLaw K, fun p hp => ?_, fun p hp => ?_, fun p hp => ?_, hb, fun H a ns hl hT hS => ⟨a, ns, rfl, hS, hl, fun p hp => ?_, fun _ => rfl⟩, fun base k1 k2 TB => hF base k1 k2 (TB _ (List.mem_cons_self)) (TB _ (List.mem_cons_of_mem _ (List.mem_singleton.mpr rfl)))⟩
    · rcases List.mem_cons.mp hp with q | q
      · rw [q]
        exact c.empty _ (List.mem_cons_self)
      · rw [List.mem_singleton.mp q]
        exact c.empty _ (List.mem_cons_of_mem _ (List.mem_singleton.mpr rfl))
    · rcases List.mem_cons.mp hp with q | q
      · rw [q]
        exact c.out _ (List.mem_cons_self)
      · rw [List.mem_singleton.mp q]
        exact c.out _ (List.mem_cons_of_mem _ (List.mem_singleton.mpr rfl))
    · rcases List.mem_cons.mp hp with q | q
      · rw [q]
        exact PySem.W.codeHd_of_K KX (c.hd _ (List.mem_cons_self))
      · rw [List.mem_singleton.mp q]
        exact PySem.W.codeHd_of_K KX (c.hd _ (List.mem_cons_of_mem _ (List.mem_singleton.mpr rfl)))
    · rcases List.mem_cons.mp hp with q | q
      · rw [q]
        exact LamX.TabS.nil (hT _ (List.mem_cons_self))
      · rw [List.mem_singleton.mp q]
        exact LamX.TabS.nil (hT _ (List.mem_cons_of_mem _ (List.mem_singleton.mpr rfl)))
