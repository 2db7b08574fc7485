import PyProof.Rows.All
import Wide.All
import OpenK.AllK
import Wide.FinOn
import HandS.ForMost
import HandS.ForExc
import HandS.Defaults
import HandS.Codes
import HandS.IsInst
import HandS.Wide
import HandS.Flow
import HandS.Evl
import HandS.Steps
import HandS.ExcField
import HandS.Head0
import HandS.Head1
import HandS.Head2
import HandS.HeadEnd
import HandS.HeadHook1
import HandS.HeadHook2
import HandS.HeadHook3
import HandS.HeadHook4
import KE.KExcInit
import HandS.ExcInit
import PyProof.Rows.FactsExc_KeyError
import PyProof.ExcBaseAll.LookupError
import KE.KEqSeq
import HandS.Words
import HandS.MakeKw
import HandS.MakeKwOnly
import HandS.Style
import HandS.Comp
import HandS.Text
import HandS.More
import PyProof.StrOps2
import HandS.Strs
import HandS.Walk
import HandS.StrMore
import HandS.Zip
import HandS.List
import HandS.Deep
import HandS.Dict
import KE.LtData
import HandS.Call
import HandS.SetFor
import HandS.DictComp
import KE.KIndexOf
import KE.KCallOwn
import PyProof.ReprRoads
import HandS.Iter
import KE.KIsAll
import KE.KTryMore
import HandS.ExcIs
import HandS.ExcValue
import PyProof.DictUpdate
import PyProof.ReprLen
import HandS.ExcOwn
import PySem.Challenge.RW_rideturns_k40_beyond_every_bound_by_the
set_option Elab.async false
set_option linter.all false
set_option maxRecDepth 100000
set_option maxHeartbeats 4000000
namespace K40
open PySem PySem.Spec PyProof.Rows L2
def top (i : Nat) : Stmt := PySem.Challenge.pw_rideturns_k40_beyond_every_bound_by_the.main.body.getD i (.Pass ⟨0, 0, 0, 0⟩)
abbrev s__wall : Stmt := top 0
abbrev N__wall : List Str := ["k"]
theorem sc__wall : FnScope N__wall ["k"] (defScope s__wall) := ⟨rfl, rfl, rfl, by decide +kernel, rfl, by decide +kernel, by decide +kernel⟩
def d__wall : He.DefD := ⟨("_wall", none), "_wall", "_wall", defArgs s__wall, defBody s__wall, defScope s__wall, [], []⟩
abbrev s_NoKind_init : Stmt := inClass (top 2) 0
abbrev N_NoKind_init : List Str := ["self", "thing"]
theorem sc_NoKind_init : FnScope N_NoKind_init ["self", "thing"] (defScope s_NoKind_init) := ⟨rfl, rfl, rfl, by decide +kernel, rfl, by decide +kernel, by decide +kernel⟩
def d_NoKind_init : He.DefD := ⟨("NoKind", some "__init__"), "__init__", "NoKind.__init__", defArgs s_NoKind_init, defBody s_NoKind_init, defScope s_NoKind_init, [], []⟩
abbrev s_Nought_init : Stmt := inClass (top 3) 0
abbrev N_Nought_init : List Str := ["self", "top"]
theorem sc_Nought_init : FnScope N_Nought_init ["self", "top"] (defScope s_Nought_init) := ⟨rfl, rfl, rfl, by decide +kernel, rfl, by decide +kernel, by decide +kernel⟩
def d_Nought_init : He.DefD := ⟨("Nought", some "__init__"), "__init__", "Nought.__init__", defArgs s_Nought_init, defBody s_Nought_init, defScope s_Nought_init, [], []⟩
abbrev s_NoShare_init : Stmt := inClass (top 4) 0
abbrev N_NoShare_init : List Str := ["self", "text"]
theorem sc_NoShare_init : FnScope N_NoShare_init ["self", "text"] (defScope s_NoShare_init) := ⟨rfl, rfl, rfl, by decide +kernel, rfl, by decide +kernel, by decide +kernel⟩
def d_NoShare_init : He.DefD := ⟨("NoShare", some "__init__"), "__init__", "NoShare.__init__", defArgs s_NoShare_init, defBody s_NoShare_init, defScope s_NoShare_init, [], []⟩
abbrev s_Uneven_init : Stmt := inClass (top 5) 0
abbrev N_Uneven_init : List Str := ["self", "rest"]
theorem sc_Uneven_init : FnScope N_Uneven_init ["self", "rest"] (defScope s_Uneven_init) := ⟨rfl, rfl, rfl, by decide +kernel, rfl, by decide +kernel, by decide +kernel⟩
def d_Uneven_init : He.DefD := ⟨("Uneven", some "__init__"), "__init__", "Uneven.__init__", defArgs s_Uneven_init, defBody s_Uneven_init, defScope s_Uneven_init, [], []⟩
abbrev s_BadName_init : Stmt := inClass (top 6) 0
abbrev N_BadName_init : List Str := ["self", "name"]
theorem sc_BadName_init : FnScope N_BadName_init ["self", "name"] (defScope s_BadName_init) := ⟨rfl, rfl, rfl, by decide +kernel, rfl, by decide +kernel, by decide +kernel⟩
def d_BadName_init : He.DefD := ⟨("BadName", some "__init__"), "__init__", "BadName.__init__", defArgs s_BadName_init, defBody s_BadName_init, defScope s_BadName_init, [], []⟩
abbrev s_NoNumber_init : Stmt := inClass (top 7) 0
abbrev N_NoNumber_init : List Str := ["self", "thing"]
theorem sc_NoNumber_init : FnScope N_NoNumber_init ["self", "thing"] (defScope s_NoNumber_init) := ⟨rfl, rfl, rfl, by decide +kernel, rfl, by decide +kernel, by decide +kernel⟩
def d_NoNumber_init : He.DefD := ⟨("NoNumber", some "__init__"), "__init__", "NoNumber.__init__", defArgs s_NoNumber_init, defBody s_NoNumber_init, defScope s_NoNumber_init, [], []⟩
abbrev s_NoRide_init : Stmt := inClass (top 8) 0
abbrev N_NoRide_init : List Str := ["self", "reason"]
theorem sc_NoRide_init : FnScope N_NoRide_init ["self", "reason"] (defScope s_NoRide_init) := ⟨rfl, rfl, rfl, by decide +kernel, rfl, by decide +kernel, by decide +kernel⟩
def d_NoRide_init : He.DefD := ⟨("NoRide", some "__init__"), "__init__", "NoRide.__init__", defArgs s_NoRide_init, defBody s_NoRide_init, defScope s_NoRide_init, [], []⟩
abbrev s_NoText_init : Stmt := inClass (top 9) 0
abbrev N_NoText_init : List Str := ["self", "row"]
theorem sc_NoText_init : FnScope N_NoText_init ["self", "row"] (defScope s_NoText_init) := ⟨rfl, rfl, rfl, by decide +kernel, rfl, by decide +kernel, by decide +kernel⟩
def d_NoText_init : He.DefD := ⟨("NoText", some "__init__"), "__init__", "NoText.__init__", defArgs s_NoText_init, defBody s_NoText_init, defScope s_NoText_init, [], []⟩
abbrev s_NoName_init : Stmt := inClass (top 10) 0
abbrev N_NoName_init : List Str := ["self", "name"]
theorem sc_NoName_init : FnScope N_NoName_init ["self", "name"] (defScope s_NoName_init) := ⟨rfl, rfl, rfl, by decide +kernel, rfl, by decide +kernel, by decide +kernel⟩
def d_NoName_init : He.DefD := ⟨("NoName", some "__init__"), "__init__", "NoName.__init__", defArgs s_NoName_init, defBody s_NoName_init, defScope s_NoName_init, [], []⟩
abbrev s_NoDay_init : Stmt := inClass (top 11) 0
abbrev N_NoDay_init : List Str := ["self", "day"]
theorem sc_NoDay_init : FnScope N_NoDay_init ["self", "day"] (defScope s_NoDay_init) := ⟨rfl, rfl, rfl, by decide +kernel, rfl, by decide +kernel, by decide +kernel⟩
def d_NoDay_init : He.DefD := ⟨("NoDay", some "__init__"), "__init__", "NoDay.__init__", defArgs s_NoDay_init, defBody s_NoDay_init, defScope s_NoDay_init, [], []⟩
abbrev s_NoSeats_init : Stmt := inClass (top 12) 0
abbrev N_NoSeats_init : List Str := ["self", "lack"]
theorem sc_NoSeats_init : FnScope N_NoSeats_init ["self", "lack"] (defScope s_NoSeats_init) := ⟨rfl, rfl, rfl, by decide +kernel, rfl, by decide +kernel, by decide +kernel⟩
def d_NoSeats_init : He.DefD := ⟨("NoSeats", some "__init__"), "__init__", "NoSeats.__init__", defArgs s_NoSeats_init, defBody s_NoSeats_init, defScope s_NoSeats_init, [], []⟩
abbrev s_TooMany_init : Stmt := inClass (top 13) 0
abbrev N_TooMany_init : List Str := ["self", "most"]
theorem sc_TooMany_init : FnScope N_TooMany_init ["self", "most"] (defScope s_TooMany_init) := ⟨rfl, rfl, rfl, by decide +kernel, rfl, by decide +kernel, by decide +kernel⟩
def d_TooMany_init : He.DefD := ⟨("TooMany", some "__init__"), "__init__", "TooMany.__init__", defArgs s_TooMany_init, defBody s_TooMany_init, defScope s_TooMany_init, [], []⟩
abbrev s_Taken_init : Stmt := inClass (top 14) 0
abbrev N_Taken_init : List Str := ["self", "name"]
theorem sc_Taken_init : FnScope N_Taken_init ["self", "name"] (defScope s_Taken_init) := ⟨rfl, rfl, rfl, by decide +kernel, rfl, by decide +kernel, by decide +kernel⟩
def d_Taken_init : He.DefD := ⟨("Taken", some "__init__"), "__init__", "Taken.__init__", defArgs s_Taken_init, defBody s_Taken_init, defScope s_Taken_init, [], []⟩
abbrev s_NoRule_init : Stmt := inClass (top 15) 0
abbrev N_NoRule_init : List Str := ["self", "thing"]
theorem sc_NoRule_init : FnScope N_NoRule_init ["self", "thing"] (defScope s_NoRule_init) := ⟨rfl, rfl, rfl, by decide +kernel, rfl, by decide +kernel, by decide +kernel⟩
def d_NoRule_init : He.DefD := ⟨("NoRule", some "__init__"), "__init__", "NoRule.__init__", defArgs s_NoRule_init, defBody s_NoRule_init, defScope s_NoRule_init, [], []⟩
abbrev s_NothingDone_init : Stmt := inClass (top 16) 0
abbrev N_NothingDone_init : List Str := ["self", "text"]
theorem sc_NothingDone_init : FnScope N_NothingDone_init ["self", "text"] (defScope s_NothingDone_init) := ⟨rfl, rfl, rfl, by decide +kernel, rfl, by decide +kernel, by decide +kernel⟩
def d_NothingDone_init : He.DefD := ⟨("NothingDone", some "__init__"), "__init__", "NothingDone.__init__", defArgs s_NothingDone_init, defBody s_NothingDone_init, defScope s_NothingDone_init, [], []⟩
abbrev s_NoRow_init : Stmt := inClass (top 17) 0
abbrev N_NoRow_init : List Str := ["self", "text"]
theorem sc_NoRow_init : FnScope N_NoRow_init ["self", "text"] (defScope s_NoRow_init) := ⟨rfl, rfl, rfl, by decide +kernel, rfl, by decide +kernel, by decide +kernel⟩
def d_NoRow_init : He.DefD := ⟨("NoRow", some "__init__"), "__init__", "NoRow.__init__", defArgs s_NoRow_init, defBody s_NoRow_init, defScope s_NoRow_init, [], []⟩
abbrev s_is_whole : Stmt := top 20
abbrev N_is_whole : List Str := ["thing"]
theorem sc_is_whole : FnScope N_is_whole ["thing"] (defScope s_is_whole) := ⟨rfl, rfl, rfl, by decide +kernel, rfl, by decide +kernel, by decide +kernel⟩
def d_is_whole : He.DefD := ⟨("is_whole", none), "is_whole", "is_whole", defArgs s_is_whole, defBody s_is_whole, defScope s_is_whole, [], []⟩
abbrev s_is_between : Stmt := top 21
abbrev N_is_between : List Str := ["thing", "low", "high"]
theorem sc_is_between : FnScope N_is_between ["thing", "low", "high"] (defScope s_is_between) := ⟨rfl, rfl, rfl, by decide +kernel, rfl, by decide +kernel, by decide +kernel⟩
def d_is_between : He.DefD := ⟨("is_between", none), "is_between", "is_between", defArgs s_is_between, defBody s_is_between, defScope s_is_between, [], []⟩
abbrev s_is_name : Stmt := top 22
abbrev N_is_name : List Str := ["thing", "sign"]
theorem sc_is_name : FnScope N_is_name ["thing"] (defScope s_is_name) := ⟨rfl, rfl, rfl, by decide +kernel, rfl, by decide +kernel, by decide +kernel⟩
def d_is_name : He.DefD := ⟨("is_name", none), "is_name", "is_name", defArgs s_is_name, defBody s_is_name, defScope s_is_name, [], []⟩
abbrev s_is_order : Stmt := top 26
abbrev N_is_order : List Str := ["thing", "name"]
theorem sc_is_order : FnScope N_is_order ["thing"] (defScope s_is_order) := ⟨rfl, rfl, rfl, by decide +kernel, rfl, by decide +kernel, by decide +kernel⟩
def d_is_order : He.DefD := ⟨("is_order", none), "is_order", "is_order", defArgs s_is_order, defBody s_is_order, defScope s_is_order, [], []⟩
abbrev s_is_rule : Stmt := top 27
abbrev N_is_rule : List Str := ["thing"]
theorem sc_is_rule : FnScope N_is_rule ["thing"] (defScope s_is_rule) := ⟨rfl, rfl, rfl, by decide +kernel, rfl, by decide +kernel, by decide +kernel⟩
def d_is_rule : He.DefD := ⟨("is_rule", none), "is_rule", "is_rule", defArgs s_is_rule, defBody s_is_rule, defScope s_is_rule, [], []⟩
abbrev s_row_of : Stmt := top 28
abbrev N_row_of : List Str := ["sets", "names"]
theorem sc_row_of : FnScope N_row_of ["sets"] (defScope s_row_of) := ⟨rfl, rfl, rfl, by decide +kernel, rfl, by decide +kernel, by decide +kernel⟩
def d_row_of : He.DefD := ⟨("row_of", none), "row_of", "row_of", defArgs s_row_of, defBody s_row_of, defScope s_row_of, [], []⟩
abbrev s_common_part : Stmt := top 30
abbrev N_common_part : List Str := ["one", "other"]
theorem sc_common_part : FnScope N_common_part ["one", "other"] (defScope s_common_part) := ⟨rfl, rfl, rfl, by decide +kernel, rfl, by decide +kernel, by decide +kernel⟩
def d_common_part : He.DefD := ⟨("common_part", none), "common_part", "common_part", defArgs s_common_part, defBody s_common_part, defScope s_common_part, [], []⟩
abbrev s_Share_init : Stmt := inClass (top 31) 0
abbrev N_Share_init : List Str := ["self", "top", "bottom", "thing", "common"]
theorem sc_Share_init : FnScope N_Share_init ["self", "top", "bottom"] (defScope s_Share_init) := ⟨rfl, rfl, rfl, by decide +kernel, rfl, by decide +kernel, by decide +kernel⟩
def d_Share_init : He.DefD := ⟨("Share", some "__init__"), "__init__", "Share.__init__", defArgs s_Share_init, defBody s_Share_init, defScope s_Share_init, [.int 1], []⟩
abbrev s_Share_eq : Stmt := inClass (top 31) 1
abbrev N_Share_eq : List Str := ["self", "other"]
theorem sc_Share_eq : FnScope N_Share_eq ["self", "other"] (defScope s_Share_eq) := ⟨rfl, rfl, rfl, by decide +kernel, rfl, by decide +kernel, by decide +kernel⟩
def d_Share_eq : He.DefD := ⟨("Share", some "__eq__"), "__eq__", "Share.__eq__", defArgs s_Share_eq, defBody s_Share_eq, defScope s_Share_eq, [], []⟩
abbrev s_Share_str : Stmt := inClass (top 31) 2
abbrev N_Share_str : List Str := ["self"]
theorem sc_Share_str : FnScope N_Share_str ["self"] (defScope s_Share_str) := ⟨rfl, rfl, rfl, by decide +kernel, rfl, by decide +kernel, by decide +kernel⟩
def d_Share_str : He.DefD := ⟨("Share", some "__str__"), "__str__", "Share.__str__", defArgs s_Share_str, defBody s_Share_str, defScope s_Share_str, [], []⟩
abbrev s_Share_repr : Stmt := inClass (top 31) 3
abbrev N_Share_repr : List Str := ["self"]
theorem sc_Share_repr : FnScope N_Share_repr ["self"] (defScope s_Share_repr) := ⟨rfl, rfl, rfl, by decide +kernel, rfl, by decide +kernel, by decide +kernel⟩
def d_Share_repr : He.DefD := ⟨("Share", some "__repr__"), "__repr__", "Share.__repr__", defArgs s_Share_repr, defBody s_Share_repr, defScope s_Share_repr, [], []⟩
abbrev s_Share_plus : Stmt := inClass (top 31) 4
abbrev N_Share_plus : List Str := ["self", "other"]
theorem sc_Share_plus : FnScope N_Share_plus ["self", "other"] (defScope s_Share_plus) := ⟨rfl, rfl, rfl, by decide +kernel, rfl, by decide +kernel, by decide +kernel⟩
def d_Share_plus : He.DefD := ⟨("Share", some "plus"), "plus", "Share.plus", defArgs s_Share_plus, defBody s_Share_plus, defScope s_Share_plus, [], []⟩
abbrev s_Share_less : Stmt := inClass (top 31) 5
abbrev N_Share_less : List Str := ["self", "other"]
theorem sc_Share_less : FnScope N_Share_less ["self", "other"] (defScope s_Share_less) := ⟨rfl, rfl, rfl, by decide +kernel, rfl, by decide +kernel, by decide +kernel⟩
def d_Share_less : He.DefD := ⟨("Share", some "less"), "less", "Share.less", defArgs s_Share_less, defBody s_Share_less, defScope s_Share_less, [], []⟩
abbrev s_Share_times : Stmt := inClass (top 31) 6
abbrev N_Share_times : List Str := ["self", "many"]
theorem sc_Share_times : FnScope N_Share_times ["self", "many"] (defScope s_Share_times) := ⟨rfl, rfl, rfl, by decide +kernel, rfl, by decide +kernel, by decide +kernel⟩
def d_Share_times : He.DefD := ⟨("Share", some "times"), "times", "Share.times", defArgs s_Share_times, defBody s_Share_times, defScope s_Share_times, [], []⟩
abbrev s_Share_over : Stmt := inClass (top 31) 7
abbrev N_Share_over : List Str := ["self", "many"]
theorem sc_Share_over : FnScope N_Share_over ["self", "many"] (defScope s_Share_over) := ⟨rfl, rfl, rfl, by decide +kernel, rfl, by decide +kernel, by decide +kernel⟩
def d_Share_over : He.DefD := ⟨("Share", some "over"), "over", "Share.over", defArgs s_Share_over, defBody s_Share_over, defScope s_Share_over, [], []⟩
abbrev s_Share_below : Stmt := inClass (top 31) 8
abbrev N_Share_below : List Str := ["self", "other"]
theorem sc_Share_below : FnScope N_Share_below ["self", "other"] (defScope s_Share_below) := ⟨rfl, rfl, rfl, by decide +kernel, rfl, by decide +kernel, by decide +kernel⟩
def d_Share_below : He.DefD := ⟨("Share", some "below"), "below", "Share.below", defArgs s_Share_below, defBody s_Share_below, defScope s_Share_below, [], []⟩
abbrev s_Share_whole : Stmt := inClass (top 31) 9
abbrev N_Share_whole : List Str := ["self"]
theorem sc_Share_whole : FnScope N_Share_whole ["self"] (defScope s_Share_whole) := ⟨rfl, rfl, rfl, by decide +kernel, rfl, by decide +kernel, by decide +kernel⟩
def d_Share_whole : He.DefD := ⟨("Share", some "whole"), "whole", "Share.whole", defArgs s_Share_whole, defBody s_Share_whole, defScope s_Share_whole, [], []⟩
abbrev s_check_in_order : Stmt := top 33
abbrev N_check_in_order : List Str := ["order", "name"]
theorem sc_check_in_order : FnScope N_check_in_order ["order", "name"] (defScope s_check_in_order) := ⟨rfl, rfl, rfl, by decide +kernel, rfl, by decide +kernel, by decide +kernel⟩
def d_check_in_order : He.DefD := ⟨("check_in_order", none), "check_in_order", "check_in_order", defArgs s_check_in_order, defBody s_check_in_order, defScope s_check_in_order, [], []⟩
abbrev s_runaway : Stmt := top 34
abbrev N_runaway : List Str := ["order", "name", "owed", "others", "three", "place", "ahead", "second", "third", "one", "day"]
theorem sc_runaway : FnScope N_runaway ["order", "name", "owed"] (defScope s_runaway) := ⟨rfl, rfl, rfl, by decide +kernel, rfl, by decide +kernel, by decide +kernel⟩
def d_runaway : He.DefD := ⟨("runaway", none), "runaway", "runaway", defArgs s_runaway, defBody s_runaway, defScope s_runaway, [.bl true], []⟩
abbrev s_names_of : Stmt := top 37
abbrev N_names_of : List Str := ["order", "riders", "name"]
theorem sc_names_of : FnScope N_names_of ["order", "riders"] (defScope s_names_of) := ⟨rfl, rfl, rfl, by decide +kernel, rfl, by decide +kernel, by decide +kernel⟩
def d_names_of : He.DefD := ⟨("names_of", none), "names_of", "names_of", defArgs s_names_of, defBody s_names_of, defScope s_names_of, [], []⟩
abbrev s_first_memory : Stmt := top 38
abbrev N_first_memory : List Str := ["rule", "name"]
theorem sc_first_memory : FnScope N_first_memory ["rule"] (defScope s_first_memory) := ⟨rfl, rfl, rfl, by decide +kernel, rfl, by decide +kernel, by decide +kernel⟩
def d_first_memory : He.DefD := ⟨("first_memory", none), "first_memory", "first_memory", defArgs s_first_memory, defBody s_first_memory, defScope s_first_memory, [], []⟩
abbrev s_least_driver : Stmt := top 39
abbrev N_least_driver : List Str := ["rule", "held", "names", "grain", "name", "parts", "counts"]
theorem sc_least_driver : FnScope N_least_driver ["rule", "held", "names"] (defScope s_least_driver) := ⟨rfl, rfl, rfl, by decide +kernel, rfl, by decide +kernel, by decide +kernel⟩
def d_least_driver : He.DefD := ⟨("least_driver", none), "least_driver", "least_driver", defArgs s_least_driver, defBody s_least_driver, defScope s_least_driver, [], []⟩
abbrev s_driver_by : Stmt := top 40
abbrev N_driver_by : List Str := ["rule", "memory", "riders", "names", "gone", "same", "many"]
theorem sc_driver_by : FnScope N_driver_by ["rule", "memory", "riders"] (defScope s_driver_by) := ⟨rfl, rfl, rfl, by decide +kernel, rfl, by decide +kernel, by decide +kernel⟩
def d_driver_by : He.DefD := ⟨("driver_by", none), "driver_by", "driver_by", defArgs s_driver_by, defBody s_driver_by, defScope s_driver_by, [], []⟩
abbrev s_parts_behind : Stmt := top 41
abbrev N_parts_behind : List Str := ["order", "held", "riders", "driver", "behind", "name", "parts", "fare", "wage"]
theorem sc_parts_behind : FnScope N_parts_behind ["order", "held", "riders", "driver"] (defScope s_parts_behind) := ⟨rfl, rfl, rfl, by decide +kernel, rfl, by decide +kernel, by decide +kernel⟩
def d_parts_behind : He.DefD := ⟨("parts_behind", none), "parts_behind", "parts_behind", defArgs s_parts_behind, defBody s_parts_behind, defScope s_parts_behind, [], []⟩
abbrev s_line_behind : Stmt := top 42
abbrev N_line_behind : List Str := ["line", "riders", "driver", "name"]
theorem sc_line_behind : FnScope N_line_behind ["line", "riders", "driver"] (defScope s_line_behind) := ⟨rfl, rfl, rfl, by decide +kernel, rfl, by decide +kernel, by decide +kernel⟩
def d_line_behind : He.DefD := ⟨("line_behind", none), "line_behind", "line_behind", defArgs s_line_behind, defBody s_line_behind, defScope s_line_behind, [], []⟩
abbrev s_rounds_behind : Stmt := top 43
abbrev N_rounds_behind : List Str := ["order", "rounds", "riders", "names", "gone", "same", "many"]
theorem sc_rounds_behind : FnScope N_rounds_behind ["order", "rounds", "riders"] (defScope s_rounds_behind) := ⟨rfl, rfl, rfl, by decide +kernel, rfl, by decide +kernel, by decide +kernel⟩
def d_rounds_behind : He.DefD := ⟨("rounds_behind", none), "rounds_behind", "rounds_behind", defArgs s_rounds_behind, defBody s_rounds_behind, defScope s_rounds_behind, [], []⟩
abbrev s_memory_behind : Stmt := top 44
abbrev N_memory_behind : List Str := ["rule", "memory", "riders", "driver"]
theorem sc_memory_behind : FnScope N_memory_behind ["rule", "memory", "riders"] (defScope s_memory_behind) := ⟨rfl, rfl, rfl, by decide +kernel, rfl, by decide +kernel, by decide +kernel⟩
def d_memory_behind : He.DefD := ⟨("memory_behind", none), "memory_behind", "memory_behind", defArgs s_memory_behind, defBody s_memory_behind, defScope s_memory_behind, [], []⟩
abbrev s_Turns_init : Stmt := inClass (top 45) 0
abbrev N_Turns_init : List Str := ["self", "rule", "name"]
theorem sc_Turns_init : FnScope N_Turns_init ["self", "rule"] (defScope s_Turns_init) := ⟨rfl, rfl, rfl, by decide +kernel, rfl, by decide +kernel, by decide +kernel⟩
def d_Turns_init : He.DefD := ⟨("Turns", some "__init__"), "__init__", "Turns.__init__", defArgs s_Turns_init, defBody s_Turns_init, defScope s_Turns_init, [], []⟩
abbrev s_Turns_eq : Stmt := inClass (top 45) 1
abbrev N_Turns_eq : List Str := ["self", "other"]
theorem sc_Turns_eq : FnScope N_Turns_eq ["self", "other"] (defScope s_Turns_eq) := ⟨rfl, rfl, rfl, by decide +kernel, rfl, by decide +kernel, by decide +kernel⟩
def d_Turns_eq : He.DefD := ⟨("Turns", some "__eq__"), "__eq__", "Turns.__eq__", defArgs s_Turns_eq, defBody s_Turns_eq, defScope s_Turns_eq, [], []⟩
abbrev s_Turns_len : Stmt := inClass (top 45) 2
abbrev N_Turns_len : List Str := ["self"]
theorem sc_Turns_len : FnScope N_Turns_len ["self"] (defScope s_Turns_len) := ⟨rfl, rfl, rfl, by decide +kernel, rfl, by decide +kernel, by decide +kernel⟩
def d_Turns_len : He.DefD := ⟨("Turns", some "__len__"), "__len__", "Turns.__len__", defArgs s_Turns_len, defBody s_Turns_len, defScope s_Turns_len, [], []⟩
abbrev s_Turns_check_riders : Stmt := inClass (top 45) 3
abbrev N_Turns_check_riders : List Str := ["self", "riders", "at", "name"]
theorem sc_Turns_check_riders : FnScope N_Turns_check_riders ["self", "riders"] (defScope s_Turns_check_riders) := ⟨rfl, rfl, rfl, by decide +kernel, rfl, by decide +kernel, by decide +kernel⟩
def d_Turns_check_riders : He.DefD := ⟨("Turns", some "check_riders"), "check_riders", "Turns.check_riders", defArgs s_Turns_check_riders, defBody s_Turns_check_riders, defScope s_Turns_check_riders, [], []⟩
abbrev s_Turns_who : Stmt := inClass (top 45) 4
abbrev N_Turns_who : List Str := ["self", "riders"]
theorem sc_Turns_who : FnScope N_Turns_who ["self", "riders"] (defScope s_Turns_who) := ⟨rfl, rfl, rfl, by decide +kernel, rfl, by decide +kernel, by decide +kernel⟩
def d_Turns_who : He.DefD := ⟨("Turns", some "who"), "who", "Turns.who", defArgs s_Turns_who, defBody s_Turns_who, defScope s_Turns_who, [], []⟩
abbrev s_Turns_ride : Stmt := inClass (top 45) 5
abbrev N_Turns_ride : List Str := ["self", "riders", "driver"]
theorem sc_Turns_ride : FnScope N_Turns_ride ["self", "riders"] (defScope s_Turns_ride) := ⟨rfl, rfl, rfl, by decide +kernel, rfl, by decide +kernel, by decide +kernel⟩
def d_Turns_ride : He.DefD := ⟨("Turns", some "ride"), "ride", "Turns.ride", defArgs s_Turns_ride, defBody s_Turns_ride, defScope s_Turns_ride, [], []⟩
abbrev s_Turns_stands : Stmt := inClass (top 45) 6
abbrev N_Turns_stands : List Str := ["self", "name", "parts"]
theorem sc_Turns_stands : FnScope N_Turns_stands ["self"] (defScope s_Turns_stands) := ⟨rfl, rfl, rfl, by decide +kernel, rfl, by decide +kernel, by decide +kernel⟩
def d_Turns_stands : He.DefD := ⟨("Turns", some "stands"), "stands", "Turns.stands", defArgs s_Turns_stands, defBody s_Turns_stands, defScope s_Turns_stands, [], []⟩
abbrev s_Turns_drives : Stmt := inClass (top 45) 7
abbrev N_Turns_drives : List Str := ["self", "name"]
theorem sc_Turns_drives : FnScope N_Turns_drives ["self"] (defScope s_Turns_drives) := ⟨rfl, rfl, rfl, by decide +kernel, rfl, by decide +kernel, by decide +kernel⟩
def d_Turns_drives : He.DefD := ⟨("Turns", some "drives"), "drives", "Turns.drives", defArgs s_Turns_drives, defBody s_Turns_drives, defScope s_Turns_drives, [], []⟩
abbrev s_Turns_memory : Stmt := inClass (top 45) 8
abbrev N_Turns_memory : List Str := ["self", "parts"]
theorem sc_Turns_memory : FnScope N_Turns_memory ["self"] (defScope s_Turns_memory) := ⟨rfl, rfl, rfl, by decide +kernel, rfl, by decide +kernel, by decide +kernel⟩
def d_Turns_memory : He.DefD := ⟨("Turns", some "memory"), "memory", "Turns.memory", defArgs s_Turns_memory, defBody s_Turns_memory, defScope s_Turns_memory, [], []⟩
abbrev s_l_held : Stmt := top 47
abbrev N_l_held : List Str := ["_law_script"]
theorem sc_l_held : FnScope N_l_held ["_law_script"] (defScope s_l_held) := ⟨rfl, rfl, rfl, by decide +kernel, rfl, by decide +kernel, by decide +kernel⟩
def d_l_held : He.DefD := ⟨("_law_held", none), "_law_held", "_law_held", defArgs s_l_held, defBody s_l_held, defScope s_l_held, [], []⟩
abbrev s_l_draw : Stmt := top 48
abbrev N_l_draw : List Str := ["_law_held_here", "_law_many", "_law_found", "_law_at", "_law_cell", "_law_number"]
theorem sc_l_draw : FnScope N_l_draw ["_law_held_here", "_law_many"] (defScope s_l_draw) := ⟨rfl, rfl, rfl, by decide +kernel, rfl, by decide +kernel, by decide +kernel⟩
def d_l_draw : He.DefD := ⟨("_law_draw", none), "_law_draw", "_law_draw", defArgs s_l_draw, defBody s_l_draw, defScope s_l_draw, [], []⟩
abbrev s_l_names : Stmt := top 49
abbrev N_l_names : List Str := ["_law_held_here", "_law_many", "_law_letters", "_law_size", "_law_k", "_law_base", "_law_at", "_law_begin", "_law_step", "_law_lot", "_law_found", "_law_tail"]
theorem sc_l_names : FnScope N_l_names ["_law_held_here", "_law_many"] (defScope s_l_names) := ⟨rfl, rfl, rfl, by decide +kernel, rfl, by decide +kernel, by decide +kernel⟩
def d_l_names : He.DefD := ⟨("_law_names", none), "_law_names", "_law_names", defArgs s_l_names, defBody s_l_names, defScope s_l_names, [], []⟩
abbrev s_l_low : Stmt := top 50
abbrev N_l_low : List Str := ["_law_top", "_law_bottom", "_law_one", "_law_other"]
theorem sc_l_low : FnScope N_l_low ["_law_top", "_law_bottom"] (defScope s_l_low) := ⟨rfl, rfl, rfl, by decide +kernel, rfl, by decide +kernel, by decide +kernel⟩
def d_l_low : He.DefD := ⟨("_law_low", none), "_law_low", "_law_low", defArgs s_l_low, defBody s_l_low, defScope s_l_low, [], []⟩
abbrev s_l_add : Stmt := top 51
abbrev N_l_add : List Str := ["_law_one", "_law_other"]
theorem sc_l_add : FnScope N_l_add ["_law_one", "_law_other"] (defScope s_l_add) := ⟨rfl, rfl, rfl, by decide +kernel, rfl, by decide +kernel, by decide +kernel⟩
def d_l_add : He.DefD := ⟨("_law_add", none), "_law_add", "_law_add", defArgs s_l_add, defBody s_l_add, defScope s_l_add, [], []⟩
abbrev s_l_pair : Stmt := top 52
abbrev N_l_pair : List Str := ["_law_share", "_law_part"]
theorem sc_l_pair : FnScope N_l_pair ["_law_share"] (defScope s_l_pair) := ⟨rfl, rfl, rfl, by decide +kernel, rfl, by decide +kernel, by decide +kernel⟩
def d_l_pair : He.DefD := ⟨("_law_pair", none), "_law_pair", "_law_pair", defArgs s_l_pair, defBody s_l_pair, defScope s_l_pair, [], []⟩
abbrev s_l_kinds : Stmt := top 53
abbrev N_l_kinds : List Str := ["_law_error", "_law_own", "_law_words", "_law_found", "_law_bases_here", "_law_word", "_law_so"]
theorem sc_l_kinds : FnScope N_l_kinds ["_law_error"] (defScope s_l_kinds) := ⟨rfl, rfl, rfl, by decide +kernel, rfl, by decide +kernel, by decide +kernel⟩
def d_l_kinds : He.DefD := ⟨("_law_kinds", none), "_law_kinds", "_law_kinds", defArgs s_l_kinds, defBody s_l_kinds, defScope s_l_kinds, [], []⟩
abbrev s_l_bases : Stmt := top 54
abbrev N_l_bases : List Str := ["_law_word", "_law_places", "_law_k"]
theorem sc_l_bases : FnScope N_l_bases ["_law_word"] (defScope s_l_bases) := ⟨rfl, rfl, rfl, by decide +kernel, rfl, by decide +kernel, by decide +kernel⟩
def d_l_bases : He.DefD := ⟨("_law_bases", none), "_law_bases", "_law_bases", defArgs s_l_bases, defBody s_l_bases, defScope s_l_bases, [], []⟩
abbrev s_l_are_days : Stmt := top 55
abbrev N_l_are_days : List Str := ["_law_order", "_law_days", "_law_riders", "_law_one"]
theorem sc_l_are_days : FnScope N_l_are_days ["_law_order", "_law_days"] (defScope s_l_are_days) := ⟨rfl, rfl, rfl, by decide +kernel, rfl, by decide +kernel, by decide +kernel⟩
def d_l_are_days : He.DefD := ⟨("_law_are_days", none), "_law_are_days", "_law_are_days", defArgs s_l_are_days, defBody s_l_are_days, defScope s_l_are_days, [], []⟩
abbrev s_l_right : Stmt := top 56
abbrev N_l_right : List Str := ["_law_order", "_law_name", "_law_found", "_law_way", "_law_ahead", "_law_again", "_law_gain", "_law_turns", "_law_riders", "_law_line", "_law_credit", "_law_turn"]
theorem sc_l_right : FnScope N_l_right ["_law_order", "_law_name", "_law_found", "_law_way"] (defScope s_l_right) := ⟨rfl, rfl, rfl, by decide +kernel, rfl, by decide +kernel, by decide +kernel⟩
def d_l_right : He.DefD := ⟨("_law_right", none), "_law_right", "_law_right", defArgs s_l_right, defBody s_l_right, defScope s_l_right, [], []⟩
abbrev s_l_refused : Stmt := top 57
abbrev N_l_refused : List Str := ["_law_order", "_law_name", "_law_caught", "e", "_law_found", "_law_bases_here"]
theorem sc_l_refused : FnScope N_l_refused ["_law_order", "_law_name"] (defScope s_l_refused) := ⟨rfl, rfl, rfl, by decide +kernel, rfl, by decide +kernel, by decide +kernel⟩
def d_l_refused : He.DefD := ⟨("_law_refused", none), "_law_refused", "_law_refused", defArgs s_l_refused, defBody s_l_refused, defScope s_l_refused, [], []⟩
abbrev s_l_apart : Stmt := top 58
abbrev N_l_apart : List Str := ["_law_rows", "_law_row", "_law_day", "_law_sizes"]
theorem sc_l_apart : FnScope N_l_apart ["_law_rows"] (defScope s_l_apart) := ⟨rfl, rfl, rfl, by decide +kernel, rfl, by decide +kernel, by decide +kernel⟩
def d_l_apart : He.DefD := ⟨("_law_apart", none), "_law_apart", "_law_apart", defArgs s_l_apart, defBody s_l_apart, defScope s_l_apart, [], []⟩
abbrev s_law : Stmt := top 59
abbrev N_law : List Str := ["_law_script", "_law_held_here", "_law_names_here", "_law_order", "_law_name", "_law_told", "_law_found", "_law_way", "_law_odd"]
theorem sc_law : FnScope N_law ["_law_script"] (defScope s_law) := ⟨rfl, rfl, rfl, by decide +kernel, rfl, by decide +kernel, by decide +kernel⟩
def d_law : He.DefD := ⟨("law", none), "law", "law", defArgs s_law, defBody s_law, defScope s_law, [], []⟩
def fn : List He.DefD := [d__wall, d_NoKind_init, d_Nought_init, d_NoShare_init, d_Uneven_init, d_BadName_init, d_NoNumber_init, d_NoRide_init, d_NoText_init, d_NoName_init, d_NoDay_init, d_NoSeats_init, d_TooMany_init, d_Taken_init, d_NoRule_init, d_NothingDone_init, d_NoRow_init, d_is_whole, d_is_between, d_is_name, d_is_order, d_is_rule, d_row_of, d_common_part, d_Share_init, d_Share_eq, d_Share_str, d_Share_repr, d_Share_plus, d_Share_less, d_Share_times, d_Share_over, d_Share_below, d_Share_whole, d_check_in_order, d_runaway, d_names_of, d_first_memory, d_least_driver, d_driver_by, d_parts_behind, d_line_behind, d_rounds_behind, d_memory_behind, d_Turns_init, d_Turns_eq, d_Turns_len, d_Turns_check_riders, d_Turns_who, d_Turns_ride, d_Turns_stands, d_Turns_drives, d_Turns_memory, d_l_held, d_l_draw, d_l_names, d_l_low, d_l_add, d_l_pair, d_l_kinds, d_l_bases, d_l_are_days, d_l_right, d_l_refused, d_l_apart, d_law]
end K40
set_option Elab.async false
set_option linter.all false
set_option maxRecDepth 100000
set_option maxHeartbeats 4000000
/-! GX: own exceptions over any built-in base, whose own __init__ calls the base's and stores a field. -/
namespace GX
open PySem PySem.Spec PyProof.Rows L2

/-- what the written part tells of the class -/
structure Gx (K : PySem.W.Frag) (C : Addr) (bmB : List Value) (nid : String) : Prop where
  over : PySem.W.excOver K C bmB = true
  made : PySem.W.excInitIn K C bmB nid = true
  hasd : ∃ cd, PySem.W.clsIn K C = some cd ∧ cd.hasDict = true
  sets : PySem.W.findIn K (.ref C) "__setattr__" = some (some (.builtin "object.__setattr__"))
  base : PySem.W.subIn K (.ref C) (.type "BaseException") = some true
  typ : PySem.W.typeIn K (.ref C) = some (.type "type")
  keep : PySem.W.keepIn K (.ref C) = true

section
open Builtin Builtin.ObjectAttr
variable {prog : Program} {w : World} {A : Around} {R : Result → Shared → Prop} {hp : Heap} {g : Array GenState} {d : Drawn} {t : Nat} {os : OsState} {B : String} {bmB : List Value}
theorem first_store {K : PySem.W.Frag} {name : Str} {tk : Tok} {v : Value} {x C : Addr} {fv : Array Value} {cd : ClassData} (SF : StoreFacts B bmB "object.__setattr__" "object")
    (X : K.In hp) (hx : hp.get? x = some { cls := .ref C, data := .fields fv }) (ho : PySem.W.excOver K C bmB = true) (hc : PySem.W.clsIn K C = some cd) (hd : cd.hasDict = true)
    (hf : PySem.W.findIn K (.ref C) name = some none)
    (post : ∀ h' tk' dx, (∀ b o, b ≠ x → hp.get? b = some o → h'.get? b = some o) → hp.objs.size ≤ dx → dx ≠ x →
      h'.get? x = some { cls := .ref C, dict := some dx, data := .fields fv } → h'.Ns1 dx (fun y => if y = name then some v else none) → R (.ok (.ret .none)) ⟨h', g, d, tk', os⟩) :
    codeAny (model prog w) A (.call (.builtin "object.__setattr__") ⟨[.ref x, .str name tk, v], []⟩) R ⟨hp, g, d, t, os⟩ := by
  have inst : PySem.W.InstAt hp x { cls := .ref C, data := .fields fv } C none := ⟨hx, rfl, rfl, trivial⟩
  have far : x ≠ hp.objs.size := Nat.ne_of_lt (Heap.lt_size hx)
  have lc : PySem.W.Looks (model prog w) hp (classData C) cd := PySem.W.looks_clsIn X hc
  refine PySem.W.osa_openX (r := none) SF X inst ho (by unfold PySem.W.takerIn; rw [hf]; rfl) fun b => ?_
  dsimp only
  obtain ⟨n1, n2, n3, n4, n5, n6, n7, n8, n9, n10, n11⟩ := cd
  dsimp only at hd
  subst hd
  unfold storeInOwnDict ownDictForStores
  repeat (first | with_reducible refine PySem.HandSPX.store_in_new ?_ ?_ | with_reducible refine wpAny_loadPart_at hx ?_ | with_reducible refine lc.at ?_ | wp_step)
  · exact ⟨_, #[], _, (Heap.get?_update_ne _ _ _ _ far.symm).trans (Heap.get?_push_at rfl rfl), rfl, fun e he => absurd he (by simp), fun _ => rfl⟩
  · intro h' tk' hn hs
    have hx1 : (hp.push { cls := .type "dict", data := .dict #[] }).get? x = some { cls := .ref C, data := .fields fv } := Heap.get?_push_of_some _ hx
    refine post h' tk' hp.objs.size (fun b o hb hob => ?_) (Nat.le_refl _) far.symm ?_ hn
    · have e1 := hs.2 b (Nat.ne_of_lt (Heap.lt_size hob))
      rw [e1, Heap.get?_update_ne _ _ _ _ hb]
      exact Heap.get?_push_of_some _ hob
    · rw [hs.2 x far]
      exact Heap.get?_update_self _ hx1 rfl
end

section
variable {X : Cx} {pins : List (Addr × Obj)} {σ : L2.St} {H : Hp} {s : Shared} {a C dx : Addr} {f : Str} {y : V} {u : Value} {Q : Unit → Shared → Prop} {E : Value → Shared → Prop} {A : Around} {B : String} {bmB : List Value} {nid iid : String}
/-- self.f = y, the first store -/
theorem put_first (SF : StoreFacts B bmB "object.__setattr__" "object") (T : Gx X.K C bmB nid) (I : Inv X pins σ H s) (e : H a = some (exo a C none)) (hno : PySem.W.findIn X.K (.ref C) f = some none) (ry : RelV y u)
    (post : ∀ dx s', H dx = none → dx ≠ a → Inv X pins σ (upd (upd H dx (exd dx [(f, y)])) a (exo a C (some dx))) s' → Q () s') : wpAny (model X.prog X.w) A (setAttr (.ref a) f u) Q E s := by
  obtain ⟨cd, hcd, hdd⟩ := T.hasd
  obtain ⟨t1, at1⟩ := exo_at I.hok e
  obtain ⟨hp, g, d, t, os⟩ := s
  refine PySem.W.set_plain I.kIn (ox := { cls := .ref C, dict := none, data := .fields #[.ref t1, .none, .none, .none, .bool false, .none] }) (od := none) ⟨at1, rfl, rfl, trivial⟩ T.sets ?_
  refine first_store SF I.kIn at1 T.over hcd hdd hno (fun h' tk' dx kp dn dne hx hn => ?_)
  have fresh : H dx = none := I.hok.fresh dn
  have old : ∀ {b : Addr} {o : Obj}, hp.get? b = some o → b ≠ dx := fun {b o} q => Nat.ne_of_lt (Nat.lt_of_lt_of_le (Heap.lt_size q) dn)
  have other : ∀ {b : Addr}, H b = none → b ≠ a := fun {b} n z => by
    rw [z, e] at n
    cases n
  have un : Un X.fs [] H (upd (upd H dx (exd dx [(f, y)])) a (exo a C (some dx))) hp h' := {
    keep := fun b o q n _ _ => kp b o (other n) q
    slot := fun b o q n _ _ => ⟨o.slots, kp b o (other n) q⟩
    free := fun b o q n _ => by rw [upd_ne (other n), upd_ne (old q)]; exact n
    there := fun b o q _ => by
      by_cases hb : b = a
      · exact ⟨_, hb ▸ hx⟩
      · exact ⟨o, kp b o hb q⟩
    tups := fun b xs q => by rw [upd_ne (at_ne e q exo_tup), upd_ne (ne_of_none q fresh)]; exact q
    frzs := fun b o v q => by rw [upd_ne (at_ne e q exo_frz), upd_ne (ne_of_none q fresh)]; exact q
    tbls := fun b ps q => ⟨#[], by rw [upd_ne (at_ne e q exo_tbl), upd_ne (ne_of_none q fresh), q]; simp⟩ }
  refine post dx _ fresh dne (I.un (t' := tk') un fun b o q => ?_)
  by_cases hb : b = a
  · subst hb
    rw [upd_same] at q
    cases q
    exact exo_ok hx
  · rw [upd_ne hb] at q
    by_cases hd : b = dx
    · subst hd
      rw [upd_same] at q
      cases q
      exact exd_ok hn (relO_put (fs := []) ry fun g => True.intro)
    · rw [upd_ne hd] at q
      refine (I.hok b o q).stay (fun c v hc z => kp c v ?_ z) (fun c hc => ?_) (fun c xs hc => ?_)
      · rcases hc with hc | hc
        · exact hc ▸ hb
        · exact at_ne e hc exo_own
      · rw [upd_ne (at_ne e hc exo_own), upd_ne (ne_of_none hc fresh)]; exact hc
      · rw [upd_ne (at_ne e hc exo_tup), upd_ne (ne_of_none hc fresh)]; exact hc
/-- Base.__init__(self, ..) -/
theorem base_init {us : List Value} {Q : Value → Shared → Prop} (FB : ExcBaseFacts B nid iid bmB) (T : Gx X.K C bmB nid) (I : Inv X pins σ H s) (e : H a = some (exo a C none)) (hl : us.length ≤ sizeLine) (post : ∀ s', Inv X pins σ H s' → Q .none s') :
    wpAny (model X.prog X.w) A (call (.builtin iid) (.ref a :: us)) Q E s := by
  obtain ⟨nm, N, qn, bs, bm, hdct, sn, sub, ab, col, dd, k0, k1, k2, k3, k5, hC, hT⟩ := PySem.W.excInit_of I.kIn T.made
  obtain ⟨t1, at1⟩ := exo_at I.hok e
  obtain ⟨hp, g, d, t, os⟩ := s
  refine wpAny_call (PySem.HandSPX.init_base FB hT hC at1 hl fun h' t2 kp hx => ?_)
  have J := I.write (t' := t) (x := a) (e := a) (o := exo a C none) (by rw [e]; exact True.intro) (.inl rfl) kp ⟨_, hx⟩ (exo_ok hx)
  have same : upd H a (exo a C none) = H := funext fun b => by
    by_cases hb : b = a
    · rw [hb, upd_same, e]
    · rw [upd_ne hb]
  rw [same] at J
  exact post _ J
end

/-! ### readings and rules -/
/-- Base.__init__(self, ..) -/
def tBi (K : PySem.W.Frag) (bmB : List Value) (nid : String) (ta : TA) : TE := fun σ H Q => ta σ H fun vs H1 => ∃ (a C : Addr) (ws : List V), vs = .ref a :: ws ∧ ws.length ≤ 1000 ∧ Gx K C bmB nid ∧ H1 a = some (exo a C none) ∧ Q .non H1
/-- self.f = e, the first one -/
def tPf (K : PySem.W.Frag) (bmB : List Value) (nid : String) (f : Str) (to te : TE) : TS := fun D σ H => te σ H fun y H1 => to σ H1 fun x H2 => ∃ a C : Addr, x = .ref a ∧ Gx K C bmB nid ∧ PySem.W.findIn K (.ref C) f = some none ∧
  H2 a = some (exo a C none) ∧ ∀ dx, H2 dx = none → dx ≠ a → D.nx σ (upd (upd H2 dx (exd dx [(f, y)])) a (exo a C (some dx)))
section
variable {X : Cx} {o e : Expr} {es : List Expr} {to te : TE} {ta : TA} {f : Str} {p p' p1 p2 pos : Pos} {B nid iid : String} {bmB : List Value} {x : Str}
theorem pe_bi {pl : Sem Bool} (FB : ExcBaseFacts B nid iid bmB) (hg : Gl X x) (hm : X.mg x = none) (hv : bootBuiltins x = some (.type B)) (ty : typeOf (.type B) = pure (.type "type"))
    (vV : PySem.W.findCls X.K (.type B) (.type "type") "__init__" = some (.val (.builtin iid))) (hb : PySem.W.handedIn (.builtin iid) = true) (hst : Manifest.isStub B = false) (ha : PA X (e :: es) ta)
    (hc : eval (.Call (.Attribute (.Name x p1) "__init__" p2) (e :: es) [] pos) X.env = (do
      let ov ← eval (.Name x p1) X.env
      standAt p2.atName
      let (f, first) ← holding [ov] (getMethod ov "__init__" pl)
      callWith pos f first (backTo pos (starEach (e :: es) X.env)) (backToKw pos (keywordEach [] X.env))) := by rfl)
    (hn : x ≠ "__name__" := by decide) (hd : (x == ("__debug__" : Str)) = false := by decide)
    (he : starEach (e :: es) X.env = (false, eval e X.env) :: starEach es X.env := by rfl) (hpl : (backTo pos (starEach es X.env)).any (·.1) = false := by rfl) :
    PE X (.Call (.Attribute (.Name x p1) "__init__" p2) (e :: es) [] pos) (tBi X.K bmB nid ta) := by
  refine ⟨fun pins s σ H Q I h => ?_⟩
  refine PySem.W.methodCall_KW (ld_blt I hg hm hv ?_ hn hd) hc
  obtain ⟨m, fr⟩ := I.fr
  refine PySem.W.method_type fr I.ok.mod.kin ty hst vV hb ?_
  show wpAny _ _ (callWith pos (Value.builtin iid) [] (backTo pos (starEach (e :: es) X.env)) []) _ _ _
  refine PyProof.Rows.callWith_method1 (thn (ha.run pos pins _ σ H _ (I.tok _) h) fun us s1 hh => ?_) he hpl
  obtain ⟨vs, H1, I1, r1, a, C, ws, ev, hl, T, ea, q⟩ := hh
  subst ev
  cases r1 with
  | @cons _ u0 _ ur ra rw' =>
    obtain rfl : u0 = Value.ref a := ra
    have hlen : ur.length ≤ sizeLine := by
      have := Paired.length rw'
      rw [sizeLine_eq]
      omega
    exact base_init FB T I1 ea hlen fun s' J => ⟨.non, H1, J, rfl, q⟩
theorem ps_pf (SF : StoreFacts B bmB "object.__setattr__" "object") (ho : PE X o to) (he : PE X e te) (hs : swapsWith e (some (.Attribute o f p')) pos.line X.env = pure false := by rfl) : PS X (.Assign [.Attribute o f p'] e pos) (tPf X.K bmB nid f to te) := by
  refine ⟨fun pins s σ H D I h => ?_⟩
  refine plainObj_wpAny_Assign_Attribute (thn (he.run pins s σ H _ I h) fun v s1 h1 => ?_) hs
  obtain ⟨y, H1, I1, r1, q1⟩ := h1
  refine thn (ho.run pins s1 σ H1 _ I1 q1) fun u s2 h2 => ?_
  obtain ⟨z, H2, I2, r2, a, C, ex, T, hno, ea, q⟩ := h2
  subst ex
  obtain rfl : u = Value.ref a := r2
  exact put_first SF T I2 ea hno r1 fun dx s' n ne J => ⟨σ, _, J, q dx n ne⟩
/-- C(e, ..) as what is raised, C's own __init__ keeping sp -/
theorem pmk_gx {CX : CXT} {C fI : Addr} {k : Nat} {fd : FuncData} {ps : List Str} {sp : Sp} {ds : List Value} {dvs : List V} (FB : ExcBaseFacts B nid iid bmB) (T : Gx X.K C bmB nid) (iC : PySem.W.findIn X.K (.ref C) "__init__" = some (some (.ref fI)))
    (tI : PySem.W.typeIn X.K (.ref fI) = some (.type "function"))
    (F1 : FnOk X.prog X.w X.K X.mg X.base CX k fI fd ps sp) (hr : Room (k + 1) X.A) (hb : Binds X.K fd ps ds) (hd : Vals dvs ds) (hx : Passes CX X (fun _ _ _ => False)) (hg : Gl X x) (hm : X.mg x = some (.ref C)) (ha : PA X (e :: es) ta)
    (hdb : (x == ("__debug__" : Str)) = false := by decide) (he : starEach (e :: es) X.env = (false, eval e X.env) :: starEach es X.env := by rfl) (hpl : (backTo pos (starEach es X.env)).any (·.1) = false := by rfl) :
    PMk X (.Call (.Name x p) (e :: es) [] pos) (tMkO C sp dvs ta) := by
  intro pins s σ H Q I h
  refine wpAny_Call_Name_kw (ld_glob I hg hm ?_ hdb)
  refine PySem.W.callWith_K (h₀ := X.base) I.ok.mod.kin T.keep (thn (ha.run pos pins s σ H _ I h) fun us s1 hh => ?_) he hpl
  obtain ⟨vs, H1, I1, r1, hz, q1⟩ := hh
  refine ⟨I1.kIn, ?_⟩
  show wpAny _ _ (call (.ref C) us) _ _ _
  obtain ⟨nm, N, qn, bs, bm, hdct, sn, sub, ab, col, dd, k0, k1, k2, k3, k5, hC, hT⟩ := PySem.W.excInit_of I1.kIn T.made
  obtain ⟨hp, g, dr, tk, os⟩ := s1
  have big : hp.objs.size ≤ hp.objs.size + 1 := Nat.le_succ _
  have hq := q1 (hp.objs.size + 1) (I1.hok.fresh big)
  have kk : ∀ b o, hp.get? b = some o → ((hp.push (PySem.W.kdv_tup us)).push (PySem.HandSPX.excO C hp.objs.size)).get? b = some o := fun b o z =>
    Heap.get?_push_of_some _ (Heap.get?_push_of_some _ z)
  have there : ((hp.push (PySem.W.kdv_tup us)).push (PySem.HandSPX.excO C hp.objs.size)).get? (hp.objs.size + 1) = some (PySem.HandSPX.excO C hp.objs.size) := by heap_get
  have I2 := I1.laid (t' := tk) (a := hp.objs.size + 1) (o := exo (hp.objs.size + 1) C none) (h' := (hp.push (PySem.W.kdv_tup us)).push (PySem.HandSPX.excO C hp.objs.size)) kk big (exo_ok there)
  have r2 : Vals (V.ref (hp.objs.size + 1) :: (vs ++ dvs)) (Value.ref (hp.objs.size + 1) :: (us ++ ds)) := .cons rfl (r1.append hd)
  have hl : (Value.ref (hp.objs.size + 1) :: us ++ ds).length = ps.length := by
    have e1 := r2.length
    rw [F1.len _ _ _ _ hq] at e1
    exact e1.symm
  have few : us.length ≤ sizeLine := by
    have := Paired.length r1
    rw [sizeLine_eq]
    omega
  refine wpAny_call (PySem.HandSPX.call_own FB hT hC (PySem.W.looks_findIn I1.kIn iC) (fun self => PySem.W.bind_fn I1.kIn self tI) few (codeAny_mono
    (F1.run _ X.stack _ _ ⟨Value.ref (hp.objs.size + 1) :: us, []⟩ (Value.ref (hp.objs.size + 1) :: (us ++ ds)) _ _ (fun _ _ _ => False) (hr.make C us []) (I2.env0.make C us []) (hb _ (Value.ref (hp.objs.size + 1) :: us) I2.kIn hl) r2 hq) fun r s' hq' => ?_))
  cases r with
  | error er => exact hx pins σ _ _ er s' I2 hq'
  | ok fl =>
    cases fl with
    | ret u =>
      obtain ⟨v, H2, os2, bare2, un2, hok2, rv, ev, d, fs, ea, ed, hd1, q2⟩ := hq'
      subst ev
      obtain ⟨h2, g2, d2, t2, os'⟩ := s'
      exact ⟨rv, mk_end (raises_own T.base T.typ) I1 big kk un2 hok2 os2 bare2 ea ed hd1 q2⟩
    | next => exact False.elim hq'
    | brk => exact False.elim hq'
    | cont => exact False.elim hq'
end
/-! ### the head's look at such a class -/
def hasDB (K : PySem.W.Frag) (C : Addr) : Bool := match PySem.W.clsIn K C with
  | some cd => cd.hasDict
  | none => false
/-- Base.__init__, read off the class Base -/
def vvB (K : PySem.W.Frag) (B iid : String) : Bool := match PySem.W.findCls K (.type B) (.type "type") "__init__" with
  | some (.val (.builtin n)) => n == iid
  | _ => false
theorem vvB_ok {K : PySem.W.Frag} {B iid : String} (h : vvB K B iid = true) : PySem.W.findCls K (.type B) (.type "type") "__init__" = some (.val (.builtin iid)) := by
  unfold vvB at h
  split at h
  · rename_i n e
    rw [e, eq_of_beq h]
  · cases h
/-- what isinstance asks of an own class -/
def isB (K : PySem.W.Frag) (C : Addr) : Bool := He.eqO (PySem.W.findIn K (.ref C) "__class__") (some (some (.builtin "object.__class__"))) && (He.eqO (PySem.W.specialIn K (.builtin "object.__class__") "__get__") (some (some (.builtin "getset_descriptor.__get__"))) &&
  (decide (PySem.W.takesIn K (.builtin "object.__class__") = some true) && decide (PySem.W.mroIn K C (.type "object") = some true)))
def gxB (K : PySem.W.Frag) (C : Addr) (bmB : List Value) (nid : String) : Bool := PySem.W.excOver K C bmB && (PySem.W.excInitIn K C bmB nid && (hasDB K C &&
  (He.eqO (PySem.W.findIn K (.ref C) "__setattr__") (some (some (.builtin "object.__setattr__"))) && (decide (PySem.W.subIn K (.ref C) (.type "BaseException") = some true) &&
  (decide (PySem.W.typeIn K (.ref C) = some (.type "type")) && PySem.W.keepIn K (.ref C))))))
theorem gxB_ok {K : PySem.W.Frag} {C : Addr} {bmB : List Value} {nid : String} (h : gxB K C bmB nid = true) : Gx K C bmB nid := by
  unfold gxB at h
  simp only [Bool.and_eq_true, decide_eq_true_eq] at h
  obtain ⟨h1, h2, h3, h4, h5, h6, h7⟩ := h
  refine ⟨h1, h2, ?_, He.eqO_ok h4, h5, h6, h7⟩
  unfold hasDB at h3
  split at h3
  · rename_i cd e
    exact ⟨cd, e, h3⟩
  · cases h3
end GX
set_option Elab.async false
set_option linter.all false
set_option maxRecDepth 100000
set_option maxHeartbeats 4000000
/-! GXK: own exceptions over a base that has no __new__ of its own (KeyError: LookupError's is called). -/
namespace GXK
open PySem PySem.Spec L2 PySem.HandSPX
abbrev keT : List Value := [.type "KeyError", .type "LookupError", .type "Exception", .type "BaseException", .type "object"]
/-- what is asked of the base's own __init__ -/
structure InitF (B iid : String) (bmB : List Value) : Prop where
  entry : entryFor table iid = some Builtin.«BaseException.__init__»
  split : splitId iid = some (B, "__init__")
  kind : builtinKind iid = some .slot
  row : Manifest.signature? iid = some ⟨.positional, "*", B, .self, [⟨"args", .varPos, false⟩]⟩
  star : (B != "*") = true
  has : bmB.contains (.type B) = true
  init : Slot B "__init__" iid
/-- what is asked of the __new__ that is called -/
structure NewF (Bn nid inN : String) (bmN bmB : List Value) : Prop where
  base : ExcBaseFacts Bn nid inN bmN
  has : bmB.contains (.type Bn) = true
  noA : bmB.contains (.type "AttributeError") = false
  noN : bmB.contains (.type "NameError") = false
section
variable {prog : Program} {w : World} {M : Model} {A : Around} {E : Value → Shared → Prop} {R : Result → Shared → Prop} {h : Heap} {g : Array GenState} {d : Drawn} {t : Nat} {os : OsState}
variable {nm q : Str} {C N : Addr} {bs bm bmB bmN : List Value} {hdct : Bool} {sn : List Str} {sub : List Value} {ab : Bool} {col : Option Bool} {dd : Option Addr} {k0 k1 k2 k3 k5 : Option Value} {B Bn nid iid inN : String}
theorem new_checked (F : NewF Bn nid inN bmN bmB) (like : ∀ X : String, bm.contains (.type X) = bmB.contains (.type X)) {rest : List Value} {Q : Unit → Shared → Prop} (atC : h.get? C = some (excClassObj nm q C N bs bm hdct sn sub ab col dd k0 k1 k2 k3 k5 nid)) (post : Q () ⟨h, g, d, t, os⟩) : wpAny M A (checkBuiltinCall nid ⟨.ref C :: rest, []⟩) Q E ⟨h, g, d, t, os⟩ := by
  have yes : (Value.ref C :: bm).contains (.type Bn) = true := by rw [List.contains_cons, like, F.has, Bool.or_true]
  have hstar := F.base.noStar
  simp only [checkBuiltinCall, F.base.newKind, F.base.newSplit, F.base.newRow]
  repeat (first | refine wpAny_loadPart_at atC ?_ | (refine wpAny_isSubtype_exc atC ?_; rw [yes]) | refine wpAny_staticBase_exc atC ?_ | refine wpAny_madeBy_exc atC ?_ | simp only [bne_self_eq_false, Bool.false_eq_true, if_false] | wp_step)
  exact post
theorem init_checked (F : InitF B iid bmB) (like : ∀ X : String, bm.contains (.type X) = bmB.contains (.type X)) {e : Addr} {oe : Obj} {rest : List Value} {Q : Unit → Shared → Prop} (atC : h.get? C = some (excClassObj nm q C N bs bm hdct sn sub ab col dd k0 k1 k2 k3 k5 nid)) (ate : h.get? e = some oe) (clsC : oe.cls = .ref C) (post : Q () ⟨h, g, d, t, os⟩) : wpAny M A (checkBuiltinCall iid ⟨.ref e :: rest, []⟩) Q E ⟨h, g, d, t, os⟩ := by
  have yes : (Value.ref C :: bm).contains (.type B) = true := by rw [List.contains_cons, like, F.has, Bool.or_true]
  have hshort := F.star
  simp only [checkBuiltinCall, F.kind, F.split, F.row]
  repeat (first | (with_reducible refine wpAny_loadPart_at ate ?_; rw [clsC]) | with_reducible refine wpAny_loadPart_at atC ?_ | (with_reducible refine wpAny_isSubtype_exc atC ?_; rw [yes]) | wp_step)
  refine wpAny_onRaise ?_
  have star : ∀ (a b : String) (n : Nat), Bind.check ⟨.positional, "*", B, .self, [⟨"args", .varPos, false⟩]⟩ a b n (List.map (fun x => x.fst) ({ pos := Value.ref e :: rest } : Args).kw) = pure () := fun a b n => check_star_args _ _ _ _ _ _
  rw [star]
  exact wpAny_pure post
theorem made (F : NewF Bn nid inN bmN bmB) (like : ∀ X : String, bm.contains (.type X) = bmB.contains (.type X)) {rest : List Value} (atC : h.get? C = some (excClassObj nm q C N bs bm hdct sn sub ab col dd k0 k1 k2 k3 k5 nid))
    (post : R (.ok (.ret (.ref (h.objs.size + 1)))) ⟨(h.push (W.kdv_tup rest)).push (excO C h.objs.size), g, d, t, os⟩) (few : rest.length ≤ sizeLine) : codeAny (model prog w) A (.builtin nid ⟨.ref C :: rest, []⟩) R ⟨h, g, d, t, os⟩ := by
  have hends := F.base.ends
  have c1 : (Value.ref C :: bm).contains (.type Bn) = true := by rw [List.contains_cons, like, F.has, Bool.or_true]
  have c2 : (Value.ref C :: bm).contains (.type "AttributeError") = false := by rw [List.contains_cons, like, F.noA]; rfl
  have c3 : (Value.ref C :: bm).contains (.type "NameError") = false := by rw [List.contains_cons, like, F.noN]; rfl
  refine codeAny_builtinAt F.base.entry ?_
  unfold Builtin.«BaseException.__new__»; refine wpAt_bind ?_
  show wpAt _ _ _ (stack >>= _) _ _ _; refine wpAt_bind (wpAt_stack fun p below => wpAt_of_wpAny ?_)
  wp_walk
  refine wpAt_of_wpAny ?_
  rw [F.base.owner]
  repeat (first | with_reducible refine wpAny_madeHere_exc F.base.canon atC ?_ | with_reducible refine wpAny_loadPart_at atC ?_ | (with_reducible refine wpAny_isSubtype_exc atC ?_; first | rw [c1] | rw [c2] | rw [c3]) | wp_step)
  show R _ _
  rw [Heap.size_push]
  exact post
theorem type_called (F : NewF Bn nid inN bmN bmB) (like : ∀ X : String, bm.contains (.type X) = bmB.contains (.type X)) {rest : List Value} {fI : Addr} {Q : Fin → Shared → Prop} (atC : h.get? C = some (excClassObj nm q C N bs bm hdct sn sub ab col dd k0 k1 k2 k3 k5 nid))
    (hi : W.Looks (model prog w) h (typeLookup (.ref C) "__init__") (some (.ref fI))) (hb : ∀ self, W.Looks (model prog w) h (bindSpecial (.ref fI) self) (.ref fI, [self])) (few : rest.length ≤ sizeLine)
    (run : codeAny (model prog w) A (.call (.ref fI) ⟨.ref (h.objs.size + 1) :: rest, []⟩) (fun r s' => match r with | .ok (.ret v) => v = .none ∧ Q (.done (.ret (.ref (h.objs.size + 1)))) s' | .ok _ => False | .error e => E e s') ⟨(h.push (W.kdv_tup rest)).push (excO C h.objs.size), g, d, t, os⟩) :
    wpAny (model prog w) A (Builtin.«type.__call__» ⟨.ref C :: rest, []⟩) Q E ⟨h, g, d, t, os⟩ := by
  repeat (first | with_reducible refine wpAny_loadPart_at atC ?_ | with_reducible refine wpAny_madeBy_exc atC ?_ | wp_step)
  refine codeAny_call_builtin_code (Code.quiet_builtin _ F.base.quiet) (new_checked F like atC ?_)
  refine made F like atC ?_ few
  show wpAny _ _ _ _ _ _
  have keep : ∀ b o, h.get? b = some o → ((h.push (W.kdv_tup rest)).push (excO C h.objs.size)).get? b = some o := fun b o e => Heap.get?_push_of_some _ (Heap.get?_push_of_some _ e)
  have atC1 := keep _ _ atC
  have ate : ((h.push (W.kdv_tup rest)).push (excO C h.objs.size)).get? (h.objs.size + 1) = some (excO C h.objs.size) := by heap_get
  have own : (Value.ref C :: bm).contains (.ref C) = true := by simp
  have look := hi.keeps keep
  have bnd := (hb (.ref (h.objs.size + 1))).keeps keep
  unfold isInstance
  repeat (first | with_reducible refine wpAny_loadPart_at ate ?_ | (with_reducible refine wpAny_isSubtype_exc atC1 ?_; rw [own]) | wp_step)
  show wpAny _ _ (typeLookup (.ref C) _) _ _ _; refine look.at ?_
  refine wpAny_holding (wpAny_bind (bnd.at ?_)); refine wpAny_bind (wpAny_call (codeAny_mono run fun r s' z => ?_))
  rcases r with e | (v | _ | _ | _) <;> first | exact z | exact z.elim | skip
  obtain ⟨rfl, z⟩ := z
  first | exact wpAny_pure (wpAny_pure z) | (wp_walk; exact z)
theorem called (F : NewF Bn nid inN bmN bmB) (like : ∀ X : String, bm.contains (.type X) = bmB.contains (.type X)) {rest : List Value} {fI : Addr} (atC : h.get? C = some (excClassObj nm q C N bs bm hdct sn sub ab col dd k0 k1 k2 k3 k5 nid))
    (hi : W.Looks (model prog w) h (typeLookup (.ref C) "__init__") (some (.ref fI))) (hb : ∀ self, W.Looks (model prog w) h (bindSpecial (.ref fI) self) (.ref fI, [self])) (few : rest.length ≤ sizeLine)
    (run : codeAny (model prog w) (A.under (.builtin "type.__call__" ⟨.ref C :: rest, []⟩)) (.call (.ref fI) ⟨.ref (h.objs.size + 1) :: rest, []⟩) (W.InitBack (h.objs.size + 1) R) ⟨(h.push (W.kdv_tup rest)).push (excO C h.objs.size), g, d, t, os⟩) : codeAny (model prog w) A (.call (.ref C) ⟨rest, []⟩) R ⟨h, g, d, t, os⟩ := by
  have f1 := tc_lookup
  have f2 := tc_bind (.ref C)
  have hTy : (⟨h, g, d, t, os⟩ : Shared).TypeIs (.ref C) "type" := ⟨_, atC, rfl⟩
  refine codeAny_of_tree ?_
  show wpAny _ _ (callAny (.ref C) _) _ _ _
  repeat (any_goals (first | assumption | with_reducible refine wpAny_loadPart_at atC ?_ | wp_step))
  refine ⟨rfl, codeAny_call_builtin_at (Code.quiet_builtin _ (by decide +kernel)) entry_typeCall (wpAny_check_type_call_sub atC (type_called F like atC hi hb few (codeAny_mono run fun r s' z => ?_)))⟩
  rcases r with e | (v | _ | _ | _) <;> exact z
theorem inited (F : InitF B iid bmB) (like : ∀ X : String, bm.contains (.type X) = bmB.contains (.type X)) {e t0 : Addr} {rest : List Value} (atC : h.get? C = some (excClassObj nm q C N bs bm hdct sn sub ab col dd k0 k1 k2 k3 k5 nid)) (ate : h.get? e = some (excO C t0)) (few : rest.length ≤ sizeLine)
    (post : ∀ h' t1, (∀ b o, b ≠ e → h.get? b = some o → h'.get? b = some o) → h'.get? e = some (excO C t1) → R (.ok (.ret .none)) ⟨h', g, d, t, os⟩) : codeAny (model prog w) A (.call (.builtin iid) ⟨.ref e :: rest, []⟩) R ⟨h, g, d, t, os⟩ := by
  refine codeAny_call_builtin F.init.plain F.entry (init_checked F like atC ate rfl ?_)
  wp_walk
  refine post _ h.objs.size (fun b o hb ho => by rw [Heap.get?_update_other _ _ (Ne.symm hb)]; exact Heap.get?_push_of_some _ ho) ?_
  rw [Heap.get?_update_self _ (Heap.get?_push_of_some _ ate) rfl]; rfl
end
open PyProof.Rows
section
variable {X : Cx} {pins : List (Addr × Obj)} {σ : L2.St} {H : Hp} {s : Shared} {a C : Addr} {E : Value → Shared → Prop} {A : Around} {B Bn nid iid inN : String} {bmB bmN : List Value}
theorem base_init {us : List Value} {Q : Value → Shared → Prop} (FB : InitF B iid bmB) (T : GX.Gx X.K C bmB nid) (I : Inv X pins σ H s) (e : H a = some (exo a C none)) (few : us.length ≤ sizeLine) (post : ∀ s', Inv X pins σ H s' → Q .none s') : wpAny (model X.prog X.w) A (call (.builtin iid) (.ref a :: us)) Q E s := by
  obtain ⟨nm, N, qn, bs, bm, hdct, sn, sub, ab, col, dd, k0, k1, k2, k3, k5, hC, hT⟩ := PySem.W.excInit_of I.kIn T.made
  obtain ⟨t1, at1⟩ := exo_at I.hok e
  obtain ⟨hp, g, d, t, os⟩ := s
  refine wpAny_call (inited FB hT hC at1 few fun h' t2 kp hx => ?_)
  have J := I.write (t' := t) (x := a) (e := a) (o := exo a C none) (by rw [e]; exact True.intro) (.inl rfl) kp ⟨_, hx⟩ (exo_ok hx)
  have same : upd H a (exo a C none) = H := funext fun b => by
    by_cases hb : b = a
    · rw [hb, upd_same, e]
    · rw [upd_ne hb]
  rw [same] at J
  exact post _ J
end
section
variable {X : Cx} {e : Expr} {es : List Expr} {ta : TA} {p p1 p2 pos : Pos} {B Bn nid iid inN : String} {bmB bmN : List Value} {x : Str}
/-- Base.__init__(self, ..) -/
theorem pe_bi {pl : Sem Bool} (FB : InitF B iid bmB) (hg : Gl X x) (hm : X.mg x = none) (hv : bootBuiltins x = some (.type B)) (ty : typeOf (.type B) = pure (.type "type"))
    (vV : PySem.W.findCls X.K (.type B) (.type "type") "__init__" = some (.val (.builtin iid))) (hb : PySem.W.handedIn (.builtin iid) = true) (hst : Manifest.isStub B = false) (ha : PA X (e :: es) ta)
    (hc : eval (.Call (.Attribute (.Name x p1) "__init__" p2) (e :: es) [] pos) X.env = (do
      let ov ← eval (.Name x p1) X.env
      standAt p2.atName
      let (f, first) ← holding [ov] (getMethod ov "__init__" pl)
      callWith pos f first (backTo pos (starEach (e :: es) X.env)) (backToKw pos (keywordEach [] X.env))) := by rfl)
    (hn : x ≠ "__name__" := by decide) (hd : (x == ("__debug__" : Str)) = false := by decide)
    (he : starEach (e :: es) X.env = (false, eval e X.env) :: starEach es X.env := by rfl) (hpl : (backTo pos (starEach es X.env)).any (·.1) = false := by rfl) :
    PE X (.Call (.Attribute (.Name x p1) "__init__" p2) (e :: es) [] pos) (GX.tBi X.K bmB nid ta) := by
  refine ⟨fun pins s σ H Q I h => ?_⟩
  refine PySem.W.methodCall_KW (ld_blt I hg hm hv ?_ hn hd) hc
  obtain ⟨m, fr⟩ := I.fr
  refine PySem.W.method_type fr I.ok.mod.kin ty hst vV hb ?_
  show wpAny _ _ (callWith pos (Value.builtin iid) [] (backTo pos (starEach (e :: es) X.env)) []) _ _ _
  refine PyProof.Rows.callWith_method1 (thn (ha.run pos pins _ σ H _ (I.tok _) h) fun us s1 hh => ?_) he hpl
  obtain ⟨vs, H1, I1, r1, a, C, ws, ev, hl, T, ea, q⟩ := hh
  subst ev
  cases r1 with
  | @cons _ u0 _ ur ra rw' =>
    obtain rfl : u0 = Value.ref a := ra
    have few : ur.length ≤ sizeLine := by
      have := Paired.length rw'
      rw [sizeLine_eq]
      omega
    exact base_init FB T I1 ea few fun s' J => ⟨.non, H1, J, rfl, q⟩
/-- C(e, ..) as what is raised -/
theorem pmk {CX : CXT} {C fI : Addr} {k : Nat} {fd : FuncData} {ps : List Str} {sp : Sp} {ds : List Value} {dvs : List V} (FB : NewF Bn nid inN bmN bmB) (T : GX.Gx X.K C bmB nid) (iC : PySem.W.findIn X.K (.ref C) "__init__" = some (some (.ref fI)))
    (tI : PySem.W.typeIn X.K (.ref fI) = some (.type "function"))
    (F1 : FnOk X.prog X.w X.K X.mg X.base CX k fI fd ps sp) (hr : Room (k + 1) X.A) (hb : Binds X.K fd ps ds) (hd : Vals dvs ds) (hx : Passes CX X (fun _ _ _ => False)) (hg : Gl X x) (hm : X.mg x = some (.ref C)) (ha : PA X (e :: es) ta)
    (hdb : (x == ("__debug__" : Str)) = false := by decide) (he : starEach (e :: es) X.env = (false, eval e X.env) :: starEach es X.env := by rfl) (hpl : (backTo pos (starEach es X.env)).any (·.1) = false := by rfl) :
    PMk X (.Call (.Name x p) (e :: es) [] pos) (tMkO C sp dvs ta) := by
  intro pins s σ H Q I h
  refine wpAny_Call_Name_kw (ld_glob I hg hm ?_ hdb)
  refine PySem.W.callWith_K (h₀ := X.base) I.ok.mod.kin T.keep (thn (ha.run pos pins s σ H _ I h) fun us s1 hh => ?_) he hpl
  obtain ⟨vs, H1, I1, r1, hz, q1⟩ := hh
  refine ⟨I1.kIn, ?_⟩
  show wpAny _ _ (call (.ref C) us) _ _ _
  obtain ⟨nm, N, qn, bs, bm, hdct, sn, sub, ab, col, dd, k0, k1, k2, k3, k5, hC, hT⟩ := PySem.W.excInit_of I1.kIn T.made
  obtain ⟨hp, g, dr, tk, os⟩ := s1
  have big : hp.objs.size ≤ hp.objs.size + 1 := Nat.le_succ _
  have hq := q1 (hp.objs.size + 1) (I1.hok.fresh big)
  have kk : ∀ b o, hp.get? b = some o → ((hp.push (PySem.W.kdv_tup us)).push (excO C hp.objs.size)).get? b = some o := fun b o z => Heap.get?_push_of_some _ (Heap.get?_push_of_some _ z)
  have there : ((hp.push (PySem.W.kdv_tup us)).push (excO C hp.objs.size)).get? (hp.objs.size + 1) = some (excO C hp.objs.size) := by heap_get
  have I2 := I1.laid (t' := tk) (a := hp.objs.size + 1) (o := exo (hp.objs.size + 1) C none) (h' := (hp.push (PySem.W.kdv_tup us)).push (excO C hp.objs.size)) kk big (exo_ok there)
  have r2 : Vals (V.ref (hp.objs.size + 1) :: (vs ++ dvs)) (Value.ref (hp.objs.size + 1) :: (us ++ ds)) := .cons rfl (r1.append hd)
  have hl : (Value.ref (hp.objs.size + 1) :: us ++ ds).length = ps.length := by
    have e1 := r2.length
    rw [F1.len _ _ _ _ hq] at e1
    exact e1.symm
  have few : us.length ≤ sizeLine := by
    have := Paired.length r1
    rw [sizeLine_eq]
    omega
  refine wpAny_call (called FB hT hC (PySem.W.looks_findIn I1.kIn iC) (fun self => PySem.W.bind_fn I1.kIn self tI) few (codeAny_mono
    (F1.run _ X.stack _ _ ⟨Value.ref (hp.objs.size + 1) :: us, []⟩ (Value.ref (hp.objs.size + 1) :: (us ++ ds)) _ _ (fun _ _ _ => False) (hr.make C us []) (I2.env0.make C us []) (hb _ (Value.ref (hp.objs.size + 1) :: us) I2.kIn hl) r2 hq) fun r s' hq' => ?_))
  cases r with
  | error er => exact hx pins σ _ _ er s' I2 hq'
  | ok fl =>
    cases fl with
    | ret u =>
      obtain ⟨v, H2, os2, bare2, un2, hok2, rv, ev, d, fs, ea, ed, hd1, q2⟩ := hq'
      subst ev
      obtain ⟨h2, g2, d2, t2, os'⟩ := s'
      exact ⟨rv, mk_end (raises_own T.base T.typ) I1 big kk un2 hok2 os2 bare2 ea ed hd1 q2⟩
    | next => exact False.elim hq'
    | brk => exact False.elim hq'
    | cont => exact False.elim hq'
end
/-! KeyError -/
theorem initKE : InitF "KeyError" "KeyError.__init__" keT where
  entry := excClass_KeyError.initEntry
  split := by decide +kernel
  kind := by decide +kernel
  row := by kernel_rfl
  star := by decide +kernel
  has := by decide +kernel
  init := excClass_KeyError.init
theorem newKE : NewF "LookupError" "LookupError.__new__" "LookupError.__init__" [.type "LookupError", .type "Exception", .type "BaseException", .type "object"] keT where
  base := PySem.F.excBase_LookupError
  has := by decide +kernel
  noA := by decide +kernel
  noN := by decide +kernel
theorem storeKE : StoreFacts "KeyError" keT "object.__setattr__" "object" where
  mro := by kernel_rfl
  slot := .of (owner := "object") (n := "__setattr__") (by rw [typeLookup_type, builtinLookup_eq_fast]; kernel_rfl) (by decide +kernel) (by decide +kernel) (by decide +kernel) (by first | exact .inl (by decide +kernel) | exact .inr (by decide +kernel)) (by rw [isSubtype_type]; kernel_rfl)
  entry := PySem.F.store_ZeroDivisionError.entry
  kind := by decide +kernel
  split := by decide +kernel
  hasOwner := by decide +kernel
  args := fun a b c => by unfold argsOk; kernel_rfl
  passes := fun self => by kernel_rfl
theorem typKE : typeOf (.type "KeyError") = pure (.type "type") := by kernel_rfl
end GXK
set_option Elab.async false
set_option linter.all false
set_option maxRecDepth 100000
set_option maxHeartbeats 0
namespace K40
open PySem PySem.Spec PyProof.Rows L2
def fa : List He.Fa := [.glo "is_whole", .glo "is_name", .glo "is_order", .glo "is_rule", .glo "row_of", .glo "common_part", .glo "check_in_order", .glo "runaway", .glo "names_of", .glo "first_memory", .glo "driver_by", .glo "parts_behind", .glo "line_behind", .glo "memory_behind", .glo "_law_held", .glo "_law_draw", .glo "_law_names", .glo "_law_low", .glo "_law_add", .glo "_law_pair", .glo "_law_are_days", .glo "_law_right", .glo "_law_apart", .glo "_law_kinds", .glo "_law_bases", .glo "_law_refused", .glo "law", .free "isinstance", .free "int", .free "bool", .free "abs", .free "list", .free "range", .free "len", .free "str", .free "all", .free "tuple", .free "set", .free "zip", .free "min", .free "enumerate", .free "sorted", .free "repr", .free "TypeError", .free "ZeroDivisionError", .free "ArithmeticError", .free "ValueError", .free "KeyError", .free "LookupError", .free "IndexError", .free "OverflowError", .free "RuntimeError", .free "NotImplementedError", .glo "Share", .cls "Share", .mkr "Share", .glo "Turns", .cls "Turns", .mkr "Turns", .glo "NoKind", .glo "Nought", .glo "NoShare", .glo "Uneven", .glo "BadName", .glo "NoNumber", .glo "NoRide", .glo "NoText", .glo "NoName", .glo "NoDay", .glo "NoSeats", .glo "TooMany", .glo "Taken", .glo "NoRule", .glo "NothingDone", .glo "NoRow", .noat "Share" "top", .noat "Share" "bottom", .noat "Turns" "rule", .noat "Turns" "held", .noat "Turns" "kept", .noat "Turns" "past", .noat "NoName" "name", .meth "Turns" "check_riders", .meth "Turns" "who", .meth "Turns" "ride", .meth "Turns" "stands", .meth "Turns" "memory", .meth "NoName" "__init__", .int "LONGEST_NAME" 8, .int "MOST_NAMES" 8, .int "RIDE_PARTS" 840]
abbrev R : PySem.W.OpenRow := PySem.W.OpenLaw.row PySem.Challenge.rw_rideturns_k40_beyond_every_bound_by_the
abbrev loose : List Str := [("_wall" : Str), ("NoKind" : Str), ("Nought" : Str), ("NoShare" : Str), ("Uneven" : Str), ("BadName" : Str), ("NoNumber" : Str), ("NoRide" : Str), ("NoText" : Str), ("NoName" : Str), ("NoDay" : Str), ("NoSeats" : Str), ("TooMany" : Str), ("Taken" : Str), ("NoRule" : Str), ("NothingDone" : Str), ("NoRow" : Str), ("LONGEST_NAME" : Str), ("is_whole" : Str), ("is_between" : Str), ("is_name" : Str), ("MOST_NAMES" : Str), ("MOST_GRAIN" : Str), ("is_order" : Str), ("is_rule" : Str), ("row_of" : Str), ("common_part" : Str), ("Share" : Str), ("check_in_order" : Str), ("runaway" : Str), ("RIDE_PARTS" : Str), ("names_of" : Str), ("first_memory" : Str), ("least_driver" : Str), ("driver_by" : Str), ("parts_behind" : Str), ("line_behind" : Str), ("rounds_behind" : Str), ("memory_behind" : Str), ("Turns" : Str), ("_law_held" : Str), ("_law_draw" : Str), ("_law_names" : Str), ("_law_low" : Str), ("_law_add" : Str), ("_law_pair" : Str), ("_law_kinds" : Str), ("_law_bases" : Str), ("_law_are_days" : Str), ("_law_right" : Str), ("_law_refused" : Str), ("_law_apart" : Str)]
abbrev qe16 : List Str := [("NoKind" : Str), ("Nought" : Str), ("NoShare" : Str), ("Uneven" : Str), ("BadName" : Str), ("NoNumber" : Str), ("NoRide" : Str), ("NoText" : Str), ("NoName" : Str), ("NoDay" : Str), ("NoSeats" : Str), ("TooMany" : Str), ("Taken" : Str), ("NoRule" : Str), ("NothingDone" : Str), ("NoRow" : Str)]
abbrev qe10 : List String := ["TypeError", "ZeroDivisionError", "ArithmeticError", "ValueError", "KeyError", "LookupError", "IndexError", "OverflowError", "RuntimeError", "NotImplementedError"]
def owN : Str → Bool := fun x => decide (x = "NoName")
def abN : String → Bool := fun x => x == "KeyError" || x == "LookupError"
/-- of one class -/
def xkC (K : PySem.W.Frag) (C : Addr) (bs : List Value) (nid vi : String) (ty : String) (ow : Str → Bool) (ab : String → Bool) : Bool := GX.gxB K C bs nid && (GX.vvB K ty vi && (xfB K C && (decide (PySem.W.exmOne K (.ref C) (.ref C) = some true) && (GX.isB K C &&
  (qe16.all (fun x => decide (PySem.W.kitOne K (.ref C) (.ref (He.ga K x)) = some (ow x))) && qe10.all (fun x => decide (PySem.W.kitOne K (.ref C) (.type x) = some (ab x))))))))
def xk1 (K : PySem.W.Frag) : Bool := GX.isB K (He.ga K "Share") && xkC K (He.ga K "NoName") GXK.keT "LookupError.__new__" "KeyError.__init__" "KeyError" owN abN
def xk (K : PySem.W.Frag) : Bool := (xk1) K
noncomputable def eN (w : World) (os : PySem.OsState) : Option PySem.W.SharedT := HandSHeadRun.endF (HandSHeadRun.stepQ (HandSHeadRun.denQ HandSHeadRun.tabQ) R.prog w) 8000 R.prog w os
abbrev Kf (s : PySem.W.SharedT) : PySem.W.Frag := He.frT (HandSHeadRun.getT s) (He.asD (HandSHeadRun.getT s) 6)
theorem runB (w : World) (os : PySem.OsState) : (eN w os).map (fun s => fa.all fun f => f.ok (Kf s)) = some true := by
  kernel_rfl
section
open PySem.W PySem.Calls
theorem runL (w : World) (os : PySem.OsState) : (eN w os).map (fun s => HandSHeadRun.looksF R.prog (boot_heap w.params) s.abs) = some true := by
  kernel_rfl
end
section
open PySem.W PySem.Calls
theorem runS (w : World) (os : PySem.OsState) : (eN w os).map (fun s => HandSHeadRun.seenQ (PySem.W.view R.prog [59]) loose (importedModules R.prog.main.body) (fun s => xlAt (PySem.W.view R.prog [59]) [] s && recOk R.toRowW.records s) s.abs) = some (openGood (PySem.W.view R.prog [59]) loose) := by
  kernel_rfl
end
theorem runC (w : World) (os : PySem.OsState) : (eN w os).map (fun s => (fn.all fun d => d.ok (Kf s), xk (Kf s), fn.map fun d => He.fnW (Kf s) d.at_)) = some (true, true, fn.map He.DefD.val) := by
  kernel_rfl
end K40
set_option linter.all false
namespace KM
/-- the signed common part -/
def sg (t b : Int) : Int := if b < 0 then -(Int.gcd t b : Int) else (Int.gcd t b : Int)
/-- a fraction in lowest terms -/
def low (t b : Int) : Int × Int := (t.fdiv (sg t b), b.fdiv (sg t b))
theorem gcd_pos {t b : Int} (h : b ≠ 0) : 0 < Int.gcd t b := Int.gcd_pos_of_ne_zero_right t h
theorem sg_ne {t b : Int} (h : b ≠ 0) : sg t b ≠ 0 := by
  have := gcd_pos (t := t) h
  unfold sg
  split <;> omega
theorem sg_dvd_left (t b : Int) : sg t b ∣ t := by
  unfold sg
  split
  · exact Int.neg_dvd.mpr (Int.gcd_dvd_left ..)
  · exact Int.gcd_dvd_left ..
theorem sg_dvd_right (t b : Int) : sg t b ∣ b := by
  unfold sg
  split
  · exact Int.neg_dvd.mpr (Int.gcd_dvd_right ..)
  · exact Int.gcd_dvd_right ..
theorem low_top {t b : Int} : sg t b * (low t b).1 = t := by
  show sg t b * t.fdiv (sg t b) = t
  rw [Int.fdiv_eq_ediv_of_dvd (sg_dvd_left t b)]
  exact Int.mul_ediv_cancel' (sg_dvd_left t b)
theorem low_bot {t b : Int} : sg t b * (low t b).2 = b := by
  show sg t b * b.fdiv (sg t b) = b
  rw [Int.fdiv_eq_ediv_of_dvd (sg_dvd_right t b)]
  exact Int.mul_ediv_cancel' (sg_dvd_right t b)
theorem sg_abs (t b : Int) : (sg t b).natAbs = Int.gcd t b := by
  unfold sg
  split <;> simp
theorem low_pos {t b : Int} (h : b ≠ 0) : 0 < (low t b).2 := by
  have e := low_bot (t := t) (b := b)
  have g := gcd_pos (t := t) h
  by_cases hb : b < 0
  · have hs : sg t b < 0 := by unfold sg; rw [if_pos hb]; omega
    refine Int.lt_of_not_ge fun hc => ?_
    have := Int.mul_nonneg_of_nonpos_of_nonpos (Int.le_of_lt hs) hc
    omega
  · have hs : 0 < sg t b := by unfold sg; rw [if_neg hb]; omega
    refine Int.lt_of_not_ge fun hc => ?_
    have := Int.mul_nonpos_of_nonneg_of_nonpos (Int.le_of_lt hs) hc
    omega
theorem low_cop {t b : Int} (h : b ≠ 0) : Int.gcd (low t b).1 (low t b).2 = 1 := by
  have e : Int.gcd (sg t b * (low t b).1) (sg t b * (low t b).2) = (sg t b).natAbs * Int.gcd (low t b).1 (low t b).2 := Int.gcd_mul_left ..
  rw [low_top, low_bot, sg_abs] at e
  have g := gcd_pos (t := t) h
  have : Int.gcd t b * Int.gcd (low t b).1 (low t b).2 = Int.gcd t b * 1 := by omega
  exact Nat.eq_of_mul_eq_mul_left g this
theorem low_id {t b : Int} (hb : 0 < b) (h : Int.gcd t b = 1) : low t b = (t, b) := by
  have e : sg t b = 1 := by unfold sg; rw [if_neg (by omega), h]; rfl
  unfold low
  rw [e]
  simp
theorem low_low {t b : Int} (h : b ≠ 0) : low (low t b).1 (low t b).2 = low t b := low_id (low_pos h) (low_cop h)
/-- the bottom stays: nothing is taken out -/
theorem low_same {t b : Int} (hb : 0 < b) (h : (low t b).2 = b) : low t b = (t, b) := by
  have e := low_bot (t := t) (b := b)
  rw [h] at e
  have e1 : sg t b * b = 1 * b := by omega
  have e2 := Int.eq_of_mul_eq_mul_right (Int.ne_of_gt hb) e1
  have e3 := low_top (t := t) (b := b)
  rw [e2] at e3
  refine Prod.ext ?_ h
  show (low t b).1 = t
  omega
theorem dvd_le {x y : Int} (h : x * y ≠ 0) : y.natAbs ≤ (x * y).natAbs := by
  rw [Int.natAbs_mul]
  have : x ≠ 0 := fun z => h (by rw [z, Int.zero_mul])
  exact Nat.le_mul_of_pos_left _ (by omega)
theorem low_top_le {t b : Int} (h : b ≠ 0) : (low t b).1.natAbs ≤ t.natAbs := by
  by_cases ht : t = 0
  · subst ht
    have e := low_top (t := 0) (b := b)
    rcases Int.mul_eq_zero.mp e with z | z
    · exact absurd z (sg_ne h)
    · rw [z]; exact Nat.le_refl _
  · have e := low_top (t := t) (b := b)
    have := dvd_le (x := sg t b) (y := (low t b).1) (by omega)
    rw [e] at this
    exact this
theorem low_bot_le {t b : Int} (h : b ≠ 0) : (low t b).2.natAbs ≤ b.natAbs := by
  have e := low_bot (t := t) (b := b)
  have := dvd_le (x := sg t b) (y := (low t b).2) (by omega)
  rw [e] at this
  exact this
theorem sg_le {t b : Int} (h : b ≠ 0) : (sg t b).natAbs ≤ b.natAbs := by
  have e := low_bot (t := t) (b := b)
  have := dvd_le (x := (low t b).2) (y := sg t b) (by rw [Int.mul_comm]; omega)
  rw [Int.mul_comm, e] at this
  exact this
/-- Euclid's turn over whole numbers from 0 on -/
theorem gcd_turn {a b : Int} (ha : 0 ≤ a) (hb : 0 < b) : Int.gcd b (a % b) = Int.gcd a b := by
  obtain ⟨m, rfl⟩ := Int.eq_ofNat_of_zero_le ha
  obtain ⟨n, rfl⟩ := Int.eq_ofNat_of_zero_le (Int.le_of_lt hb)
  show Nat.gcd (Int.natAbs (n : Int)) (Int.natAbs ((m : Int) % (n : Int))) = Nat.gcd (Int.natAbs (m : Int)) (Int.natAbs (n : Int))
  rw [← Int.natCast_emod, Int.natAbs_natCast, Int.natAbs_natCast, Int.natAbs_natCast, Nat.gcd_comm n, Nat.gcd_comm m n]
  exact (Nat.gcd_rec n m).symm
theorem gcd_succ (a : Int) : Int.gcd a (a + 1) = 1 := by
  have : Int.gcd (a + 1) a = Int.gcd 1 a := by
    rw [Int.add_comm, Int.gcd_add_self_left]
  rw [Int.gcd_comm, this, Int.gcd_comm]
  simp
end KM
set_option Elab.async false
set_option linter.all false
set_option maxRecDepth 100000
set_option maxHeartbeats 4000000
namespace K40
open PySem PySem.Spec PyProof.Rows L2
/-- a def of the text -/
abbrev Dn (K : PySem.W.Frag) (d : He.DefD) (f : Addr) (fd : FuncData) : Prop := FunD K d.name d.qual d.params d.body d.scope (d.dvs K) (d.kws K) f fd
/-- what the module's names are -/
structure Bl (mg : Str → Option Value) : Prop where
  isi : mg "isinstance" = none
  int : mg "int" = none
  bool : mg "bool" = none
  abs : mg "abs" = none
  list : mg "list" = none
  range : mg "range" = none
  len : mg "len" = none
theorem op_fdW {X : Cx} : OpR X (binaryOp .FloorDiv) (rI (fun _ j => j ≠ 0 ∧ j.natAbs.log2 < 9000) fun i j => .int (i.fdiv j)) := opI fun _ _ _ _ _ _ _ hc q => floordiv_int hc.1 q (.inl (PyProof.noPylong_of_log2 hc.2))
/-- the fields of a Share -/
def shF (q : Int × Int) : List (Str × V) := putF "bottom" (.int q.2) (putF "top" (.int q.1) [])
theorem tb : ¬ (("top" : Str) = "bottom") := by decide +kernel
theorem shF_top (q : Int × Int) : (shF q).lookup ("top" : Str) = some (.int q.1) := by
  unfold shF
  rw [lookup_putF, if_neg tb, lookup_putF, if_pos rfl]
theorem shF_bot (q : Int × Int) : (shF q).lookup ("bottom" : Str) = some (.int q.2) := by
  unfold shF
  rw [lookup_putF, if_pos rfl]
theorem shF_no (q : Int × Int) {m : Str} (h1 : ¬ m = "bottom") (h2 : ¬ m = "top") : (shF q).lookup m = none := by
  unfold shF
  rw [lookup_putF, if_neg h1, lookup_putF, if_neg h2]
  all_goals rfl
/-- a Share stands at p -/
def Sh (C : Addr) (H : Hp) (p : Addr) (q : Int × Int) : Prop := ∃ dx, H p = some (.ins C dx (shF q))
/-- small enough, the bottom above nought -/
def Bd (n : Nat) (q : Int × Int) : Prop := q.1.natAbs < 2 ^ n ∧ 0 < q.2 ∧ q.2.natAbs < 2 ^ n
theorem Sh.keep {C : Addr} {H H' : Hp} {p : Addr} {q : Int × Int} (s : Same H H') (h : Sh C H p q) : Sh C H' p q := let ⟨dx, e⟩ := h; ⟨dx, s _ _ e⟩
theorem log_lt {j : Int} {n : Nat} (h : j.natAbs < 2 ^ n) (h0 : 0 < n) (h9 : n ≤ 9000) : j.natAbs.log2 < 9000 := Nat.lt_of_lt_of_le (PySem.Flt.log2_lt_of h0 h) h9
/-- what is known of the class -/
structure Cl (K : PySem.W.Frag) (mg : Str → Option Value) (C : Addr) : Prop where
  cl : Cls K C
  nt : NoAttr K C "top"
  nb : NoAttr K C "bottom"
  g : mg "Share" = some (.ref C)
section
variable {P : Program} {w : World} {K : PySem.W.Frag} {mg : Str → Option Value} {base : Heap} {f C : Addr} {fd : FuncData}

def spWhole : Sp := fun vs H Q _ => ∃ n : Int, vs = [.int n] ∧ Q (.bl true) H
theorem ok_whole (F : Dn K d_is_whole f fd) (b : Bl mg) : FnOk P w K mg base CX0 1 f fd ["thing"] spWhole := by
  refine F.ok sc_is_whole (fun vs H Q E h => ?_) (fun cdv A outer s H vs Q E hr h => ?_)
  · obtain ⟨n, rfl, _⟩ := h
    rfl
  · obtain ⟨n, rfl, hQ⟩ := h
    refine ⟨_, PSs.nox (pss_one (ps_ret (pe_and
      (pe_callB call_isi rfl b.isi boot_isinstance (pa_cons (pv 0) (pa_cons (pe_bltn (v := .ty "int") rfl b.int boot_int rfl) pa_nil)))
      (pe_one (pe_not (pe_callB call_isi rfl b.isi boot_isinstance (pa_cons (pv 0) (pa_cons (pe_bltn (v := .ty "bool") rfl b.bool boot_bool rfl) pa_nil)))))))), ?_⟩
    refine ⟨_, rfl, _, _, _, _, true, rfl, ClsV.ty _, TyX.base (TyOf.int n), kit_ty (by decide +kernel), true, rfl, ?_⟩
    refine iteT ?_
    exact ⟨_, rfl, _, _, _, _, false, rfl, ClsV.ty _, TyX.base (TyOf.int n), kit_ty (by decide +kernel), false, rfl, hQ⟩
def spGcd : Sp := fun vs H Q _ => ∃ x y : Int, vs = [.int x, .int y] ∧ Q (.int (Int.gcd x y : Int)) H
theorem abs_eq (x : Int) : (if x < 0 then -x else x) = (x.natAbs : Int) := by split <;> omega
theorem ok_gcd (F : Dn K d_common_part f fd) (b : Bl mg) : FnOk P w K mg base CX0 1 f fd ["one", "other"] spGcd := by
  refine F.ok sc_common_part (fun vs H Q E h => ?_) (fun cdv A outer s H vs Q E hr h => ?_)
  · obtain ⟨x, y, rfl, _⟩ := h
    rfl
  · obtain ⟨x, y, rfl, hQ⟩ := h
    refine ⟨_, PSs.nox (pss_cons (ps_set (i := 0) sc_common_part.nd rfl (.inl rfl) (pe_callB call_abs rfl b.abs boot_abs (pa_cons (pv 0) pa_nil)))
      (pss_cons (ps_set (i := 1) sc_common_part.nd rfl (.inl rfl) (pe_callB call_abs rfl b.abs boot_abs (pa_cons (pv 1) pa_nil)))
      (pss_cons (ps_while PassesOwn.never (pt_cmpR op_ne (pv 1) pe_int (nomark _)) (pss_one (ps_par (i := 0) (j := 1) rfl sc_common_part.nd rfl rfl (by decide) rfl rfl (pa_cons (pv 1) (pa_cons (pe_op op_mod (pv 0) (pv 1)) pa_nil)) rfl)))
      (pss_one (ps_ret (pv 0)))))), ?_⟩
    refine ⟨_, rfl, _, rfl, _, rfl, _, rfl, while_by (fun σ H2 => H2 = H ∧ ∃ a c : Int, σ = [some (.int a), some (.int c)] ∧ 0 ≤ a ∧ 0 ≤ c ∧ Int.gcd a c = Int.gcd x y)
      (fun σ _ => match σ with | [_, some (.int c)] => c.toNat | _ => 0) ⟨rfl, _, _, rfl, ?_, ?_, ?_⟩ ?_ ?_⟩
    · split <;> omega
    · split <;> omega
    · rw [abs_eq, abs_eq]
      rfl
    · rintro σ H2 ⟨rfl, a, c, rfl, ha, hc, hg⟩
      refine ⟨_, rfl, rfl, _, rfl, ?_⟩
      by_cases h0 : c = 0
      · subst h0
        refine iteNS rfl ?_
        refine ⟨_, rfl, ?_⟩
        have e : Int.gcd x y = a.natAbs := by rw [← hg]; simp
        have e2 : (Int.gcd x y : Int) = a := by omega
        rw [e2] at hQ
        exact hQ
      · have hne : (!decide (V.int c = V.int 0)) = true := by simp [h0]
        rw [hne]
        refine iteT ?_
        have hp : 0 < c := by omega
        refine ⟨_, rfl, _, rfl, _, rfl, _, _, rfl, rfl, hp, _, _, rfl, ⟨rfl, _, _, rfl, hc, Int.emod_nonneg _ h0, ?_⟩, ?_⟩
        · rw [KM.gcd_turn ha hp, hg]
        · show (a % c).toNat < c.toNat
          have h1 := Int.emod_nonneg a h0
          have h2 := Int.emod_lt_of_pos a hp
          omega
    · rintro σ H2 Q1 Q2 hm ⟨v, hv, h1, k, hk, q⟩
      exact ⟨v, hv, h1, k, hk, hm _ _ q⟩
end
end K40
set_option Elab.async false
set_option linter.all false
set_option maxRecDepth 100000
set_option maxHeartbeats 4000000
namespace K40
open PySem PySem.Spec PyProof.Rows L2
open C8 (Cal Mak Met pe_c pe_mk pe_mt pe_mt0)
section
variable {P : Program} {w : World} {K : PySem.W.Frag} {mg : Str → Option Value} {base : Heap} {f C : Addr} {fd : FuncData}
abbrev CalW (P : Program) (w : World) (K : PySem.W.Frag) (mg : Str → Option Value) (base : Heap) : Prop := Cal P w K mg base 1 "is_whole" spWhole []
abbrev CalG (P : Program) (w : World) (K : PySem.W.Frag) (mg : Str → Option Value) (base : Heap) : Prop := Cal P w K mg base 1 "common_part" spGcd []
/-- __init__: a Share in lowest terms -/
def spInit (C : Addr) : Sp := fun vs H Q _ => ∃ (p dx : Addr) (t b : Int) (n : Nat), vs = [.ref p, .int t, .int b] ∧ b ≠ 0 ∧ b.natAbs < 2 ^ n ∧ 0 < n ∧ n ≤ 9000 ∧ H p = some (.ins C dx []) ∧
  ∀ H', (∀ a o, a ≠ p → H a = some o → H' a = some o) → H' p = some (.ins C dx (shF (KM.low t b))) → Q .non H'
theorem ok_init (F : Dn K d_Share_init f fd) (cW : CalW P w K mg base) (cG : CalG P w K mg base) (T : Cl K mg C) : FnOk P w K mg base CX0 2 f fd ["self", "top", "bottom"] (spInit C) := by
  refine F.ok sc_Share_init (fun vs H Q E h => ?_) (fun cdv A outer s H vs Q E hr h => ?_)
  · obtain ⟨p, dx, t, b, n, rfl, _⟩ := h
    rfl
  · obtain ⟨p, dx, t, b, n, rfl, hb, hn, hn0, hn9, hp, hQ⟩ := h
    refine ⟨_, PSs.nox (pss_cons (ps_for PassesOwn.never rfl (pi_tup (pe_tup (pa_cons (pv 1) (pa_cons (pv 2) pa_nil)))) (pg_name (i := 3) sc_Share_init.nd rfl (.inl rfl))
        (pss_one (ps_if (pt_not (pt_val (pe_c cW hr (by decide) rfl (pa_cons (pv 3) pa_nil)))) pss_never pss_nil)))
      (pss_cons (ps_if (pt_cmpR op_eq (pv 2) pe_int (nomark _)) pss_never pss_nil)
      (pss_cons (ps_set (i := 4) sc_Share_init.nd rfl (.inl rfl) (pe_c cG hr (by decide) rfl (pa_cons (pv 1) (pa_cons (pv 2) pa_nil))))
      (pss_cons (ps_if (pt_cmpR op_lt (pv 2) pe_int (nomark _)) (pss_one (ps_set (i := 4) sc_Share_init.nd rfl (.inl rfl) (pe_un un_neg (pv 4)))) pss_nil)
      (pss_cons (ps_fld (pv 0) (pe_op op_fdW (pv 1) (pv 4)) rfl)
      (pss_one (ps_fld (pv 0) (pe_op op_fdW (pv 2) (pv 4)) rfl))))))), ?_⟩
    refine ⟨_, rfl, _, rfl, by show 2 ≤ sizeLine; decide, fun u hu => ?_⟩
    have npu : p ≠ u := ne_of_none hp hu
    refine ⟨u, rfl, ⟨_, SqT.of upd_same⟩, for_tup (K := K) (xs := [.int t, .int b]) (fun i σ H2 => H2 = upd H u (.tup [.int t, .int b]) ∧ ∃ v, σ = [some (.ref p), some (.int t), some (.int b), v, none])
      ⟨rfl, none, rfl⟩ (fun i σ H2 _ h => by rw [h.1]; exact SqT.of upd_same) ?_ ?_⟩
    · rintro i y σ H2 hi ⟨rfl, v, rfl⟩
      have hy : ∃ n : Int, y = .int n := by
        match i, hi with
        | 0, e => exact ⟨t, (Option.some.inj e).symm⟩
        | 1, e => exact ⟨b, (Option.some.inj e).symm⟩
      obtain ⟨n, rfl⟩ := hy
      refine ⟨_, rfl, n, rfl, true, rfl, ?_⟩
      refine iteF ?_
      exact ⟨rfl, _, rfl⟩
    · rintro σ H2 ⟨rfl, v, rfl⟩
      refine ⟨_, rfl, rfl, _, rfl, ?_⟩
      have hb0 : decide (V.int b = V.int 0) = false := by simp [hb]
      rw [hb0]
      refine iteF ?_
      refine ⟨_, rfl, _, rfl, t, b, rfl, ?_⟩
      refine ⟨_, rfl, _, _, rfl, rfl, _, rfl, ?_⟩
      have hs9 : (KM.sg t b).natAbs.log2 < 9000 := log_lt (Nat.lt_of_le_of_lt (KM.sg_le hb) hn) hn0 hn9
      have fin : ∀ c : Int, c = KM.sg t b → ∀ v, tSeq (sFld K (tVar 0) (tOp (rI (fun _ j => j ≠ 0 ∧ j.natAbs.log2 < 9000) fun i j => .int (i.fdiv j)) (tVar 1) (tVar 4)) "top") (sFld K (tVar 0) (tOp (rI (fun _ j => j ≠ 0 ∧ j.natAbs.log2 < 9000) fun i j => .int (i.fdiv j)) (tVar 2) (tVar 4)) "bottom")
          { nx := fun _ H' => Q .non H', rt := Q } [some (.ref p), some (.int t), some (.int b), v, some (.int c)] (upd H u (.tup [.int t, .int b])) := by
        rintro c rfl v
        refine ⟨_, rfl, _, rfl, _, _, rfl, rfl, ⟨KM.sg_ne hb, hs9⟩, _, rfl, p, C, dx, _, rfl, (by rw [upd_ne npu]; exact hp), T.cl, T.nt, (by show 0 < 1000; decide), ?_⟩
        refine ⟨_, rfl, _, rfl, _, _, rfl, rfl, ⟨KM.sg_ne hb, hs9⟩, _, rfl, p, C, dx, _, rfl, upd_same, T.cl, T.nb, (by show 1 < 1000; decide), ?_⟩
        refine hQ _ (fun a o ha e => ?_) upd_same
        rw [upd_ne ha, upd_ne ha, upd_ne (ne_of_none e hu)]
        exact e
      refine ite2 (fun h => ?_) (fun h => ?_)
      · have h' : b < 0 := of_decide_eq_true h
        refine ⟨_, rfl, _, rfl, ?_⟩
        exact fin _ (by unfold KM.sg; rw [if_pos h']) _
      · have h' : ¬ b < 0 := fun z => h (decide_eq_true z)
        exact fin _ (by unfold KM.sg; rw [if_neg h']) _
end
end K40
set_option Elab.async false
set_option linter.all false
set_option maxRecDepth 100000
set_option maxHeartbeats 4000000
namespace K40
open PySem PySem.Spec PyProof.Rows L2
open C8 (Cal Mak Met pe_c pe_mk pe_mt pe_mt0)
section
variable {P : Program} {w : World} {K : PySem.W.Frag} {mg : Str → Option Value} {base : Heap} {f C : Addr} {fd : FuncData}
abbrev MakS (P : Program) (w : World) (K : PySem.W.Frag) (mg : Str → Option Value) (base : Heap) (C : Addr) : Prop := Mak P w K mg base 2 "Share" C (spInit C) []
/-- Share(t, b): what is left to show -/
theorem mk_at {H1 : Hp} {t b : Int} {n : Nat} {Q : VK} (hb : b ≠ 0) (hn : b.natAbs < 2 ^ n) (hn0 : 0 < n) (hn9 : n ≤ 9000)
    (hQ : ∀ r H', Same H1 H' → H1 r = none → Sh C H' r (KM.low t b) → Q (.ref r) H') :
    ∀ x dx, H1 x = none → H1 dx = none → dx ≠ x → spInit C (.ref x :: ([V.int t, V.int b] ++ [])) (upd (upd H1 dx (.own x)) x (.ins C dx [])) (fun v H2 => v = .non ∧ Q (.ref x) H2) E0 := by
  intro x dx nx nd ne
  refine ⟨x, dx, t, b, n, rfl, hb, hn, hn0, hn9, upd_same, fun H' kp hp => ⟨rfl, hQ x H' (fun a o e => ?_) nx ⟨dx, hp⟩⟩⟩
  refine kp a o (ne_of_none e nx) ?_
  rw [upd_ne (ne_of_none e nx), upd_ne (ne_of_none e nd)]
  exact e
theorem mul_pos_ne {a b : Int} (ha : 0 < a) (hb : 0 < b) : a * b ≠ 0 := fun z => by
  have := Int.mul_pos ha hb
  omega
def two (n : Nat) (a b : Int × Int) : Prop := Bd n a ∧ Bd n b ∧ 0 < n ∧ n ≤ 4000
end
end K40
set_option Elab.async false
set_option linter.all false
set_option maxRecDepth 100000
set_option maxHeartbeats 4000000
namespace K40
open PySem PySem.Spec PyProof.Rows L2
open C8 (Cal Mak Met pe_c pe_mk pe_mt pe_mt0)
/-- the held dict's pairs -/
def hd0 (l : Addr) (n m : Int) : List (Key × V) := [(Sum.inr "cells", .ref l), (Sum.inr "at", .int n), (Sum.inr "left", .int m)]
theorem hd_cells (l : Addr) (n m : Int) : valV (hd0 l n m) (Sum.inr "cells") = some (.ref l) := valV_pos rfl
theorem k1 : ¬ (("cells" : Str) = "at") := by decide +kernel
theorem k2 : ¬ (("cells" : Str) = "left") := by decide +kernel
theorem k3 : ¬ (("at" : Str) = "left") := by decide +kernel
theorem k1' : ¬ (("at" : Str) = "cells") := by decide +kernel
theorem k3' : ¬ (("left" : Str) = "at") := by decide +kernel
theorem inr_ne {x y : Str} (h : ¬ x = y) : ¬ ((Sum.inr x : Key) = Sum.inr y) := fun z => h (Sum.inr.inj z)
theorem hd_at (l : Addr) (n m : Int) : valV (hd0 l n m) (Sum.inr "at") = some (.int n) := (valV_neg (inr_ne k1)).trans (valV_pos rfl)
theorem hd_left (l : Addr) (n m : Int) : valV (hd0 l n m) (Sum.inr "left") = some (.int m) := (valV_neg (inr_ne k2)).trans ((valV_neg (inr_ne k3)).trans (valV_pos rfl))
theorem put_at (l : Addr) (n m k : Int) : putK (hd0 l n m) (Sum.inr "at") (.int k) = hd0 l k m := by
  unfold putK hd0
  simp [k1, k3']
theorem put_left (l : Addr) (n m k : Int) : putK (hd0 l n m) (Sum.inr "left") (.int k) = hd0 l n k := by
  unfold putK hd0
  simp [k2, k3]
theorem hd_merge (l : Addr) (n m : Int) : mergeK [] (hd0 l n m) = hd0 l n m := by
  simp [mergeK, hd0, putK, k1, k2, k3]
/-- the held dict at h, good for c draws more -/
def Held (H : Hp) (h : Addr) (c : Nat) : Prop := ∃ (l : Addr) (ns : List Int) (n m : Int), H h = some (.dK (hd0 l n m)) ∧ H l = some (.lst (ns.map V.int)) ∧ 0 ≤ n ∧ n + c ≤ 1000000000
theorem Held.weak {H : Hp} {h : Addr} {c c' : Nat} (hc : c' ≤ c) (x : Held H h c) : Held H h c' := by
  obtain ⟨l, ns, n, m, h1, h2, h3, h4⟩ := x
  exact ⟨l, ns, n, m, h1, h2, h3, by omega⟩
/-- all but h is kept -/
def Kp (h : Addr) (H H' : Hp) : Prop := (∀ b o, H b = some o → b ≠ h → H' b = some o) ∧ ∀ l n m, H h = some (.dK (hd0 l n m)) → ∃ n' m', H' h = some (.dK (hd0 l n' m'))
theorem Kp.refl (h : Addr) (H : Hp) : Kp h H H := ⟨fun _ _ e _ => e, fun _ n m e => ⟨n, m, e⟩⟩
theorem Kp.trans {h : Addr} {H H1 H2 : Hp} (a : Kp h H H1) (b : Kp h H1 H2) : Kp h H H2 := ⟨fun c o e n => b.1 c o (a.1 c o e n) n, fun l n m e => let ⟨n', m', e'⟩ := a.2 l n m e; b.2 l n' m' e'⟩
theorem Kp.same {h : Addr} {H H1 : Hp} (a : Same H H1) : Kp h H H1 := ⟨fun c o e _ => a c o e, fun _ n m e => ⟨n, m, a _ _ e⟩⟩
theorem hd_inj {l l' : Addr} {n m n' m' : Int} (h : HO.dK (hd0 l n m) = HO.dK (hd0 l' n' m')) : l = l' := by
  injection h with h
  injection h with h _
  injection h with _ h
  injection h
/-- the held dict put anew -/
theorem Kp.put {h l : Addr} {H : Hp} {n m : Int} (n' m' : Int) (e : H h = some (.dK (hd0 l n m))) : Kp h H (upd H h (.dK (hd0 l n' m'))) := by
  refine ⟨fun c o z ne => by rw [upd_ne ne]; exact z, fun l' n1 m1 z => ⟨n', m', ?_⟩⟩
  rw [upd_same, hd_inj (Option.some.inj (z.symm.trans e))]
theorem Held.same {H H' : Hp} {h : Addr} {c : Nat} (s : Same H H') (x : Held H h c) : Held H' h c := by
  obtain ⟨l, ns, n, m, h1, h2, h3, h4⟩ := x
  exact ⟨l, ns, n, m, s _ _ h1, s _ _ h2, h3, h4⟩
theorem same_new {H : Hp} {p : Addr} {o : HO} (h : H p = none) : Same H (upd H p o) := fun a u e => by
  rw [upd_ne (ne_of_none e h)]
  exact e
theorem dpInts {K : PySem.W.Frag} {H : Hp} : ∀ ns : List Int, DpAll K H (ns.map V.int) (ns.map PyData.int)
  | [] => .nil
  | n :: ns => .cons (.int n) (dpInts ns)
section
variable {P : Program} {w : World} {K : PySem.W.Frag} {mg : Str → Option Value} {base : Heap} {f C : Addr} {fd : FuncData}
def spHeld (K : PySem.W.Frag) : Sp := fun vs H Q _ => ∃ (a : Addr) (ns : List Int), vs = [.ref a] ∧ SqL K H a (ns.map V.int) ∧ ns.length ≤ 63 ∧ ∀ h H', Same H H' → H h = none → Held H' h 900000000 → Q (.ref h) H'
theorem ok_held (F : Dn K d_l_held f fd) (b : Bl mg) : FnOk P w K mg base CX0 1 f fd ["_law_script"] (spHeld K) := by
  refine F.ok sc_l_held (fun vs H Q E h => ?_) (fun cdv A outer s H vs Q E hr h => ?_)
  · obtain ⟨a, ns, rfl, _⟩ := h
    rfl
  · obtain ⟨a, ns, rfl, hS, hlen, hQ⟩ := h
    refine ⟨_, PSs.nox (pss_one (ps_ret (pe_disp (pps_cons pe_str (pe_callTy call_list_of rfl b.list boot_list (pa_cons (pe_slice sl_list (pv 0) po_none (po_some pe_int)) pa_nil)) (pps_cons pe_str pe_int (pps_cons pe_str pe_int pps_nil))) rfl rfl (by simp) (by decide)))), ?_⟩
    intro h hh
    have sS : SqL K (upd H h (.dK [])) a (ns.map V.int) := (same_new hh).seq hS
    refine ⟨_, rfl, 63, rfl, a, _, rfl, sS, fun p hp => ⟨p, _, rfl, Or.inl (SqL.of upd_same), fun l hl => ?_⟩⟩
    have nhp : h ≠ p := ne_of_none upd_same hp
    have nhl : h ≠ l := ne_of_none (by rw [upd_ne nhp]; exact upd_same) hl
    refine ⟨by rw [upd_ne nhl, upd_ne nhp, upd_same], hd0 l 0 0, rfl, by show 3 ≤ 15; decide, ?_⟩
    have e : cutV (ns.map V.int) none (some 63) = (ns.take 63).map V.int := by
      unfold cutV
      simp [HT.sIx, List.map_take]
    refine hQ h _ (fun c o z => ?_) hh ⟨l, ns.take 63, 0, 0, ?_, ?_, by decide, by decide⟩
    · have z1 : c ≠ h := ne_of_none z hh
      have z2 : (upd H h (.dK [])) c = some o := by rw [upd_ne z1]; exact z
      have z3 : c ≠ p := ne_of_none z2 hp
      have z4 : c ≠ l := ne_of_none (by rw [upd_ne z3]; exact z2) hl
      rw [upd_ne z1, upd_ne z4, upd_ne z3]
      exact z2
    · rw [upd_same, hd_merge]
    · rw [upd_ne nhl.symm, upd_same, ← e]

def spDraw : Sp := fun vs H Q _ => ∃ (h : Addr) (c : Nat) (k : Int), vs = [.ref h, .int k] ∧ Held H h (c + 1) ∧ 0 < k ∧ k < 1073741824 ∧
  ∀ r H', 0 ≤ r → r < k → Held H' h c → Kp h H H' → Q (.int r) H'
theorem cb_l {i j : Int} (h1 : -(2 ^ 64) < i) (h2 : i < 2 ^ 64) : CMul i j := .inl ⟨h1, h2⟩
theorem cb_r {i j : Int} (h1 : -(2 ^ 64) < j) (h2 : j < 2 ^ 64) : CMul i j := .inr ⟨h1, h2⟩
theorem ok_draw (F : Dn K d_l_draw f fd) (b : Bl mg) : FnOk P w K mg base CX0 1 f fd ["_law_held_here", "_law_many"] spDraw := by
  refine F.ok sc_l_draw (fun vs H Q E h => ?_) (fun cdv A outer s H vs Q E hr h => ?_)
  · obtain ⟨h, c, k, rfl, _⟩ := h
    rfl
  · obtain ⟨h, c, k, rfl, ⟨l, ns, n, m, hh, hl, hn, hc⟩, hk0, hk1, hQ⟩ := h
    have hu := hu_of hr
    have hu64 : (A.deeper (envOfC d_l_draw.qual d_l_draw.scope s.heap.objs.size f cdv)).units + 64 < cLine := by have := hr.un; omega
    have nlh : l ≠ h := ne_of hl hh (by intro z; cases z)
    refine ⟨_, PSs.nox (pss_cons (ps_if (pt_cmpR op_gt (pe_dget hu (pv 0) pe_str (fun _ _ => rfl)) pe_int (nomark _))
         (pss_cons (ps_set (i := 2) sc_l_draw.nd rfl (.inl rfl) (pe_op op_mod (pe_dget hu (pv 0) pe_str (fun _ _ => rfl)) (pv 1)))
         (pss_cons (ps_dput hu (pv 0) pe_str (pe_op op_fdiv (pe_dget hu (pv 0) pe_str (fun _ _ => rfl)) (pv 1)) rfl)
         (pss_one (ps_ret (pv 2))))) pss_nil)
      (pss_cons (ps_set (i := 3) sc_l_draw.nd rfl (.inl rfl) (pe_dget hu (pv 0) pe_str (fun _ _ => rfl)))
      (pss_cons (ps_dput hu (pv 0) pe_str (pe_op op_add (pv 3) pe_int) rfl)
      (C8.pss_cut (ps_set (i := 4) sc_l_draw.nd rfl (.inl rfl) (pe_ifExp (pt_cmpR (op_neD hu64) (pe_dget hu (pv 0) pe_str (fun _ _ => rfl)) (pe_lst pa_nil) (nomark _))
        (pe_ix ix_list (pe_dget hu (pv 0) pe_str (fun _ _ => rfl)) (pe_op op_mod (pv 3) (pe_callB call_len_seq rfl b.len boot_len (pa_cons (pe_dget hu (pv 0) pe_str (fun _ _ => rfl)) pa_nil))) (fun _ _ => rfl)) pe_int))
      (pss_cons (ps_if (PW.pt (pw_and (pt_cmpR op_ge (pv 4) (pe_op op_pow pe_int pe_int) (nomark _)) (pw_and1 (pt_cmpR op_lt (pv 3) (pe_callB call_len_seq rfl b.len boot_len (pa_cons (pe_dget hu (pv 0) pe_str (fun _ _ => rfl)) pa_nil)) (nomark _)))))
         (pss_cons (ps_dput hu (pv 0) pe_str (pe_op op_fdiv (pe_op op_sub (pv 4) (pe_op op_pow pe_int pe_int)) (pv 1)) rfl)
         (pss_one (ps_ret (pe_op op_mod (pe_op op_sub (pv 4) (pe_op op_pow pe_int pe_int)) (pv 1))))) pss_nil)
      (pss_cons (ps_set (i := 5) sc_l_draw.nd rfl (.inl rfl) (pe_op op_mod (pe_op op_add (pe_op op_add (pe_op op_add (pe_op op_mul (pe_op op_mod (pv 4) pe_int) pe_int) (pe_op op_mul (pe_op op_mul pe_int (pv 3)) (pv 3))) (pe_op op_mul pe_int (pv 3))) pe_int) pe_int))
      (pss_cons (ps_set (i := 5) sc_l_draw.nd rfl (.inl rfl) (pe_op op_mod (pe_op op_add (pe_op op_add (pe_op op_mul (pv 5) pe_int) (pe_op op_fdiv (pv 5) pe_int)) pe_int) pe_int))
      (pss_one (ps_ret (pe_op op_mod (pe_op op_fdiv (pv 5) pe_int) (pv 1))))))))))), ?_⟩
    have cM : ∀ x y : Int, 0 < y → (0 ≤ x % y ∧ x % y < y) := fun x y hy => ⟨Int.emod_nonneg _ (by omega), Int.emod_lt_of_pos _ hy⟩
    refine ⟨_, rfl, h, _, rfl, hd_left l n m ▸ DGet.k (k := Sum.inr "left") hh, _, _, rfl, rfl, _, rfl, ?_⟩
    refine ite2 (fun h1 => ?_) (fun h1 => ?_)
    · refine ⟨_, rfl, h, _, rfl, hd_left l n m ▸ DGet.k (k := Sum.inr "left") hh, _, rfl, _, _, rfl, rfl, hk0, ?_⟩
      refine ⟨_, rfl, h, _, rfl, hd_left l n m ▸ DGet.k (k := Sum.inr "left") hh, _, rfl, _, _, rfl, rfl, ⟨hk0, hk1⟩, _, rfl, h, _, rfl, DPut.k (k := Sum.inr "left") hh (by show 3 < sizeLine; decide), ?_⟩
      refine ⟨_, rfl, hQ _ _ (cM _ _ hk0).1 (cM _ _ hk0).2 ⟨l, ns, n, m / k, ?_, ?_, hn, by omega⟩ ?_⟩
      · rw [upd_same, put_left]
      · rw [upd_ne nlh]; exact hl
      · rw [put_left]; exact Kp.put _ _ hh
    · refine ⟨_, rfl, h, _, rfl, hd_at l n m ▸ DGet.k (k := Sum.inr "at") hh, ?_⟩
      refine ⟨_, rfl, _, _, rfl, rfl, _, rfl, h, _, rfl, DPut.k (k := Sum.inr "at") hh (by show 3 < sizeLine; decide), ?_⟩
      rw [put_at]
      have hh1 : (upd H h (.dK (hd0 l (n + 1) m))) h = some (.dK (hd0 l (n + 1) m)) := upd_same
      have hl1 : (upd H h (.dK (hd0 l (n + 1) m))) l = some (.lst (ns.map V.int)) := by rw [upd_ne nlh]; exact hl
      have kp1 : Kp h H (upd H h (.dK (hd0 l (n + 1) m))) := Kp.put _ _ hh
      refine ⟨fun σ' H' => ∃ (cell : Int), σ' = [some (.ref h), some (.int k), none, some (.int n), some (.int cell), none] ∧ H' h = some (.dK (hd0 l (n + 1) m)) ∧ H' l = some (.lst (ns.map V.int)) ∧ Kp h H H', ?_, ?_⟩
      · refine ⟨_, rfl, h, _, rfl, hd_cells l (n + 1) m ▸ DGet.k (k := Sum.inr "cells") hh1, (by show 0 ≤ sizeLine; decide), fun e he => ?_⟩
        have nhe : h ≠ e := ne_of_none hh1 he
        have nle : l ≠ e := ne_of_none hl1 he
        have hh2 : (upd (upd H h (.dK (hd0 l (n + 1) m))) e (.lst [])) h = some (.dK (hd0 l (n + 1) m)) := by rw [upd_ne nhe]; exact hh1
        have hl2 : (upd (upd H h (.dK (hd0 l (n + 1) m))) e (.lst [])) l = some (.lst (ns.map V.int)) := by rw [upd_ne nle]; exact hl1
        have kp2 : Kp h H (upd (upd H h (.dK (hd0 l (n + 1) m))) e (.lst [])) := kp1.trans (Kp.same (same_new he))
        refine ⟨.list (ns.map .int), .list [], Dp.lst (SqL.of hl2) (dpInts ns), Dp.lst (SqL.of upd_same) .nil, PySem.W.ke_shaped_ints ns, by decide, _, rfl, ?_⟩
        cases ns with
        | nil => exact iteF ⟨0, rfl, hh2, hl2, kp2⟩
        | cons z zs =>
          refine iteT ?_
          have hlen : (0 : Int) < (((z :: zs).map V.int).length : Int) := by simp
          refine ⟨_, rfl, h, _, rfl, hd_cells l (n + 1) m ▸ DGet.k (k := Sum.inr "cells") hh2, _, rfl, _, rfl, h, _, rfl, hd_cells l (n + 1) m ▸ DGet.k (k := Sum.inr "cells") hh2, l, _, rfl, Or.inl (SqL.of hl2), _, _, rfl, rfl, hlen, ?_⟩
          obtain ⟨q, hq⟩ := Int.eq_ofNat_of_zero_le (cM n _ hlen).1
          have hq2 := (cM n _ hlen).2
          rw [hq] at hq2
          have hq3 : q < (z :: zs).length := by rw [List.length_map] at hq2; omega
          refine ⟨l, _, _, .int ((z :: zs)[q]), rfl, rfl, SqL.of hl2, (by rw [hq]; exact atI_nat (by rw [List.getElem?_map, List.getElem?_eq_getElem hq3]; rfl)), ?_⟩
          exact ⟨_, rfl, hh2, hl2, kp2⟩
      · rintro σ' H' ⟨cell, rfl, hh2, hl2, kp2⟩
        have stay : ∀ m', Held (upd H' h (.dK (hd0 l (n + 1) m'))) h c := fun m' => ⟨l, ns, n + 1, m', upd_same, by rw [upd_ne nlh]; exact hl2, by omega, by omega⟩
        have stay0 : Held H' h c := ⟨l, ns, n + 1, m, hh2, hl2, by omega, by omega⟩
        have last : ∀ D : Ends, D.rt = Q → tSeq (tAsg (tOp (rI (fun _ j => 0 < j) fun i j => .int (i % j)) (tOp (rI0 fun i j => .int (i + j)) (tOp (rI0 fun i j => .int (i + j)) (tOp (rI0 fun i j => .int (i + j))
            (tOp (rI CMul fun i j => .int (i * j)) (tOp (rI (fun _ j => 0 < j) fun i j => .int (i % j)) (tVar 4) (tC (.int 2147483587))) (tC (.int 40692))) (tOp (rI CMul fun i j => .int (i * j)) (tOp (rI CMul fun i j => .int (i * j)) (tC (.int 7907)) (tVar 3)) (tVar 3)))
            (tOp (rI CMul fun i j => .int (i * j)) (tC (.int 104729)) (tVar 3))) (tC (.int 17))) (tC (.int 2147483629))) (gName 5))
          (tSeq (tAsg (tOp (rI (fun _ j => 0 < j) fun i j => .int (i % j)) (tOp (rI0 fun i j => .int (i + j)) (tOp (rI0 fun i j => .int (i + j)) (tOp (rI CMul fun i j => .int (i * j)) (tVar 5) (tC (.int 48271))) (tOp (rI CDiv fun i j => .int (i / j)) (tVar 5) (tC (.int 127)))) (tC (.int 31))) (tC (.int 2147483647))) (gName 5))
          (tRet (tOp (rI (fun _ j => 0 < j) fun i j => .int (i % j)) (tOp (rI CDiv fun i j => .int (i / j)) (tVar 5) (tC (.int 89))) (tVar 1)))) D [some (.ref h), some (.int k), none, some (.int n), some (.int cell), none] H' := by
          intro D hD
          refine ⟨_, rfl, _, _, rfl, rfl, (by decide : (0 : Int) < 2147483587), _, _, rfl, rfl, cb_r (by decide) (by decide), _, rfl, _, _, rfl, rfl, cb_l (by decide) (by decide), _, rfl, _, _, rfl, rfl, cb_r (by omega) (by omega), _, _, rfl, rfl, ?_⟩
          refine ⟨_, rfl, _, _, rfl, rfl, cb_l (by decide) (by decide), _, _, rfl, rfl, _, _, rfl, rfl, _, _, rfl, rfl, (by decide : (0 : Int) < 2147483629), ?_⟩
          refine ⟨_, rfl, _, _, rfl, rfl, cb_r (by decide) (by decide), _, rfl, _, _, rfl, rfl, ⟨by decide, by decide⟩, _, _, rfl, rfl, _, _, rfl, rfl, _, _, rfl, rfl, (by decide : (0 : Int) < 2147483647), ?_⟩
          refine ⟨_, rfl, _, _, rfl, rfl, ⟨by decide, by decide⟩, _, rfl, _, _, rfl, rfl, hk0, ?_⟩
          rw [hD]
          exact hQ _ _ (cM _ _ hk0).1 (cM _ _ hk0).2 stay0 kp2
        refine ⟨_, rfl, _, _, rfl, rfl, ⟨by decide, by decide, by decide⟩, _, _, rfl, rfl, _, rfl, ?_⟩
        refine ite2 (fun g1 => ?_) (fun g1 => iteF (last _ rfl))
        refine ⟨_, rfl, _, rfl, h, _, rfl, hd_cells l (n + 1) m ▸ DGet.k (k := Sum.inr "cells") hh2, l, _, rfl, Or.inl (SqL.of hl2), _, _, rfl, rfl, _, rfl, ?_⟩
        refine ite2 (fun g2 => ?_) (fun g2 => last _ rfl)
        refine ⟨_, rfl, _, _, rfl, rfl, ⟨by decide, by decide, by decide⟩, _, _, rfl, rfl, _, rfl, _, _, rfl, rfl, ⟨hk0, hk1⟩, _, rfl, h, _, rfl, DPut.k (k := Sum.inr "left") hh2 (by show 3 < sizeLine; decide), ?_⟩
        refine ⟨_, rfl, _, _, rfl, rfl, ⟨by decide, by decide, by decide⟩, _, _, rfl, rfl, _, rfl, _, _, rfl, rfl, hk0, ?_⟩
        rw [put_left]
        refine hQ _ _ (cM _ _ hk0).1 (cM _ _ hk0).2 (stay _) (kp2.trans (Kp.put _ _ hh2))
end
end K40
set_option linter.all false
namespace KM
/-- top and bottom of a rational number -/
def pr (r : Rat) : Int × Int := (r.num, (r.den : Int))
theorem pr_inj {r s : Rat} (h : pr r = pr s) : r = s := by
  have h1 : r.num = s.num := congrArg Prod.fst h
  have h2 : (r.den : Int) = (s.den : Int) := congrArg Prod.snd h
  rw [← Rat.num_divInt_den r, ← Rat.num_divInt_den s, h1, h2]
theorem den_ne (r : Rat) : (r.den : Int) ≠ 0 := by
  have := r.den_nz
  omega
theorem den_pos (r : Rat) : 0 < (r.den : Int) := by
  have := r.den_nz
  omega
theorem low_eq {t b : Int} (h : b ≠ 0) : low t b = pr (Rat.divInt t b) := by
  have hp := low_pos (t := t) h
  have hc := low_cop (t := t) h
  obtain ⟨d, hd⟩ := Int.eq_ofNat_of_zero_le (Int.le_of_lt hp)
  have hd0 : d ≠ 0 := by
    intro z
    rw [z] at hd
    omega
  have hcop : (low t b).1.natAbs.Coprime d := by
    have : Int.gcd (low t b).1 (low t b).2 = 1 := hc
    rw [hd] at this
    exact this
  have e1 : Rat.divInt (low t b).1 (d : Int) = Rat.divInt t b := by
    rw [Rat.divInt_eq_divInt_iff (by omega) h, ← hd]
    have h1 := low_top (t := t) (b := b)
    have h2 := low_bot (t := t) (b := b)
    calc (low t b).1 * b = (low t b).1 * (sg t b * (low t b).2) := by rw [h2]
      _ = sg t b * (low t b).1 * (low t b).2 := by rw [← Int.mul_assoc, Int.mul_comm (low t b).1]
      _ = t * (low t b).2 := by rw [h1]
  have e2 : ({ num := (low t b).1, den := d, den_nz := hd0, reduced := hcop } : Rat) = Rat.divInt t b := by rw [Rat.mk_eq_divInt, e1]
  rw [← e2]
  exact Prod.ext rfl hd
theorem pr_plus (r s : Rat) : low ((pr r).1 * (pr s).2 + (pr s).1 * (pr r).2) ((pr r).2 * (pr s).2) = pr (r + s) := by
  show low (r.num * s.den + s.num * r.den) (r.den * s.den) = _
  rw [low_eq (Int.mul_ne_zero (den_ne r) (den_ne s)), ← Rat.divInt_add_divInt _ _ (den_ne r) (den_ne s), Rat.num_divInt_den, Rat.num_divInt_den]
theorem pr_less (r s : Rat) : low ((pr r).1 * (pr s).2 - (pr s).1 * (pr r).2) ((pr r).2 * (pr s).2) = pr (r - s) := by
  show low (r.num * s.den - s.num * r.den) (r.den * s.den) = _
  rw [low_eq (Int.mul_ne_zero (den_ne r) (den_ne s)), ← Rat.divInt_sub_divInt _ _ (den_ne r) (den_ne s), Rat.num_divInt_den, Rat.num_divInt_den]
theorem pr_times (r : Rat) (k : Int) : low ((pr r).1 * k) (pr r).2 = pr (r * (Rat.divInt k 1)) := by
  show low (r.num * k) r.den = _
  have e : Rat.divInt (r.num * k) (r.den : Int) = Rat.divInt r.num r.den * Rat.divInt k 1 := by rw [Rat.divInt_mul_divInt, Int.mul_one]
  rw [low_eq (den_ne r), e, Rat.num_divInt_den]
theorem pr_over (r : Rat) {k : Int} (h : k ≠ 0) : low (pr r).1 ((pr r).2 * k) = pr (r * (Rat.divInt 1 k)) := by
  show low r.num (r.den * k) = _
  have e : Rat.divInt r.num (r.den * k : Int) = Rat.divInt r.num r.den * Rat.divInt 1 k := by rw [Rat.divInt_mul_divInt, Int.mul_one]
  rw [low_eq (Int.mul_ne_zero (den_ne r) h), e, Rat.num_divInt_den]
theorem inv_k {k : Int} (h : k ≠ 0) : Rat.divInt k 1 * Rat.divInt 1 k = 1 := by
  rw [Rat.divInt_mul_divInt, Int.mul_one, Int.one_mul]
  exact Rat.divInt_self' h
theorem pr_lt (r s : Rat) : ((pr r).1 * (pr s).2 < (pr s).1 * (pr r).2) ↔ r < s := (Rat.lt_iff r s).symm
theorem pr_bot (r : Rat) : 0 < (pr r).2 := den_pos r
theorem add_back (r s : Rat) : r + s - s = r := by
  rw [Rat.sub_eq_add_neg, Rat.add_assoc, Rat.add_neg_cancel, Rat.add_zero]
theorem sub_back (r s : Rat) : r - s + s = r := by
  rw [Rat.sub_eq_add_neg, Rat.add_assoc, Rat.neg_add_cancel, Rat.add_zero]
theorem mul_back (r : Rat) {k : Int} (h : k ≠ 0) : r * Rat.divInt k 1 * Rat.divInt 1 k = r := by
  rw [Rat.mul_assoc, inv_k h, Rat.mul_one]
theorem div_back (r : Rat) {k : Int} (h : k ≠ 0) : r * Rat.divInt 1 k * Rat.divInt k 1 = r := by
  rw [Rat.mul_assoc, Rat.mul_comm (Rat.divInt 1 k), inv_k h, Rat.mul_one]
/-- small -/
def Sz (n : Nat) (r : Rat) : Prop := r.num.natAbs < 2 ^ n ∧ r.den < 2 ^ n
theorem Sz.mono {n m : Nat} {r : Rat} (h : Sz n r) (hm : n ≤ m) : Sz m r := ⟨Nat.lt_of_lt_of_le h.1 (Nat.pow_le_pow_right (by decide) hm), Nat.lt_of_lt_of_le h.2 (Nat.pow_le_pow_right (by decide) hm)⟩
theorem sz_of_low {t b : Int} {n : Nat} (hb : b ≠ 0) (h1 : t.natAbs < 2 ^ n) (h2 : b.natAbs < 2 ^ n) : Sz n (Rat.divInt t b) := by
  have e := low_eq (t := t) hb
  have e1 : (low t b).1 = (Rat.divInt t b).num := congrArg Prod.fst e
  have e2 : (low t b).2 = ((Rat.divInt t b).den : Int) := congrArg Prod.snd e
  have l1 := low_top_le (t := t) hb
  have l2 := low_bot_le (t := t) hb
  constructor
  · rw [← e1]; omega
  · have : ((low t b).2).natAbs < 2 ^ n := by omega
    rw [e2] at this
    simpa using this
theorem two_lt {x y n m : Nat} (h1 : x < 2 ^ n) (h2 : y < 2 ^ m) : x * y < 2 ^ (n + m) := by
  rw [Nat.pow_add]
  exact Nat.mul_lt_mul'' h1 h2
theorem sz_sum {a b c d : Int} {n m : Nat} (h1 : a.natAbs < 2 ^ n) (h2 : d.natAbs < 2 ^ m) (h3 : c.natAbs < 2 ^ m) (h4 : b.natAbs < 2 ^ n) : (a * d + c * b).natAbs < 2 ^ (n + m + 1) ∧ (a * d - c * b).natAbs < 2 ^ (n + m + 1) := by
  have e1 : (a * d).natAbs < 2 ^ (n + m) := by rw [Int.natAbs_mul]; exact two_lt h1 h2
  have e2 : (c * b).natAbs < 2 ^ (n + m) := by rw [Int.natAbs_mul, Nat.add_comm]; exact two_lt h3 h4
  have e3 : 2 ^ (n + m + 1) = 2 * 2 ^ (n + m) := by rw [Nat.pow_succ, Nat.mul_comm]
  omega
theorem sz_plus {n m : Nat} {r s : Rat} (hr : Sz n r) (hs : Sz m s) : Sz (n + m + 1) (r + s) ∧ Sz (n + m + 1) (r - s) := by
  have d1 : ((r.den : Int)).natAbs < 2 ^ n := by simpa using hr.2
  have d2 : ((s.den : Int)).natAbs < 2 ^ m := by simpa using hs.2
  have hd : ((r.den : Int) * s.den).natAbs < 2 ^ (n + m + 1) := by
    have : ((r.den : Int) * s.den).natAbs < 2 ^ (n + m) := by rw [Int.natAbs_mul]; exact two_lt d1 d2
    exact Nat.lt_of_lt_of_le this (Nat.pow_le_pow_right (by decide) (by omega))
  have hn := sz_sum hr.1 d2 hs.1 d1
  have ne := Int.mul_ne_zero (den_ne r) (den_ne s)
  constructor
  · have := sz_of_low ne hn.1 hd
    rw [← Rat.divInt_add_divInt _ _ (den_ne r) (den_ne s), Rat.num_divInt_den, Rat.num_divInt_den] at this
    exact this
  · have := sz_of_low ne hn.2 hd
    rw [← Rat.divInt_sub_divInt _ _ (den_ne r) (den_ne s), Rat.num_divInt_den, Rat.num_divInt_den] at this
    exact this
theorem sz_times {n m : Nat} {r : Rat} {k : Int} (hr : Sz n r) (hk : k.natAbs < 2 ^ m) : Sz (n + m) (r * Rat.divInt k 1) := by
  have e : r * Rat.divInt k 1 = Rat.divInt (r.num * k) r.den := by
    have : Rat.divInt (r.num * k) (r.den : Int) = Rat.divInt r.num r.den * Rat.divInt k 1 := by rw [Rat.divInt_mul_divInt, Int.mul_one]
    rw [this, Rat.num_divInt_den]
  rw [e]
  refine sz_of_low (den_ne r) (by rw [Int.natAbs_mul]; exact two_lt hr.1 hk) ?_
  have d1 : ((r.den : Int)).natAbs < 2 ^ n := by simpa using hr.2
  exact Nat.lt_of_lt_of_le d1 (Nat.pow_le_pow_right (by decide) (by omega))
theorem sz_over {n m : Nat} {r : Rat} {k : Int} (hr : Sz n r) (h : k ≠ 0) (hk : k.natAbs < 2 ^ m) : Sz (n + m) (r * Rat.divInt 1 k) := by
  have e : r * Rat.divInt 1 k = Rat.divInt r.num (r.den * k) := by
    have : Rat.divInt r.num (r.den * k : Int) = Rat.divInt r.num r.den * Rat.divInt 1 k := by rw [Rat.divInt_mul_divInt, Int.mul_one]
    rw [this, Rat.num_divInt_den]
  rw [e]
  have d1 : ((r.den : Int)).natAbs < 2 ^ n := by simpa using hr.2
  refine sz_of_low (Int.mul_ne_zero (den_ne r) h) (Nat.lt_of_lt_of_le hr.1 (Nat.pow_le_pow_right (by decide) (by omega))) ?_
  rw [Int.natAbs_mul]
  exact two_lt d1 hk
end KM
set_option Elab.async false
set_option linter.all false
set_option maxRecDepth 100000
set_option maxHeartbeats 4000000
/-! KW: calls by keywords alone: f(k = v, ..), o.m(k = v, ..). -/
namespace KW
open PySem PySem.Spec PyProof.Rows L2
section
variable {X : Cx} {k j : Nat} {C f : Addr} {fd : FuncData} {ps ks : List Str} {sp : Sp} {x m : Str} {p pos apos : Pos} {o : Expr} {kws : List Keyword} {ta : TE} {tk : TA} {g : List Value → List Value → List Value} {gV : List V → List V → List V}
theorem pe_cK (F : FnOk X.prog X.w X.K X.mg X.base CX0 k f fd ps sp) (hr : Room k X.A) (hg : Gl X x) (hm : X.mg x = some (.ref f)) (hk : PySem.W.keepIn X.K (.ref f) = true) (hb : KBn X.K fd ps 0 ks g gV) (hkw : PK X kws tk)
    (hall : (backToKw pos (keywordEach kws X.env)).all (·.1.isSome) = true := by rfl) (hks : (backToKw pos (keywordEach kws X.env)).filterMap (·.1) = ks := by rfl) (hdb : (x == ("__debug__" : Str)) = false := by decide)
    (hpl : ((backTo pos (starEach [] X.env)).any (·.1) || (backToKw pos (keywordEach kws X.env)).any (·.1.isNone)) = false := by rfl) :
    PE X (.Call (.Name x p) [] kws pos) (fun σ H Q => tk σ H fun zs H1 => zs.length = ks.length ∧ sp (gV [] zs) H1 Q E0) := by
  refine ⟨fun pins s σ H Q I h => wpAny_Call_Name_kw (ld_glob I hg hm (PySem.W.callWith_KW0 (h₀ := X.base) I.ok.mod.kin hk hall ?_ hpl) hdb)⟩
  refine thn (hkw.run pos pins s σ H _ I h) fun ws s2 ⟨zs, H2, I2, rz, l2, q2⟩ => ⟨I2.kIn, ?_⟩
  rw [hks]
  exact run_fnN (us := []) (vs := []) F hr hb (fun _ _ _ _ _ _ _ h => False.elim h) I2 .nil rz rfl l2 q2
theorem pe_mtK {pl : Sem Bool} (he : PE X o ta) (c : Cls X.K C) (hm : Meth X.K C m f) (F : FnOk X.prog X.w X.K X.mg X.base CX0 k f fd ps sp) (hr : Room k X.A) (hb : KBn X.K fd ps 1 ks g gV) (hkw : PK X kws tk)
    (hall : (backToKw pos (keywordEach kws X.env)).all (·.1.isSome) = true := by rfl) (hks : (backToKw pos (keywordEach kws X.env)).filterMap (·.1) = ks := by rfl)
    (hpl : ((backTo pos (starEach [] X.env)).any (·.1) || (backToKw pos (keywordEach kws X.env)).any (·.1.isNone)) = false := by rfl)
    (ht : eval (.Call (.Attribute o m apos) [] kws pos) X.env = (do
      let ov ← eval o X.env
      standAt apos.atName
      let (f, first) ← holding [ov] (getMethod ov m pl)
      callWith pos f first (backTo pos (starEach [] X.env)) (backToKw pos (keywordEach kws X.env))) := by rfl) :
    PE X (.Call (.Attribute o m apos) [] kws pos) (fun σ H Q => ta σ H fun x H1 => ∃ a dx fs, x = .ref a ∧ H1 a = some (.ins C dx fs) ∧ fs.lookup m = none ∧ tk σ H1 fun zs H2 => zs.length = ks.length ∧ sp (gV [.ref a] zs) H2 Q E0) := by
  refine ⟨fun pins s σ H Q I h => ?_⟩
  refine PySem.W.methodCall_KW (pl := pl) (thn (he.run pins s σ H _ I h) fun u s1 ⟨x, H1, I1, rx, a, dx, fs, ex, ea, l, q⟩ => ?_) ht
  subst ex
  obtain rfl : u = Value.ref a := rx
  refine getmeth_ok I1 ea c hm l (PySem.W.callWith_KW0 (first := [.ref a]) (h₀ := X.base) I.ok.mod.kin hm.kp hall ?_ hpl)
  refine thn (hkw.run pos pins s1 σ H1 _ I1 q) fun ws s2 ⟨zs, H2, I2, rz, l2, q2⟩ => ⟨I2.kIn, ?_⟩
  rw [hks]
  exact run_fnN (us := [.ref a]) (vs := [.ref a]) F hr hb (fun _ _ _ _ _ _ _ h => False.elim h) I2 (.cons rfl .nil) rz rfl l2 q2
end
end KW
set_option Elab.async false
set_option linter.all false
set_option maxRecDepth 100000
set_option maxHeartbeats 4000000
namespace K40
open PySem PySem.Spec PyProof.Rows L2
open C8 (Cal Mak Met pe_c pe_mk pe_mt pe_mt0)
open KM (pr Sz)
/-- what isinstance asks of the class -/
structure IsC (K : PySem.W.Frag) (C : Addr) : Prop where
  ha : PySem.W.findIn K (.ref C) "__class__" = some (some (.builtin "object.__class__"))
  hn : PySem.W.specialIn K (.builtin "object.__class__") "__get__" = some (some (.builtin "getset_descriptor.__get__"))
  htk : PySem.W.takesIn K (.builtin "object.__class__") = some true
  hm : PySem.W.mroIn K C (.type "object") = some true
  kit : PySem.W.kitOne K (.ref C) (.ref C) = some true
theorem bd_of {n : Nat} {r : Rat} (h : Sz n r) : Bd n (pr r) := ⟨h.1, KM.den_pos r, by simpa [pr] using h.2⟩

section
variable {P : Program} {w : World} {K : PySem.W.Frag} {mg : Str → Option Value} {base : Heap} {f C : Addr} {fd : FuncData}
abbrev CalD (P : Program) (w : World) (K : PySem.W.Frag) (mg : Str → Option Value) (base : Heap) : Prop := Cal P w K mg base 1 "_law_draw" spDraw []
def tupP (q : Int × Int) : HO := .tup [.int q.1, .int q.2]
def spLow : Sp := fun vs H Q _ => ∃ (t b : Int) (n : Nat), vs = [.int t, .int b] ∧ b ≠ 0 ∧ b.natAbs < 2 ^ n ∧ 0 < n ∧ n ≤ 9000 ∧ ∀ r, H r = none → Q (.ref r) (upd H r (tupP (KM.low t b)))
theorem ok_low (F : Dn K d_l_low f fd) (b : Bl mg) : FnOk P w K mg base CX0 1 f fd ["_law_top", "_law_bottom"] spLow := by
  refine F.ok sc_l_low (fun vs H Q E h => ?_) (fun cdv A outer s H vs Q E hr h => ?_)
  · obtain ⟨t, b, n, rfl, _⟩ := h
    rfl
  · obtain ⟨x, y, n, rfl, hy, hn, hn0, hn9, hQ⟩ := h
    refine ⟨_, PSs.nox (pss_cons (ps_par (i := 2) (j := 3) rfl sc_l_low.nd rfl rfl (by decide) rfl rfl (pa_cons (pe_callB call_abs rfl b.abs boot_abs (pa_cons (pv 0) pa_nil)) (pa_cons (pe_callB call_abs rfl b.abs boot_abs (pa_cons (pv 1) pa_nil)) pa_nil)) rfl)
      (pss_cons (ps_while PassesOwn.never (pt_cmpR op_gt (pv 3) pe_int (nomark _)) (pss_one (ps_par (i := 2) (j := 3) rfl sc_l_low.nd rfl rfl (by decide) rfl rfl (pa_cons (pv 3) (pa_cons (pe_op op_mod (pv 2) (pv 3)) pa_nil)) rfl)))
      (C8.pss_cut (ps_if (pt_cmpR op_lt (pv 1) pe_int (nomark _)) (pss_one (ps_set (i := 2) sc_l_low.nd rfl (.inl rfl) (pe_op op_sub pe_int (pv 2)))) pss_nil)
      (pss_one (ps_ret (pe_tup (pa_cons (pe_op op_fdW (pv 0) (pv 2)) (pa_cons (pe_op op_fdW (pv 1) (pv 2)) pa_nil)))))))), ?_⟩
    refine ⟨_, rfl, _, rfl, _, rfl, _, rfl, _, _, rfl, while_by (fun σ H2 => H2 = H ∧ ∃ a c : Int, σ = [some (.int x), some (.int y), some (.int a), some (.int c)] ∧ 0 ≤ a ∧ 0 ≤ c ∧ Int.gcd a c = Int.gcd x y)
      (fun σ _ => match σ with | [_, _, _, some (.int c)] => c.toNat | _ => 0) ⟨rfl, _, _, rfl, ?_, ?_, ?_⟩ ?_ ?_⟩
    · split <;> omega
    · split <;> omega
    · rw [abs_eq, abs_eq]
      rfl
    · rintro σ H2 ⟨rfl, a, c, rfl, ha, hc, hg⟩
      refine ⟨_, rfl, _, _, rfl, rfl, _, rfl, ?_⟩
      refine ite2 (fun g => ?_) (fun g => ?_)
      · have hp : 0 < c := of_decide_eq_true g
        refine ⟨_, rfl, _, rfl, _, rfl, _, _, rfl, rfl, hp, _, _, rfl, ⟨rfl, _, _, rfl, hc, Int.emod_nonneg _ (by omega), ?_⟩, ?_⟩
        · rw [KM.gcd_turn ha hp, hg]
        · show (a % c).toNat < c.toNat
          have h1 := Int.emod_nonneg a (show c ≠ 0 by omega)
          have h2 := Int.emod_lt_of_pos a hp
          omega
      · have h0 : c = 0 := by
          have : ¬ 0 < c := fun z => g (decide_eq_true z)
          omega
        subst h0
        have e : Int.gcd x y = a.natAbs := by rw [← hg]; simp
        refine ⟨fun σ' H' => H' = H2 ∧ ∃ v, σ' = [some (.int x), some (.int y), some (.int (KM.sg x y)), v], ?_, ?_⟩
        · refine ⟨_, rfl, _, _, rfl, rfl, _, rfl, ?_⟩
          refine ite2 (fun g1 => ?_) (fun g1 => ?_)
          · refine ⟨_, rfl, _, _, rfl, rfl, rfl, some (.int 0), ?_⟩
            have e2 : KM.sg x y = 0 - a := by unfold KM.sg; rw [if_pos (of_decide_eq_true g1), e]; omega
            rw [e2]
            rfl
          · refine ⟨rfl, some (.int 0), ?_⟩
            have e2 : KM.sg x y = a := by unfold KM.sg; rw [if_neg (fun z => g1 (decide_eq_true z)), e]; omega
            rw [e2]
        · rintro σ' H' ⟨rfl, v, rfl⟩
          have hs9 : (KM.sg x y).natAbs.log2 < 9000 := log_lt (Nat.lt_of_le_of_lt (KM.sg_le hy) hn) hn0 hn9
          refine ⟨_, rfl, _, rfl, _, _, rfl, rfl, ⟨KM.sg_ne hy, hs9⟩, _, rfl, _, rfl, _, _, rfl, rfl, ⟨KM.sg_ne hy, hs9⟩, (by show 2 ≤ sizeLine; decide), fun r hr => hQ r hr⟩
    · rintro σ H2 Q1 Q2 hm ⟨v, hv, i, j, e1, e2, k, hk, q⟩
      exact ⟨v, hv, i, j, e1, e2, k, hk, hm _ _ q⟩
abbrev CalL (P : Program) (w : World) (K : PySem.W.Frag) (mg : Str → Option Value) (base : Heap) : Prop := Cal P w K mg base 1 "_law_low" spLow []
def spAdd : Sp := fun vs H Q _ => ∃ (p q : Addr) (a b : Int × Int) (n : Nat), vs = [.ref p, .ref q] ∧ H p = some (tupP a) ∧ H q = some (tupP b) ∧ two n a b ∧
  ∀ r, H r = none → Q (.ref r) (upd H r (tupP (KM.low (a.1 * b.2 + b.1 * a.2) (a.2 * b.2))))
theorem at0 {a b : V} : atI [a, b] 0 = some a := rfl
theorem at1 {a b : V} : atI [a, b] 1 = some b := rfl
theorem ok_add (F : Dn K d_l_add f fd) (cL : CalL P w K mg base) : FnOk P w K mg base CX0 2 f fd ["_law_one", "_law_other"] spAdd := by
  refine F.ok sc_l_add (fun vs H Q E h => ?_) (fun cdv A outer s H vs Q E hr h => ?_)
  · obtain ⟨p, q, a, b, n, rfl, _⟩ := h
    rfl
  · obtain ⟨p, q, a, b, n, rfl, hp, hq, ⟨ba, bb, hn0, hn9⟩, hQ⟩ := h
    refine ⟨_, PSs.nox (pss_one (ps_ret (pe_c cL hr (by decide) rfl (pa_cons (pe_op op_add (pe_op op_mulW (pe_ix ix_tup (pv 0) pe_int (fun _ _ => rfl)) (pe_ix ix_tup (pv 1) pe_int (fun _ _ => rfl))) (pe_op op_mulW (pe_ix ix_tup (pv 1) pe_int (fun _ _ => rfl)) (pe_ix ix_tup (pv 0) pe_int (fun _ _ => rfl))))
      (pa_cons (pe_op op_mulW (pe_ix ix_tup (pv 0) pe_int (fun _ _ => rfl)) (pe_ix ix_tup (pv 1) pe_int (fun _ _ => rfl))) pa_nil))))), ?_⟩
    refine ⟨_, rfl, p, _, _, _, rfl, rfl, SqT.of hp, at0, _, rfl, q, _, _, _, rfl, rfl, SqT.of hq, at1, _, _, rfl, rfl, wide_mul ba.1 bb.2.2 hn0 hn0 (by omega), ?_⟩
    refine ⟨_, rfl, q, _, _, _, rfl, rfl, SqT.of hq, at0, _, rfl, p, _, _, _, rfl, rfl, SqT.of hp, at1, _, _, rfl, rfl, wide_mul bb.1 ba.2.2 hn0 hn0 (by omega), _, _, rfl, rfl, ?_⟩
    refine ⟨_, rfl, p, _, _, _, rfl, rfl, SqT.of hp, at1, _, rfl, q, _, _, _, rfl, rfl, SqT.of hq, at1, _, _, rfl, rfl, wide_mul ba.2.2 bb.2.2 hn0 hn0 (by omega), ?_⟩
    exact ⟨_, _, n + n, rfl, mul_pos_ne ba.2.1 bb.2.1, wide_lt ba.2.2 bb.2.2, by omega, by omega, hQ⟩
def spPair (C : Addr) : Sp := fun vs H Q _ => ∃ (p : Addr) (q : Int × Int), vs = [.ref p] ∧ Sh C H p q ∧ ∀ r H', Same H H' → H r = none → H' r = some (tupP q) → Q (.ref r) H'
theorem ok_pair (F : Dn K d_l_pair f fd) (b : Bl mg) (T : Cl K mg C) (S : IsC K C) : FnOk P w K mg base CX0 1 f fd ["_law_share"] (spPair C) := by
  refine F.ok sc_l_pair (fun vs H Q E h => ?_) (fun cdv A outer s H vs Q E hr h => ?_)
  · obtain ⟨p, q, rfl, _⟩ := h
    rfl
  · obtain ⟨p, q, rfl, ⟨dp, hp⟩, hQ⟩ := h
    refine ⟨_, PSs.nox (pss_cons (ps_if (pt_not (pt_val (pe_callB call_isi rfl b.isi boot_isinstance (pa_cons (pv 0) (pa_cons (pe_glob (v := .ref C) rfl T.g rfl) pa_nil))))) pss_never pss_nil)
      (pss_cons (ps_for PassesOwn.never rfl (pi_tup (pe_tup (pa_cons (pe_fld (pv 0) rfl) (pa_cons (pe_fld (pv 0) rfl) pa_nil)))) (pg_name (i := 1) sc_l_pair.nd rfl (.inl rfl))
        (pss_one (ps_if (PW.pt (pw_or (pt_not (pt_val (pe_callB call_isi rfl b.isi boot_isinstance (pa_cons (pv 1) (pa_cons (pe_bltn (v := .ty "int") rfl b.int boot_int rfl) pa_nil)))))
          (pw_or1 (pt_val (pe_callB call_isi rfl b.isi boot_isinstance (pa_cons (pv 1) (pa_cons (pe_bltn (v := .ty "bool") rfl b.bool boot_bool rfl) pa_nil))))))) pss_never pss_nil)))
      (pss_one (ps_ret (pe_tup (pa_cons (pe_fld (pv 0) rfl) (pa_cons (pe_fld (pv 0) rfl) pa_nil))))))), ?_⟩
    refine ⟨_, rfl, _, _, _, _, true, rfl, ClsV.own C, TyX.base (TyOf.ins hp T.cl S.ha S.hn S.htk S.hm), S.kit, true, rfl, ?_⟩
    refine iteF ?_
    refine ⟨_, rfl, p, C, dp, _, _, rfl, hp, T.cl, T.nt, shF_top q, _, rfl, p, C, dp, _, _, rfl, hp, T.cl, T.nb, shF_bot q, by show 2 ≤ sizeLine; decide, fun u hu => ?_⟩
    have npu : p ≠ u := ne_of_none hp hu
    refine ⟨u, rfl, ⟨_, SqT.of upd_same⟩, for_tup (K := K) (xs := [.int q.1, .int q.2]) (fun i σ H2 => H2 = upd H u (.tup [.int q.1, .int q.2]) ∧ ∃ v, σ = [some (.ref p), v])
      ⟨rfl, none, rfl⟩ (fun i σ H2 _ h => by rw [h.1]; exact SqT.of upd_same) ?_ ?_⟩
    · rintro i y σ H2 hi ⟨rfl, v, rfl⟩
      have hy : ∃ n : Int, y = .int n := by
        match i, hi with
        | 0, e => exact ⟨_, (Option.some.inj e).symm⟩
        | 1, e => exact ⟨_, (Option.some.inj e).symm⟩
      obtain ⟨n, rfl⟩ := hy
      refine ⟨_, rfl, _, _, _, _, true, rfl, ClsV.ty _, TyX.base (TyOf.int n), kit_ty (by decide +kernel), true, rfl, ?_⟩
      refine iteF ?_
      refine ⟨_, rfl, _, _, _, _, false, rfl, ClsV.ty _, TyX.base (TyOf.int n), kit_ty (by decide +kernel), false, rfl, ?_⟩
      exact iteF ⟨rfl, _, rfl⟩
    · rintro σ H2 ⟨rfl, v, rfl⟩
      have hp2 : (upd H u (.tup [.int q.1, .int q.2])) p = some (.ins C dp (shF q)) := by rw [upd_ne npu]; exact hp
      refine ⟨_, rfl, p, C, dp, _, _, rfl, hp2, T.cl, T.nt, shF_top q, _, rfl, p, C, dp, _, _, rfl, hp2, T.cl, T.nb, shF_bot q, by show 2 ≤ sizeLine; decide, fun r hr => ?_⟩
      exact hQ r _ ((same_new hu).trans (same_new hr)) ((same_new hu).free hr) upd_same
abbrev MakS1 (P : Program) (w : World) (K : PySem.W.Frag) (mg : Str → Option Value) (base : Heap) (C : Addr) : Prop := Mak P w K mg base 2 "Share" C (spInit C) [.int 1]
theorem mk_in {C x dx : Addr} {H1 : Hp} {t b : Int} {n : Nat} {Qv : VK} {E : XK} (nx : H1 x = none) (nd : H1 dx = none) (hb : b ≠ 0) (hn : b.natAbs < 2 ^ n) (hn0 : 0 < n) (hn9 : n ≤ 9000)
    (hQ : ∀ H', Same H1 H' → Sh C H' x (pr (Rat.divInt t b)) → Qv .non H') : spInit C [.ref x, .int t, .int b] (upd (upd H1 dx (.own x)) x (.ins C dx [])) Qv E := by
  refine ⟨x, dx, t, b, n, rfl, hb, hn, hn0, hn9, upd_same, fun H' kp hp => hQ H' (fun a o e => ?_) ⟨dx, KM.low_eq hb ▸ hp⟩⟩
  refine kp a o (ne_of_none e nx) ?_
  rw [upd_ne (ne_of_none e nx), upd_ne (ne_of_none e nd)]
  exact e
end
end K40
set_option Elab.async false
set_option linter.all false
set_option maxRecDepth 100000
set_option maxHeartbeats 4000000
/-! NM: the names that a law draws: words by a base, a place, a spot and a way. -/
namespace NM
open PySem PySem.Spec
def ok (l : List Nat) : Prop := 1 ≤ l.length ∧ l.length ≤ 8 ∧ ∀ c ∈ l, 97 ≤ c ∧ c ≤ 122
def words : List (List Nat) := [[108, 97, 116, 101], [105, 110], [111, 117, 116], [114, 105, 100, 101], [104, 97, 110, 100], [108, 97, 99, 107], [121, 101, 115], [110, 111], [110, 97, 109, 101, 115], [103, 111, 110, 101], [116, 101, 120, 116], [112, 108, 97, 110], [117, 110, 100, 111], [117, 115, 117, 97, 108], [98, 97, 99, 107], [108, 101, 97, 118, 101]]
def lets : List Nat := (List.range 26).map (97 + ·)
def w0 (bs : List Nat) (at_ spot k : Nat) : List Nat := bs.take at_ ++ [97 + (spot + 5 * k) % 26] ++ bs.drop (at_ + 1)
def w1 (bs : List Nat) (at_ spot k : Nat) : List Nat := (w0 bs at_ spot k).take (bs.length - k % (bs.length - at_))
def w2 (spot k : Nat) : List Nat := (List.replicate 8 (97 + (spot + k / 8) % 26)).take (k % 8 + 1)
def w3 (spot k : Nat) : List Nat := words.getD ((spot + k) % 16) []
def word (bs : List Nat) (at_ spot way k : Nat) : List Nat := if way = 1 then w1 bs at_ spot k else if way = 2 then w2 spot k else if way = 3 then w3 spot k else w0 bs at_ spot k
theorem words_ok : ∀ i, i < 16 → ok (words.getD i []) := by
  have : ∀ i : Fin 16, 1 ≤ (words.getD i.1 []).length ∧ (words.getD i.1 []).length ≤ 8 ∧ (words.getD i.1 []).all (fun c => decide (97 ≤ c ∧ c ≤ 122)) = true := by decide +kernel
  intro i hi
  obtain ⟨h1, h2, h3⟩ := this ⟨i, hi⟩
  refine ⟨h1, h2, fun c hc => ?_⟩
  have := List.all_eq_true.mp h3 c hc
  exact of_decide_eq_true this
theorem words_inj : ∀ i j, i < 16 → j < 16 → words.getD i [] = words.getD j [] → i = j := by
  have : ∀ i j : Fin 16, words.getD i.1 [] = words.getD j.1 [] → i = j := by decide +kernel
  intro i j hi hj e
  exact congrArg Fin.val (this ⟨i, hi⟩ ⟨j, hj⟩ e)
section
variable {bs : List Nat} {at_ spot k : Nat}
theorem w0_len (h : at_ < bs.length) : (w0 bs at_ spot k).length = bs.length := by
  unfold w0
  simp only [List.length_append, List.length_take, List.length_drop, List.length_cons, List.length_nil]
  omega
theorem w0_at (h : at_ < bs.length) : (w0 bs at_ spot k)[at_]? = some (97 + (spot + 5 * k) % 26) := by
  unfold w0
  rw [List.append_assoc, List.getElem?_append_right (by rw [List.length_take]; omega), List.length_take, Nat.min_eq_left (by omega), Nat.sub_self]
  rfl
theorem w0_mem (hb : ∀ c ∈ bs, 97 ≤ c ∧ c ≤ 122) : ∀ c ∈ w0 bs at_ spot k, 97 ≤ c ∧ c ≤ 122 := by
  intro c hc
  unfold w0 at hc
  rcases List.mem_append.mp hc with hc | hc
  · rcases List.mem_append.mp hc with hc | hc
    · exact hb c (List.mem_of_mem_take hc)
    · rw [List.mem_singleton] at hc
      omega
  · exact hb c (List.mem_of_mem_drop hc)
theorem w1_len (h : at_ < bs.length) : at_ + 1 ≤ (w1 bs at_ spot k).length ∧ (w1 bs at_ spot k).length ≤ bs.length := by
  unfold w1
  rw [List.length_take, w0_len h]
  have := Nat.mod_lt k (show 0 < bs.length - at_ by omega)
  omega
theorem w1_at (h : at_ < bs.length) : (w1 bs at_ spot k)[at_]? = some (97 + (spot + 5 * k) % 26) := by
  have h1 := (w1_len (spot := spot) (k := k) h).1
  unfold w1 at h1 ⊢
  rw [List.length_take, w0_len h] at h1
  rw [List.getElem?_take_of_lt (by omega)]
  exact w0_at h
theorem spot_inj {i j : Nat} (hi : i < 16) (hj : j < 16) (e : 97 + (spot + 5 * i) % 26 = 97 + (spot + 5 * j) % 26) : i = j := by omega
theorem word_ok (hb0 : 1 ≤ bs.length) (hb8 : bs.length ≤ 8) (hb : ∀ c ∈ bs, 97 ≤ c ∧ c ≤ 122) (h : at_ < bs.length) (way : Nat) : ok (word bs at_ spot way k) := by
  unfold word
  split
  · have := w1_len (spot := spot) (k := k) h
    exact ⟨by omega, by omega, fun c hc => w0_mem hb c (List.mem_of_mem_take hc)⟩
  split
  · unfold w2
    refine ⟨by rw [List.length_take, List.length_replicate]; omega, by rw [List.length_take, List.length_replicate]; omega, fun c hc => ?_⟩
    have := List.eq_of_mem_replicate (List.mem_of_mem_take hc)
    omega
  split
  · exact words_ok _ (Nat.mod_lt _ (by decide))
  · exact ⟨by rw [w0_len h]; exact hb0, by rw [w0_len h]; exact hb8, w0_mem hb⟩
theorem word_inj (h : at_ < bs.length) (way : Nat) {i j : Nat} (hi : i < 16) (hj : j < 16) (e : word bs at_ spot way i = word bs at_ spot way j) : i = j := by
  unfold word at e
  split at e
  · have h1 := w1_at (spot := spot) (k := i) h
    rw [e, w1_at h] at h1
    exact (spot_inj hj hi (Option.some.inj h1)).symm
  split at e
  · unfold w2 at e
    have hl := congrArg List.length e
    rw [List.length_take, List.length_take, List.length_replicate, List.length_replicate] at hl
    have h0 : ((List.replicate 8 (97 + (spot + i / 8) % 26)).take (i % 8 + 1))[0]? = ((List.replicate 8 (97 + (spot + j / 8) % 26)).take (j % 8 + 1))[0]? := by rw [e]
    rw [List.getElem?_take_of_lt (by omega), List.getElem?_take_of_lt (by omega), List.getElem?_replicate, List.getElem?_replicate, if_pos (by decide), if_pos (by decide)] at h0
    have := Option.some.inj h0
    omega
  split at e
  · have := words_inj _ _ (Nat.mod_lt _ (by decide)) (Nat.mod_lt _ (by decide)) e
    omega
  · have h1 := w0_at (spot := spot) (k := i) h
    rw [e, w0_at h] at h1
    exact (spot_inj hj hi (Option.some.inj h1)).symm
/-- as many as are asked: unlike ones -/
theorem all_unlike (h : at_ < bs.length) (way n : Nat) (hn : n ≤ 16) : ((List.range n).map (word bs at_ spot way)).Pairwise (· ≠ ·) := by
  rw [List.pairwise_map]
  refine (List.pairwise_lt_range (n := n)).imp_of_mem fun {a b} ha hb hlt e => ?_
  have := word_inj h way (by have := List.mem_range.mp ha; omega) (by have := List.mem_range.mp hb; omega) e
  omega
end
end NM
set_option Elab.async false
set_option linter.all false
set_option maxRecDepth 100000
set_option maxHeartbeats 4000000
/-! NH: the names that a law with a held dict draws. -/
namespace NH
open PySem PySem.Spec
def word (bs : List Nat) (at_ begin_ step lot k : Nat) : List Nat := bs.take at_ ++ [97 + (begin_ + step * k) % 26] ++ (bs.drop at_).take (if lot = 0 then 8 else k % (bs.length - at_ + 1))
def steps : List Nat := [1, 3, 5, 7, 9, 11, 15, 17]
section
variable {bs : List Nat} {at_ begin_ step lot k : Nat}
theorem word_at (h : at_ ≤ bs.length) : (word bs at_ begin_ step lot k)[at_]? = some (97 + (begin_ + step * k) % 26) := by
  unfold word
  rw [List.append_assoc, List.getElem?_append_right (by rw [List.length_take]; omega), List.length_take, Nat.min_eq_left h, Nat.sub_self]
  rfl
theorem step_inj {i j : Nat} (hs : step ∈ steps) (hi : i < 13) (hj : j < 13) (e : 97 + (begin_ + step * i) % 26 = 97 + (begin_ + step * j) % 26) : i = j := by
  simp only [steps, List.mem_cons, List.not_mem_nil, or_false] at hs
  rcases hs with rfl | rfl | rfl | rfl | rfl | rfl | rfl | rfl <;> omega
theorem word_inj (h : at_ ≤ bs.length) (hs : step ∈ steps) {i j : Nat} (hi : i < 13) (hj : j < 13) (e : word bs at_ begin_ step lot i = word bs at_ begin_ step lot j) : i = j := by
  have h1 := word_at (begin_ := begin_) (step := step) (lot := lot) (k := i) h
  rw [e, word_at h] at h1
  exact (step_inj hs hj hi (Option.some.inj h1)).symm
theorem word_ok (h8 : bs.length ≤ 7) (hb : ∀ c ∈ bs, 97 ≤ c ∧ c ≤ 122) (h : at_ ≤ bs.length) : NM.ok (word bs at_ begin_ step lot k) := by
  unfold word
  refine ⟨?_, ?_, fun c hc => ?_⟩
  · simp only [List.length_append, List.length_take, List.length_drop, List.length_cons, List.length_nil]
    omega
  · simp only [List.length_append, List.length_take, List.length_drop, List.length_cons, List.length_nil]
    omega
  · rcases List.mem_append.mp hc with hc | hc
    · rcases List.mem_append.mp hc with hc | hc
      · exact hb c (List.mem_of_mem_take hc)
      · rw [List.mem_singleton] at hc
        omega
    · exact hb c (List.mem_of_mem_drop (List.mem_of_mem_take hc))
theorem all_unlike (h : at_ ≤ bs.length) (hs : step ∈ steps) (n : Nat) (hn : n ≤ 13) : ((List.range n).map (word bs at_ begin_ step lot)).Pairwise (· ≠ ·) := by
  rw [List.pairwise_map]
  refine (List.pairwise_lt_range (n := n)).imp_of_mem fun {a b} ha hb hlt e => ?_
  have := word_inj h hs (by have := List.mem_range.mp ha; omega) (by have := List.mem_range.mp hb; omega) e
  omega
end
end NH
set_option Elab.async false
set_option linter.all false
set_option maxRecDepth 100000
set_option maxHeartbeats 4000000
namespace K40
open PySem PySem.Spec PyProof.Rows L2
open C8 (Cal Mak Met pe_c pe_mk pe_mt pe_mt0)
open SX (S)
theorem lets_S : (Str.ofString "abcdefghijklmnopqrstuvwxyz").cps.toList = NM.lets := by decide +kernel
theorem at_lets {x : Int} {j : Nat} (e : x = (j : Int)) (hj : j < 26) : atI (Str.ofString "abcdefghijklmnopqrstuvwxyz").cps.toList x = some (97 + j) := by
  rw [e, lets_S]
  refine atI_nat ?_
  unfold NM.lets
  rw [List.getElem?_map, List.getElem?_range hj]
  rfl
theorem cut_t {l : List Nat} {x : Int} {j : Nat} (e : x = (j : Int)) (h : j ≤ l.length) : cutS (S l) none (some x) = S (l.take j) := by
  rw [e]
  unfold cutS
  rw [HT.sIx_nat, HT.sIx_none, SX.S_len, Nat.min_eq_left h]
  simp [S]
theorem cut_m {l : List Nat} {x y : Int} {j m : Nat} (e : x = (j : Int)) (e2 : y = ((j + m : Nat) : Int)) (h : j ≤ l.length) : cutS (S l) (some x) (some y) = S ((l.drop j).take m) := by
  rw [e, e2]
  unfold cutS
  rw [HT.sIx_nat, HT.sIx_nat, SX.S_len, Nat.min_eq_left h]
  have e3 : (l.drop j).take (min (j + m) l.length - j) = (l.drop j).take m := by
    by_cases c : j + m ≤ l.length
    · rw [Nat.min_eq_left c, Nat.add_sub_cancel_left]
    · rw [Nat.min_eq_right (by omega), List.take_of_length_le (Nat.le_of_eq (List.length_drop ..)), List.take_of_length_le (by rw [List.length_drop]; omega)]
  simp [S, e3]
theorem ones : ∀ bs : List Nat, ((bs.map fun c => S [c]).map (·.length)).sum = bs.length
  | [] => rfl
  | b :: bs => by
    rw [List.map_cons, List.map_cons, List.sum_cons, ones bs, List.length_cons, SX.S_len]
    simp
    omega
theorem joined : ∀ bs : List Nat, TL.joinL [] (bs.map fun c => [c]) = bs
  | [] => rfl
  | [b] => rfl
  | b :: d :: bs => by
    have := joined (d :: bs)
    simp only [List.map_cons, TL.joinL] at this ⊢
    simp [this]
theorem Held.ne_new {H : Hp} {h u : Addr} {c : Nat} (x : Held H h c) (e : H u = none) : u ≠ h := by
  obtain ⟨l, ns, n, m, h1, _⟩ := x
  exact (ne_of_none h1 e).symm
/-- the held dict's cells aren't at D -/
def Cel (h D : Addr) (H : Hp) : Prop := ∃ la n m, H h = some (.dK (hd0 la n m)) ∧ la ≠ D ∧ h ≠ D
theorem Cel.kp {h D : Addr} {H H' : Hp} (x : Cel h D H) (k : Kp h H H') : Cel h D H' := by
  obtain ⟨la, n, m, e, n1, n2⟩ := x
  obtain ⟨n', m', e'⟩ := k.2 _ _ _ e
  exact ⟨la, n', m', e', n1, n2⟩
theorem Cel.of {h D : Addr} {H : Hp} {c : Nat} (x : Held H h c) (f : H D = none) : Cel h D H := by
  obtain ⟨la, ns, n, m, e1, e2, _⟩ := x
  exact ⟨la, n, m, e1, ne_of_none e2 f, ne_of_none e1 f⟩
theorem Cel.ne {h D : Addr} {H : Hp} (x : Cel h D H) : D ≠ h := by
  obtain ⟨_, _, _, _, _, n⟩ := x
  exact n.symm
theorem Held.put {h D : Addr} {H : Hp} {o : HO} {c : Nat} (x : Held H h c) (y : Cel h D H) : Held (upd H D o) h c := by
  obtain ⟨la, ns, n, m, e1, e2, e3⟩ := x
  obtain ⟨la', n', m', e', n1, n2⟩ := y
  cases hd_inj (Option.some.inj (e1.symm.trans e'))
  exact ⟨la, ns, n, m, by rw [upd_ne n2]; exact e1, by rw [upd_ne n1]; exact e2, e3⟩
theorem Cel.put {h D D' : Addr} {H : Hp} {o : HO} (x : Cel h D H) (n : h ≠ D') : Cel h D (upd H D' o) := by
  obtain ⟨la', n', m', e', n1, n2⟩ := x
  exact ⟨la', n', m', by rw [upd_ne n]; exact e', n1, n2⟩
theorem Kp.new {h st : Addr} {H1 H2 : Hp} {o : HO} (k : Kp h H1 H2) (f : H1 st = none) : Kp h H1 (upd H2 st o) :=
  ⟨fun b u e ne => by rw [upd_ne (ne_of_none e f)]; exact k.1 b u e ne, fun l n m e => by
    obtain ⟨n', m', e'⟩ := k.2 l n m e
    exact ⟨n', m', by rw [upd_ne (ne_of_none e f)]; exact e'⟩⟩
theorem pick {α : Type} (g : α → V) {L : List α} {i : Int} (i0 : 0 ≤ i) (i1 : i < (L.length : Int)) : ∃ x ∈ L, atI (L.map g) i = some (g x) := by
  obtain ⟨j, rfl⟩ := Int.eq_ofNat_of_zero_le i0
  have hj : j < L.length := by omega
  exact ⟨L[j], List.getElem_mem hj, atI_nat (j := j) (by rw [List.getElem?_map, List.getElem?_eq_getElem hj]; rfl)⟩
section
variable {P : Program} {w : World} {K : PySem.W.Frag} {mg : Str → Option Value} {base : Heap} {f C : Addr} {fd : FuncData}
def spNames : Sp := fun vs H Q _ => ∃ (h : Addr) (c n : Nat), vs = [.ref h, .int n] ∧ Held H h (c + 40) ∧ n ≤ 13 ∧
  ∀ (o : Addr) (zs : List (List Nat)) (H' : Hp), Held H' h c → Kp h H H' → H o = none → H' o = some (.lst (zs.map fun l => V.str (S l))) → zs.length = n → (∀ z ∈ zs, NM.ok z) → zs.Pairwise (· ≠ ·) → Q (.ref o) H'
theorem ok_names (F : Dn K d_l_names f fd) (bl : Bl mg) (cD : CalD P w K mg base) : FnOk P w K mg base CX0 2 f fd ["_law_held_here", "_law_many"] spNames := by
  refine F.ok sc_l_names (fun vs H Q E h => ?_) (fun cdv A outer s H vs Q E hr h => ?_)
  · obtain ⟨p, c, n, rfl, _⟩ := h
    rfl
  · obtain ⟨p, c, n, rfl, pen, hn, hQ⟩ := h
    refine ⟨_, PSs.nox (pss_cons (ps_set (i := 2) sc_l_names.nd rfl (.inr rfl) pe_str)
      (pss_cons (ps_set (i := 3) sc_l_names.nd rfl (.inl rfl) (pe_c cD hr (by decide) rfl (pa_cons (pv 0) (pa_cons pe_int pa_nil))))
      (C8.pss_cut (ps_set (i := 5) sc_l_names.nd rfl (.inl rfl) (pe_join pe_str (pe_lc (own := [("_law_k", 4)]) (g := gName 4) (tt := tYes) rfl sc_l_names.nd (pi_range1 rfl bl.range (pa_cons (pv 3) pa_nil)) (blkOk_by (N := N_l_names) (sc := defScope s_l_names) (by decide +kernel))
          (fun _ _ _ _ _ => pg_name (i := 4) sc_l_names.nd rfl (Or.inl rfl)) (fun _ _ _ _ _ => pts_nil) (fun _ _ _ _ _ => pe_ix ix_str (pv 2) (pe_c cD hr (by decide) rfl (pa_cons (pv 0) (pa_cons pe_int pa_nil))) (fun _ _ => rfl)))))
      (pss_cons (ps_par (i := 6) (j := 7) rfl sc_l_names.nd rfl rfl (by decide) rfl rfl (pa_cons (pe_c cD hr (by decide) rfl (pa_cons (pv 0) (pa_cons (pe_op op_add (pv 3) pe_int) pa_nil))) (pa_cons (pe_c cD hr (by decide) rfl (pa_cons (pv 0) (pa_cons pe_int pa_nil))) pa_nil)) rfl)
      (pss_cons (ps_par (i := 8) (j := 9) rfl sc_l_names.nd rfl rfl (by decide) rfl rfl (pa_cons (pe_ix ix_list (pe_lst (pa_cons pe_int (pa_cons pe_int (pa_cons pe_int (pa_cons pe_int (pa_cons pe_int (pa_cons pe_int (pa_cons pe_int (pa_cons pe_int pa_nil))))))))) (pe_c cD hr (by decide) rfl (pa_cons (pv 0) (pa_cons pe_int pa_nil))) (fun _ _ => rfl)) (pa_cons (pe_c cD hr (by decide) rfl (pa_cons (pv 0) (pa_cons pe_int pa_nil))) pa_nil)) rfl)
      (pss_cons (ps_set (i := 10) sc_l_names.nd rfl (.inl rfl) (pe_lst pa_nil))
      (pss_cons (ps_for PassesOwn.never rfl (pi_range1 rfl bl.range (pa_cons (pv 1) pa_nil)) (pg_name (i := 4) sc_l_names.nd rfl (.inl rfl))
        (C8.pss_cut (ps_set (i := 11) sc_l_names.nd rfl (.inl rfl) (pe_slice sl_str (pv 5) (po_some (pv 6)) (po_some (pe_op op_add (pv 6) (pe_ix ix_list (pe_lst (pa_cons pe_int (pa_cons (pe_op op_mod (pv 4) (pe_op op_add (pe_op op_sub (pv 3) (pv 6)) pe_int)) pa_nil))) (pv 9) (fun _ _ => rfl))))))
        (pss_one (ps_expr (pe_bm PySem.F.plainAttrs_list PySem.F.slot_list_append PySem.F.type_list_append mt_append (pv 10) (pa_cons (pe_op op_add_str (pe_op op_add_str (pe_slice sl_str (pv 5) po_none (po_some (pv 6))) (pe_ix ix_str (pv 2) (pe_op op_mod (pe_op op_add (pv 7) (pe_op op_mul (pv 8) (pv 4))) pe_int) (fun _ _ => rfl))) (pv 11)) pa_nil))))))
      (pss_one (ps_ret (pv 10)))))))))), ?_⟩
    -- the size
    refine ⟨_, rfl, p, c + 39, _, rfl, pen, by decide, by decide, fun z0 H2 a2 b2 pen2 k2 => ?_⟩
    obtain ⟨sz, rfl⟩ := Int.eq_ofNat_of_zero_le a2
    have sz7 : sz ≤ 7 := by omega
    -- the base
    refine ⟨fun σ' H' => ∃ bs : List Nat, σ' = [some (.ref p), some (.int n), some (.str (Str.ofString "abcdefghijklmnopqrstuvwxyz")), some (.int (sz : Int)), none, some (.str (S bs)), none, none, none, none, none, none] ∧ bs.length = sz ∧ (∀ c ∈ bs, 97 ≤ c ∧ c ≤ 122) ∧
      Held H' p (c + 30) ∧ Kp p H H', ?_, ?_⟩
    · refine ⟨⟨_, rfl⟩, _, rfl, _, rfl, by omega, by omega, ?_⟩
      rw [Int.toNat_natCast]
      intro D hD
      have offD := Cel.of pen2 hD
      have sD := same_new (o := .lst []) hD
      refine lc_range (n := sz) (fun i H3 => ∃ bs : List Nat, bs.length = i ∧ (∀ c ∈ bs, 97 ≤ c ∧ c ≤ 122) ∧ H3 D = some (.lst (bs.map fun c => V.str (S [c]))) ∧ Held H3 p (c + 39 - i) ∧ Kp p H2 H3 ∧ Cel p D H3) ?_ ?_ ?_
      · exact ⟨[], rfl, by simp, upd_same, pen2.same sD, Kp.same sD, offD.kp (Kp.same sD)⟩
      · rintro i H3 hi ⟨bs, hbl, hbc, hd, pen3, k3, off3⟩
        refine ⟨rfl, ?_⟩
        refine ⟨_, rfl, _, rfl, p, c + 39 - (i + 1), _, rfl, pen3.weak (by omega), by decide, by decide, fun r H4 r0 r1 pen4 k4 => ?_⟩
        obtain ⟨rn, rfl⟩ := Int.eq_ofNat_of_zero_le r0
        have hd4 := k4.1 _ _ hd off3.ne
        have off4 := off3.kp k4
        refine ⟨_, _, 97 + rn, rfl, rfl, by decide +kernel, at_lets rfl (by omega), _, hd4, ?_, bs ++ [97 + rn], by simp [hbl], ?_, ?_, pen4.put off4, (k3.trans k4).new hD, ?_⟩
        · rw [List.length_map, hbl]
          exact Nat.lt_of_lt_of_le (by omega : i < 64) (by decide)
        · intro c' hc'
          rcases List.mem_append.mp hc' with hc' | hc'
          · exact hbc c' hc'
          · rw [List.mem_singleton] at hc'
            omega
        · rw [upd_same]
          simp [S]
        · exact off4.put off4.ne.symm
      · rintro H3 ⟨bs, hbl, hbc, hd, pen3, k3, off3⟩
        have ey : (bs.map fun c => V.str (S [c])) = (bs.map fun c => S [c]).map V.str := by rw [List.map_map]; rfl
        refine ⟨_, D, bs.map fun c => S [c], rfl, rfl, .inl (by rw [← ey]; exact SqL.of hd), ?_, bs, ?_, hbl, hbc, pen3.weak (by omega), k2.trans k3⟩
        · rw [ones bs, List.length_map]
          have e2 : (Str.ofString "").length = 0 := by decide +kernel
          rw [e2, hbl]
          omega
        · have e3 : Txt.join (Str.ofString "") (bs.map fun c => S [c]) = S bs := by
            have e4 : Str.ofString "" = S [] := by decide +kernel
            have e5 : (bs.map fun c => S [c]) = (bs.map fun c => [c]).map S := by rw [List.map_map]; rfl
            rw [e4, e5, SX.join_S, joined]
          rw [e3]
          rfl
    clear pen pen2 k2
    rintro σ' H3 ⟨bs, rfl, hbl, hbc, pen3, k3⟩
    refine ⟨_, rfl, _, rfl, _, _, rfl, rfl, p, c + 29, _, rfl, pen3, by omega, by omega, fun at_ H4 a4 b4 pen4 k4 => ?_⟩
    refine ⟨_, rfl, p, c + 28, _, rfl, pen4, by decide, by decide, fun bg H5 a5 b5 pen5 k5 => ⟨_, _, rfl, ?_⟩⟩
    refine ⟨by show 8 ≤ sizeLine; decide, fun u fu => ?_⟩
    have su := same_new (o := .lst [.int 1, .int 3, .int 5, .int 7, .int 9, .int 11, .int 15, .int 17]) fu
    refine ⟨_, rfl, p, c + 27, 8, rfl, pen5.same su, by decide, by decide, fun q6 H6 a6 b6 pen6 k6 => ?_⟩
    have hu6 := k6.1 u _ upd_same (pen5.ne_new fu)
    obtain ⟨st, hst, est⟩ := pick (fun n : Nat => V.int (n : Int)) (L := NH.steps) a6 (by simpa [NH.steps] using b6)
    refine ⟨u, _, _, _, rfl, rfl, SqL.of hu6, est, ?_⟩
    refine ⟨_, rfl, p, c + 26, 2, rfl, pen6, by decide, by decide, fun lot H7 a7 b7 pen7 k7 => ⟨_, _, rfl, ?_⟩⟩
    obtain ⟨at_, rfl⟩ := Int.eq_ofNat_of_zero_le a4
    obtain ⟨bg, rfl⟩ := Int.eq_ofNat_of_zero_le a5
    obtain ⟨lot, rfl⟩ := Int.eq_ofNat_of_zero_le a7
    have hat : at_ ≤ bs.length := by omega
    have k07 := ((k3.trans k4).trans k5).trans (((Kp.same su).trans k6).trans k7)
    have st17 : st ≤ 17 := by
      simp only [NH.steps, List.mem_cons, List.not_mem_nil, or_false] at hst
      omega
    clear k3 k4 k5 k6 k7 su pen3 pen4 pen5 pen6
    refine ⟨by show 0 ≤ sizeLine; decide, fun o fo => ?_⟩
    have so := same_new (o := .lst []) fo
    refine ⟨_, rfl, _, rfl, by omega, by omega, ?_⟩
    rw [Int.toNat_natCast]
    have fo0 : H o = none := by
      cases e : H o with
      | none => rfl
      | some ob =>
        by_cases z : o = p
        · rw [z] at fo
          obtain ⟨l0, ns0, n0, m0, h0, _⟩ := pen7
          rw [h0] at fo
          cases fo
        · rw [k07.1 o ob e z] at fo
          cases fo
    refine for_range (n := n) (fun i σ H8 => ∃ (v4 v11 : Option V), σ = [some (.ref p), some (.int n), some (.str (Str.ofString "abcdefghijklmnopqrstuvwxyz")), some (.int (sz : Int)), v4, some (.str (S bs)), some (.int (at_ : Int)), some (.int (bg : Int)), some (.int (st : Int)), some (.int (lot : Int)), some (.ref o), v11] ∧
        H8 o = some (.lst (((List.range i).map (NH.word bs at_ bg st lot)).map fun l => V.str (S l))) ∧ Held H8 p c ∧ Kp p H H8 ∧ Cel p o H8)
      ⟨none, none, rfl, upd_same, (pen7.same so).weak (by omega), k07.trans (Kp.same so), (Cel.of pen7 fo).kp (Kp.same so)⟩ ?_ ?_
    · rintro i σ H8 hi ⟨v4, v11, rfl, ho8, pen8, k8, off8⟩
      have len0 : (S bs).length ≤ sizeLine := by rw [SX.S_len]; exact Nat.le_trans (by omega : bs.length ≤ 8) (by decide)
      have lets_len : (Str.ofString "abcdefghijklmnopqrstuvwxyz").length ≤ sizeLine := by decide +kernel
      obtain ⟨m, hm⟩ : ∃ m : Nat, (if lot = 0 then 8 else i % (bs.length - at_ + 1)) = m := ⟨_, rfl⟩
      refine ⟨fun σ' H' => σ' = [some (.ref p), some (.int n), some (.str (Str.ofString "abcdefghijklmnopqrstuvwxyz")), some (.int (sz : Int)), some (.int (0 + (i : Int))), some (.str (S bs)), some (.int (at_ : Int)), some (.int (bg : Int)), some (.int (st : Int)), some (.int (lot : Int)), some (.ref o), some (.str (S ((bs.drop at_).take m)))] ∧ Same H8 H', ?_, ?_⟩
      · refine ⟨_, rfl, _, rfl, _, rfl, _, rfl, _, rfl, _, rfl, _, rfl, _, _, rfl, rfl, _, _, rfl, rfl, _, _, rfl, rfl, by omega, by show 2 ≤ sizeLine; decide, fun u2 fu2 => ?_⟩
        have eix : atI [V.int 8, .int ((0 + (i : Int)) % ((sz : Int) - (at_ : Int) + 1))] (lot : Int) = some (.int (m : Nat)) := by
          rcases (show lot = 0 ∨ lot = 1 by omega) with rfl | rfl
          · rw [← hm]
            rfl
          · have h1 : ((sz : Int) - (at_ : Int) + 1) = ((bs.length - at_ + 1 : Nat) : Int) := by omega
            rw [h1, Int.zero_add, ← Int.natCast_emod, ← hm]
            rfl
        refine ⟨_, rfl, u2, _, _, _, rfl, rfl, SqL.of upd_same, eix, _, _, rfl, rfl, _, rfl, _, rfl, len0, ?_⟩
        rw [cut_m (j := at_) (m := m) rfl (by omega) hat]
        exact ⟨rfl, same_new fu2⟩
      · rintro σ' H9 ⟨rfl, s9⟩
        have ho9 := s9 _ _ ho8
        have e5 : ((bg : Int) + (st : Int) * (0 + (i : Int))) % 26 = (((bg + st * i) % 26 : Nat) : Int) := by
          rw [Int.zero_add, ← Int.natCast_mul, ← Int.natCast_add]
          exact (Int.natCast_emod _ 26).symm
        refine ⟨_, rfl, Or.inl ⟨rfl, _, SqL.of ho9⟩, _, rfl, _, rfl, _, rfl, _, rfl, len0, ?_⟩
        rw [cut_t rfl hat]
        refine ⟨_, rfl, _, rfl, _, rfl, _, rfl, _, _, rfl, rfl, cb_l (by omega) (by omega), _, _, rfl, rfl, _, _, rfl, rfl, (by decide : (0 : Int) < 26), _, _, _, rfl, rfl, lets_len, at_lets e5 (Nat.mod_lt _ (by decide)), _, _, rfl, rfl, ?_, ?_⟩
        · rw [SX.S_len, List.length_take]
          exact Nat.le_trans (by show min at_ bs.length + 1 ≤ 64; omega) (by decide)
        have ec : S (bs.take at_) ++ (⟨#[97 + (bg + st * i) % 26]⟩ : Str) = S (bs.take at_ ++ [97 + (bg + st * i) % 26]) := SX.S_cat _ _
        rw [ec]
        refine ⟨_, rfl, _, _, rfl, rfl, ?_, ?_⟩
        · rw [SX.S_len, SX.S_len, List.length_append, List.length_take, List.length_take, List.length_drop]
          exact Nat.le_trans (by show min at_ bs.length + 1 + min m (bs.length - at_) ≤ 64; omega) (by decide)
        rw [SX.S_cat]
        have ew : bs.take at_ ++ [97 + (bg + st * i) % 26] ++ (bs.drop at_).take m = NH.word bs at_ bg st lot i := by rw [← hm]; rfl
        rw [ew]
        refine ⟨o, _, _, rfl, rfl, ho9, ?_, _, _, rfl, ?_, (pen8.same s9).put (off8.kp (Kp.same s9)), (k8.trans (Kp.same s9)).new fo0, (off8.kp (Kp.same s9)).put off8.ne.symm⟩
        · rw [List.length_map, List.length_map, List.length_range]
          exact Nat.lt_of_lt_of_le (by omega : i < 64) (by decide)
        · rw [upd_same, List.range_succ, List.map_append, List.map_append]
          rfl
    · rintro σ H8 ⟨v4, v11, rfl, ho8, pen8, k8, off8⟩
      refine ⟨_, rfl, hQ o _ H8 pen8 k8 fo0 ho8 (by simp) (fun z hz => ?_) (NH.all_unlike hat hst n hn)⟩
      obtain ⟨k, _, rfl⟩ := List.mem_map.mp hz
      exact NH.word_ok (by omega) hbc hat
end
end K40
set_option Elab.async false
set_option linter.all false
set_option maxRecDepth 100000
set_option maxHeartbeats 4000000
namespace K40
open PySem PySem.Spec PyProof.Rows L2
open C8 (Cal Mak Met pe_c pe_mk pe_mt pe_mt0)
/-- a day: unlike names of the order -/
structure DayOk (xs R : List Str) : Prop where
  ne : R ≠ []
  nd : R.Nodup
  sub : ∀ y ∈ R, y ∈ xs
  ln : R.length ≤ xs.length
theorem map_eraseIdx' {α β : Type} {g : α → β} : ∀ {xs : List α} {q : Nat}, (xs.map g).eraseIdx q = (xs.eraseIdx q).map g
  | [], _ => rfl
  | _ :: _, 0 => rfl
  | x :: xs, q + 1 => by simp [map_eraseIdx' (xs := xs) (q := q)]
theorem perm_eraseIdx {α : Type} : ∀ {xs : List α} {q : Nat} (h : q < xs.length), xs.Perm (xs[q] :: xs.eraseIdx q)
  | x :: xs, 0, _ => by simp
  | x :: xs, q + 1, h => by
    have hq : q < xs.length := by simpa using h
    simp only [List.getElem_cons_succ, List.eraseIdx_cons_succ]
    exact ((perm_eraseIdx hq).cons x).trans (List.Perm.swap _ _ _)
theorem Kp.free {h t : Addr} {H H' : Hp} {c : Nat} (k : Kp h H H') (pn : Held H' h c) (f : H' t = none) : H t = none := by
  cases e : H t with
  | none => rfl
  | some o =>
    by_cases z : t = h
    · rw [z] at f
      obtain ⟨l, ns, n, m, h1, _⟩ := pn
      rw [h1] at f
      cases f
    · rw [k.1 t o e z] at f
      cases f
theorem Kp.tupS {K : PySem.W.Frag} {h t : Addr} {H H' : Hp} {c : Nat} {xs : List V} (k : Kp h H H') (x : Held H h c) (e : H t = some (.tup xs)) : H' t = some (.tup xs) := by
  obtain ⟨l, ns, n, m, h1, _⟩ := x
  exact k.1 t _ e (ne_of e h1 (by intro z; cases z))
section
variable {P : Program} {w : World} {K : PySem.W.Frag} {mg : Str → Option Value} {base : Heap} {f C : Addr} {fd : FuncData}
end
end K40
set_option Elab.async false
set_option linter.all false
set_option maxRecDepth 100000
set_option maxHeartbeats 4000000
/-! ST: len(set(xs)) of unlike texts, xs a list or a tuple. -/
namespace ST
open PySem PySem.Spec PyProof.Rows
theorem not_yet {xs : List Str} (hn : xs.Nodup) {i : Nat} (h : i < xs.length) : ((xs.take i).any (· == xs.getD i Str.empty)) = false := by
  have e : xs.getD i Str.empty = xs[i] := by rw [List.getD_eq_getElem?_getD, List.getElem?_eq_getElem h]; rfl
  rw [e, List.any_eq_false]
  intro x hx z
  obtain ⟨j, hj, ej⟩ := List.getElem_of_mem hx
  have hji : j < i := by rw [List.length_take] at hj; omega
  rw [List.getElem_take] at ej
  exact List.pairwise_iff_getElem.mp hn j i (by omega) h hji (ej.trans (beq_iff_eq.mp z))
theorem one_more (xs : List Str) {i : Nat} (h : i < xs.length) (k : Str) : ((xs.take i).any (· == k) || decide (k = xs.getD i Str.empty)) = (xs.take (i + 1)).any (· == k) := by
  have e : xs.getD i Str.empty = xs[i] := by rw [List.getD_eq_getElem?_getD, List.getElem?_eq_getElem h]; rfl
  rw [e, List.take_add_one, List.getElem?_eq_getElem h, List.any_append]
  congr 1
  show decide (k = xs[i]) = [xs[i]].any (· == k)
  rw [List.any_cons, List.any_nil, Bool.or_false, Bool.eq_iff_iff, decide_eq_true_eq, beq_iff_eq]
  exact ⟨Eq.symm, Eq.symm⟩
section
variable {prog : Program} {w : World} {A : Around} {R : Result → Shared → Prop} {I S : Addr} {fp wr : List Addr} {G : Array GenState → Array GenState → Prop} {n : Nat} {P : Nat → Value → Prop} {St : Nat → Shared → Prop}
/-- the set of the first i of them stands at S -/
abbrev Has (prog : Program) (w : World) (S : Addr) (xs : List Str) (i : Nat) (h : Heap) : Prop := h.SetOf (PySem.strKind prog w) S (fun k => (xs.take i).any (· == k)) i
theorem Has.to {xs : List Str} {i : Nat} {h h' : Heap} (x : Has prog w S xs i h) (k : ∀ o, h.get? S = some o → h'.get? S = some o) : Has prog w S xs i h' := by
  obtain ⟨o, es, ep, t, ho, r⟩ := x
  exact ⟨o, es, ep, t, k o ho, r⟩
theorem walk (W : WalksS prog w A.in1 I fp wr G n P St) (hf : S ∉ fp) {xs : List Str} (hn : xs.Nodup) (hl : xs.length = n) (hb : n + 1 < scanBound) (hv : ∀ i v, P i v → ∃ t, v = .str (xs.getD i Str.empty) t) :
    ∀ (r i : Nat) (s : Shared), i + r = n → St i s → Has prog w S xs i s.heap → (∀ s', Moved (S :: wr) G s s' → Has prog w S xs n s'.heap → R (.ok (.ret .none)) s') →
      codeAny (model prog w) A (.builtin "set.update.loop" ⟨[.ref S, .ref I], []⟩) R s := by
  have nw : S ∉ wr := fun z => hf (W.sub _ z)
  have up : ∀ b ∈ wr, b ∈ S :: wr := fun b z => List.mem_cons_of_mem _ z
  intro r
  induction r with
  | zero =>
    intro i s e st hs fin
    cases (show i = n from e)
    refine codeAny_builtin PyProof.Rows.F.entry_set_update_loop ?_; rw [Around.under_plainId PyProof.Rows.F.plain_set_update_loop _]
    show wpAny _ A.in1 (pyNext (.ref I) >>= _) _ _ s; refine wpAny_bind (W.done s _ _ st fun s' m => ?_)
    exact wpAny_pure (fin s' (m.mono up) (hs.to fun o => m.heap S o nw))
  | succ r ih =>
    intro i s e st hs fin
    have li : i < n := by omega
    refine codeAny_builtin PyProof.Rows.F.entry_set_update_loop ?_; rw [Around.under_plainId PyProof.Rows.F.plain_set_update_loop _]
    show wpAny _ A.in1 (pyNext (.ref I) >>= _) _ _ s; refine wpAny_bind (W.item i s _ _ li st fun v s' pv st' m => ?_)
    obtain ⟨t, rfl⟩ := hv i v pv
    have hs' := hs.to fun o => m.heap S o nw
    show wpAny _ A.in1 (holding [Value.str (xs.getD i Str.empty) t] (setAdd S (.str (xs.getD i Str.empty) t)) >>= _) _ _ s'; refine wpAny_bind (wpAny_holding ?_)
    unfold setAdd
    refine wpAny_holding (wpAny_bind ((PySem.strKind prog w).pyHash (k := xs.getD i Str.empty) (strKind_is _ _ _ _) ?_))
    refine wpAny_setAddHashed_of (knd := PySem.strKind prog w) (s := { s' with toks := s'.toks + 1 }) (strKind_is _ _ _ _) rfl hs' (by omega) fun h' but h2 => ?_
    have hs2 : Has prog w S xs (i + 1) h' := SetOf_congr h2 (fun k => one_more xs (by omega) k) (by
      have z : (xs.take i).any (· == xs.getD i Str.empty) = false := not_yet hn (by omega)
      show (if (xs.take i).any (· == xs.getD i Str.empty) = true then i else i + 1) = i + 1
      rw [z]; rfl)
    refine wpAny_pure ⟨plainId_quiet PyProof.Rows.F.plain_set_update_loop _, ih (i + 1) _ (by omega) (W.frame _ s' _ _ st' (Nat.le_succ _) fun b hb o eo => ?_) hs2 fun s2 m2 h3 => ?_⟩
    · rw [but.2 b (fun z : b = S => hf (z ▸ hb))]
      exact eo
    · refine fin s2 (Moved.trans W.gtrans ((m.mono up).then_heap (Nat.le_succ _) fun b o hb eo => ?_) m2) h3
      rw [but.2 b (fun z : b = S => hb (z ▸ List.mem_cons_self))]
      exact eo
end
/-- a new set -/
abbrev fresh (led : Bool) : Obj := { cls := .type "set", dict := none, data := .set #[] 0 (.fresh 0 0 led) }
section
variable {prog : Program} {w : World} {A : Around} {E : Value → Shared → Prop} {s : Shared}
/-- how the call of set ends -/
abbrev EndOf (prog : Program) (w : World) (xs : List Str) (s : Shared) (s2 : Shared) : Prop := ∃ h' tk, s2 = { s with heap := h', toks := tk } ∧ Has prog w s.heap.objs.size xs xs.length h' ∧ ∀ b o, s.heap.get? b = some o → h'.get? b = some o
set_option maxHeartbeats 8000000 in
/-- set(xs), given what __init__ does with the new set -/
theorem call_by {l : Addr} {xs : List Str} {Q : Value → Shared → Prop}
    (hi : ∀ led : Bool, wpAny (model prog w) A.in1.in1 (Builtin.«set.__init__» ⟨[.ref s.heap.objs.size, .ref l], []⟩)
      (fun fin s' => match fin with | .done f => wants (fun r s₂ => r = .none ∧ EndOf prog w xs s s₂) E (.ok f) s' | .again c' => c'.quiet = true ∧ codeAny (model prog w) A.in1 c' (wants (fun r s₂ => r = .none ∧ EndOf prog w xs s s₂) E) s')
      (fun e s' => wants (fun r s₂ => r = .none ∧ EndOf prog w xs s s₂) E (.error e) s') { s with heap := s.heap.push (fresh led) })
    (h : ∀ s2, EndOf prog w xs s s2 → Q (.ref s.heap.objs.size) s2) : wpAny (model prog w) A (call (.type "set") [.ref l]) Q E s := by
  obtain ⟨c0, t0, mro0⟩ := PySem.F.called_set.mro
  have made0 := PySem.F.called_set.made; have sub0 := PySem.F.called_set.sub
  refine wpAny_call (codeAny_of_tree ?_); show wpAny _ _ (callAny (.type "set") _) _ _ _
  refine wpAny_pure ⟨Code.quiet_builtin _ (by decide +kernel), codeAny_builtin PySem.F.entry_type_call ?_⟩; rw [Around.under_plain (weight_type_call_type "set" [.ref l] []) rfl]
  have nt0 := PySem.F.called_set.notType; have cc0 := PySem.F.called_set.canCreate; have ct0 := PySem.F.typeCall_set_1 (.ref l)
  (repeat (any_goals (first | assumption | wp_step)))
  refine codeAny_mono (code_set_new_1 (.ref l) (E := E) (Q₁ := fun ob s1 => ∃ led : Bool, ob = .ref s.heap.objs.size ∧ s1 = { s with heap := s.heap.push (fresh led) }) fun led => ⟨led, rfl, rfl⟩) fun r s1 hr => ?_
  match r, hr with
  | .error e, hr => exact hr
  | .ok .next, hr => exact hr.elim
  | .ok .brk, hr => exact hr.elim
  | .ok .cont, hr => exact hr.elim
  | .ok (.ret ob), hr =>
    obtain ⟨led, rfl, rfl⟩ := hr
    have at0 : (s.heap.push (fresh led)).get? s.heap.objs.size = some (fresh led) := Heap.get?_push_size _ rfl
    have ty0 : Shared.TypeIs { s with heap := s.heap.push (fresh led) } (.ref s.heap.objs.size) "set" := ⟨_, at0, rfl⟩
    have lo0 := PySem.F.called_set.init.lookup; have bi0 := PySem.F.called_set.init.bind (.ref s.heap.objs.size)
    (repeat (any_goals (first | assumption | wp_step)))
    refine codeAny_mono (codeAny_call_builtin (R := wants (fun r s₂ => r = .none ∧ EndOf prog w xs s s₂) E) PySem.F.called_set.init.plain PySem.F.entry_set_init (check_set_init_1 ty0 (hi led))) fun r2 s2 hr2 => ?_
    match r2, hr2 with
    | .error e, hr2 => exact hr2
    | .ok .next, hr2 => exact hr2.elim
    | .ok .brk, hr2 => exact hr2.elim
    | .ok .cont, hr2 => exact hr2.elim
    | .ok (.ret v), hr2 =>
      obtain ⟨rfl, en⟩ := hr2
      have q := h s2 en
      obtain ⟨h', tk, rfl, h1, h2⟩ := en
      (repeat (any_goals (first | assumption | wp_step)))
set_option maxHeartbeats 8000000 in
theorem call_tup {l : Addr} {items : Array Value} {xs : List Str} {Q : Value → Shared → Prop} (hh : A.handled = none) (hl : s.heap.IsTuple l items) (hi : PyProof.Rows.StrsAre items.toList xs) (hn : xs.Nodup) (hb : xs.length + 1 < scanBound)
    (h : ∀ s2, EndOf prog w xs s s2 → Q (.ref s.heap.objs.size) s2) : wpAny (model prog w) A (call (.type "set") [.ref l]) Q E s := by
  refine call_by (xs := xs) (fun led => ?_) h
  obtain ⟨ol, ho, hc, nl, hd⟩ := hl
  obtain ⟨cl, dc, dt, sl⟩ := ol
  simp only at hc hd
  subst hc; subst hd
  have o1 : (s.heap.push (fresh led)).get? l = some { cls := .type "tuple", dict := dc, data := .seq items nl, slots := sl } := Heap.get?_push_of_some _ ho
  have l1 : (s.heap.push (fresh led)).IsTuple l items := ⟨_, o1, rfl, nl, rfl⟩
  have at0 : (s.heap.push (fresh led)).get? s.heap.objs.size = some (fresh led) := Heap.get?_push_size _ rfl
  have u1 := PySem.F.sub_tuple_set; have u2 := PySem.F.sub_tuple_frozenset; have u3 : (Value.type "tuple" == Value.type "dict") = false := by decide
  unfold Builtin.«set.__init__» noKeywords Builtin.Frozenset.updateFrom; generalize hp : pyIter = pit
  wp_walk
  subst hp
  refine wpAny_pyIter_tuple l1 (wpAny_bind (wpAny_runValue ?_))
  have ls : l < s.heap.objs.size := Heap.lt_size ho
  have h3 : A.in1.in1.in1.handled = none := by simp [hh]
  have ne1 : l ≠ (s.heap.push (fresh led)).objs.size := by rw [Heap.size_push]; exact Nat.ne_of_lt (Nat.lt_succ_of_lt ls)
  have nf : s.heap.objs.size ∉ [(s.heap.push (fresh led)).objs.size, l] := by
    rw [Heap.size_push]
    intro z
    simp only [List.mem_cons, List.not_mem_nil, or_false] at z
    rcases z with z | z
    · exact Nat.ne_of_lt (Nat.lt_succ_self _) z
    · exact Nat.ne_of_gt ls z
  have sz : xs.length = items.size := by rw [← StrsAre.len_eq hi, Array.length_toList]
  refine walk ((Walks.tuple h3 _ l ne1 items).toS) nf hn sz (by omega) (fun i v hv => SS.strs_at hi i v (by rw [Array.getElem?_toList]; exact hv)) items.size 0 _ (by omega) ⟨⟨_, Heap.get?_push_size _ rfl, rfl, rfl⟩, l1.push _⟩ ?_ ?_
  · exact PyProof.Rows.SetOf_congr ((PyProof.Rows.setObjOf_fresh (knd := PySem.strKind prog w) led).setOf (Heap.get?_push_of_some _ at0) (by unfold scanBound; omega)) (fun _ => rfl) rfl
  · intro s' hm hs'
    obtain ⟨h', g', d', tk', os'⟩ := s'
    cases (show g' = s.gens from hm.gens); cases (show d' = s.drawn from hm.drawn); cases (show os' = s.os from hm.os)
    show wpAny _ _ _ _ _ _
    refine wpAny_pure ?_
    show wpAny _ _ (ret Value.none) _ _ _
    refine wpAny_pure ⟨rfl, h', tk', rfl, by rw [sz]; exact hs', fun b o e => ?_⟩
    have lb : b < s.heap.objs.size := Heap.lt_size e
    refine hm.heap b o (fun z => ?_) (Heap.get?_push_of_some _ (Heap.get?_push_of_some _ e))
    rw [Heap.size_push] at z
    simp only [List.mem_cons, List.not_mem_nil, or_false] at z
    rcases z with z | z
    · exact Nat.ne_of_lt lb z
    · exact Nat.ne_of_lt (Nat.lt_succ_of_lt lb) z
set_option maxHeartbeats 8000000 in
theorem call_lst {l : Addr} {items : Array Value} {xs : List Str} {Q : Value → Shared → Prop} (hh : A.handled = none) (hl : s.heap.IsList l items) (hi : PyProof.Rows.StrsAre items.toList xs) (hn : xs.Nodup) (hb : xs.length + 1 < scanBound)
    (h : ∀ s2, EndOf prog w xs s s2 → Q (.ref s.heap.objs.size) s2) : wpAny (model prog w) A (call (.type "set") [.ref l]) Q E s := by
  refine call_by (xs := xs) (fun led => ?_) h
  obtain ⟨ol, ho, hc, nl, hd⟩ := hl
  obtain ⟨cl, dc, dt, sl⟩ := ol
  simp only at hc hd
  subst hc; subst hd
  have o1 : (s.heap.push (fresh led)).get? l = some { cls := .type "list", dict := dc, data := .seq items nl, slots := sl } := Heap.get?_push_of_some _ ho
  have l1 : (s.heap.push (fresh led)).IsList l items := ⟨_, o1, rfl, nl, rfl⟩
  have at0 : (s.heap.push (fresh led)).get? s.heap.objs.size = some (fresh led) := Heap.get?_push_size _ rfl
  have u1 := PySem.F.sub_list_set; have u2 := PySem.F.sub_list_frozenset; have u3 : (Value.type "list" == Value.type "dict") = false := by decide
  unfold Builtin.«set.__init__» noKeywords Builtin.Frozenset.updateFrom; generalize hp : pyIter = pit
  wp_walk
  subst hp
  refine wpAny_pyIter_list l1 (wpAny_bind (wpAny_runValue ?_))
  have ls : l < s.heap.objs.size := Heap.lt_size ho
  have h3 : A.in1.in1.in1.handled = none := by simp [hh]
  have ne1 : l ≠ (s.heap.push (fresh led)).objs.size := by rw [Heap.size_push]; exact Nat.ne_of_lt (Nat.lt_succ_of_lt ls)
  have nf : s.heap.objs.size ∉ [(s.heap.push (fresh led)).objs.size, l] := by
    rw [Heap.size_push]
    intro z
    simp only [List.mem_cons, List.not_mem_nil, or_false] at z
    rcases z with z | z
    · exact Nat.ne_of_lt (Nat.lt_succ_self _) z
    · exact Nat.ne_of_gt ls z
  have sz : xs.length = items.size := by rw [← StrsAre.len_eq hi, Array.length_toList]
  refine walk ((Walks.list h3 _ l ne1 items).toS) nf hn sz (by omega) (fun i v hv => SS.strs_at hi i v (by rw [Array.getElem?_toList]; exact hv)) items.size 0 _ (by omega) ⟨⟨_, Heap.get?_push_size _ rfl, rfl, rfl⟩, l1.push _⟩ ?_ ?_
  · exact PyProof.Rows.SetOf_congr ((PyProof.Rows.setObjOf_fresh (knd := PySem.strKind prog w) led).setOf (Heap.get?_push_of_some _ at0) (by unfold scanBound; omega)) (fun _ => rfl) rfl
  · intro s' hm hs'
    obtain ⟨h', g', d', tk', os'⟩ := s'
    cases (show g' = s.gens from hm.gens); cases (show d' = s.drawn from hm.drawn); cases (show os' = s.os from hm.os)
    show wpAny _ _ _ _ _ _
    refine wpAny_pure ?_
    show wpAny _ _ (ret Value.none) _ _ _
    refine wpAny_pure ⟨rfl, h', tk', rfl, by rw [sz]; exact hs', fun b o e => ?_⟩
    have lb : b < s.heap.objs.size := Heap.lt_size e
    refine hm.heap b o (fun z => ?_) (Heap.get?_push_of_some _ (Heap.get?_push_of_some _ e))
    rw [Heap.size_push] at z
    simp only [List.mem_cons, List.not_mem_nil, or_false] at z
    rcases z with z | z
    · exact Nat.ne_of_lt lb z
    · exact Nat.ne_of_lt (Nat.lt_succ_of_lt lb) z
end
end ST
namespace ST
open PySem PySem.Spec PyProof.Rows L2
section
variable {X : Cx}
/-- len(set(xs)): unlike texts -/
def tLenSet (K : PySem.W.Frag) (ta : TE) : TE := fun σ H Q => ta σ H fun x H1 => ∃ (l : Addr) (xs : List Str), x = .ref l ∧ (SqL K H1 l (xs.map V.str) ∨ SqT K H1 l (xs.map V.str)) ∧ xs.Nodup ∧ xs.length < 64 ∧ Q (.int xs.length) H1
theorem pe_lenSet {a : Expr} {ta : TE} {p p2 q pos : Pos} (hc : X.calm = true) (hg : Gl X "len") (hm : X.mg "len" = none) (hg2 : Gl X "set") (hm2 : X.mg "set" = none) (ha : PE X a ta)
    (na : starEach [a] X.env = (false, eval a X.env) :: starEach [] X.env := by rfl) : PE X (.Call (.Name "len" p) [.Call (.Name "set" p2) [a] [] q] [] pos) (tLenSet X.K ta) := by
  refine ⟨fun pins s σ H Q I h => Call_ (ld_blt I hg hm boot_len (PyProof.Rows.callWith_builtin1 (PyProof.Rows.args_cons (Call_ (ld_blt I hg2 hm2 boot_set ?_)) rfl) rfl rfl))⟩
  refine PyProof.Rows.callWith_type1 (PyProof.Rows.args_cons (thn (ha.run pins s σ H _ I h) fun v s1 ⟨x, H1, I1, r1, z1⟩ => PyProof.Rows.args_nil ?_) na) na rfl
  obtain ⟨l, xs, rfl, hs, hn, h6, q1⟩ := z1
  cases r1
  have sb : xs.length + 1 < scanBound := by unfold scanBound; omega
  have fin : ∀ s2, EndOf X.prog X.w xs s1 s2 → wpAny (model X.prog X.w) X.A (spliced (backTo pos (starEach [] X.env))) (fun vs s₂ => wpAny (model X.prog X.w) X.A (call (.builtin "len") (Value.ref s1.heap.objs.size :: vs)) (EP X pins σ Q) X.xe s₂) X.xe s2 := by
    rintro _ ⟨h', tk, rfl, hS, hk⟩
    refine PyProof.Rows.args_nil ?_
    obtain ⟨o, es, ep, t, ho, ex, hd, _, _, _, hf, hn⟩ := hS
    have I2 : Inv X pins σ H1 { s1 with heap := h', toks := tk } := I1.kept hk
    exact call_len_set ho ex hd hf (by rw [hn]; omega) ⟨.int xs.length, H1, I2.tok _, ⟨_, by rw [hn]⟩, q1⟩
  rcases hs with hs | hs
  · obtain ⟨its, r, pl, hz⟩ := I1.list hs
    exact call_lst (I1.ok.hd hc) pl.isList (by simpa using strsAre_of r) hn sb fin
  · obtain ⟨its, r, pl, hz⟩ := I1.tuple hs
    exact call_tup (I1.ok.hd hc) pl (by simpa using strsAre_of r) hn sb fin
end
end ST
set_option Elab.async false
set_option linter.all false
set_option maxRecDepth 100000
set_option maxHeartbeats 4000000
namespace K40
open PySem PySem.Spec PyProof.Rows L2
open C8 (Cal Mak Met pe_c pe_mk pe_mt pe_mt0)
open SX (S)
/-- more of the module's names -/
structure Bl2 (mg : Str → Option Value) : Prop where
  str : mg "str" = none
  all : mg "all" = none
  tup : mg "tuple" = none
  set : mg "set" = none
  zip : mg "zip" = none
  min : mg "min" = none
  enum : mg "enumerate" = none
section
variable {P : Program} {w : World} {K : PySem.W.Frag} {mg : Str → Option Value} {base : Heap} {f C : Addr} {fd : FuncData}
def spBetween : Sp := fun vs H Q _ => ∃ n lo hi : Int, vs = [.int n, .int lo, .int hi] ∧ Q (.bl (decide (lo ≤ n ∧ n ≤ hi))) H
theorem ok_between (F : Dn K d_is_between f fd) (cW : CalW P w K mg base) : FnOk P w K mg base CX0 2 f fd ["thing", "low", "high"] spBetween := by
  refine F.ok sc_is_between (fun vs H Q E h => ?_) (fun cdv A outer s H vs Q E hr h => ?_)
  · obtain ⟨n, lo, hi, rfl, _⟩ := h
    rfl
  · obtain ⟨n, lo, hi, rfl, hQ⟩ := h
    refine ⟨_, PSs.nox (pss_one (ps_ret (pe_and (pe_c cW hr (by decide) rfl (pa_cons (pv 0) pa_nil)) (pe_one (pe_chain op_le op_le (pv 1) (pv 0) (pv 2)))))), ?_⟩
    refine ⟨_, rfl, n, rfl, true, rfl, iteT ?_⟩
    refine ⟨_, rfl, _, rfl, _, _, rfl, rfl, _, rfl, ?_⟩
    refine ite2 (fun h1 => ?_) (fun h1 => ?_)
    · have h1' : lo ≤ n := of_decide_eq_true h1
      refine ⟨_, rfl, _, _, rfl, rfl, ?_⟩
      have e : decide (n ≤ hi) = decide (lo ≤ n ∧ n ≤ hi) := decide_eq_decide.mpr ⟨fun z => ⟨h1', z⟩, fun z => z.2⟩
      show Q (.bl (decide (n ≤ hi))) H
      rw [e]
      exact hQ
    · have h1' : ¬ lo ≤ n := fun z => h1 (decide_eq_true z)
      have e : decide (lo ≤ n ∧ n ≤ hi) = false := decide_eq_false fun z => h1' z.1
      rw [e] at hQ
      exact hQ
abbrev CalB (P : Program) (w : World) (K : PySem.W.Frag) (mg : Str → Option Value) (base : Heap) : Prop := Cal P w K mg base 2 "is_between" spBetween []
/-- what is a name -/
def spName : Sp := fun vs H Q _ => ∃ l : List Nat, vs = [.str (S l)] ∧ NM.ok l ∧ ∀ H', Same H H' → Q (.bl true) H'
theorem ok_name (F : Dn K d_is_name f fd) (b : Bl mg) (b2 : Bl2 mg) (g : ∃ t, mg "LONGEST_NAME" = some (.int 8 t)) : FnOk P w K mg base CX0 1 f fd ["thing"] spName := by
  refine F.ok sc_is_name (fun vs H Q E h => ?_) (fun cdv A outer s H vs Q E hr h => ?_)
  · obtain ⟨l, rfl, _⟩ := h
    rfl
  · obtain ⟨l, rfl, ⟨l1, l8, lc⟩, hQ⟩ := h
    obtain ⟨t, g⟩ := g
    have hz : (S l).length ≤ sizeLine := by rw [SX.S_len]; exact Nat.le_trans l8 (by decide)
    refine ⟨_, PSs.nox (pss_cons (ps_if (PW.pt (pw_or (pt_not (pt_val (pe_callB call_isi rfl b.isi boot_isinstance (pa_cons (pv 0) (pa_cons (pe_bltn (v := .ty "str") rfl b2.str boot_str rfl) pa_nil)))))
        (pw_or1 (pt_not (pt_chain op_le op_le pe_int (pe_callB call_len_str rfl b.len boot_len (pa_cons (pv 0) pa_nil)) (pe_glob (v := .int 8) rfl g ⟨t, rfl⟩)))))) pss_never pss_nil)
      (pss_one (ps_ret (pe_callB (cr_all rfl) rfl b2.all boot_all (pa_cons (pe_lc (own := [("sign", 1)]) (g := gName 1) (tt := tYes) rfl sc_is_name.nd (pi_str (pv 0)) (blkOk_by (N := N_is_name) (sc := defScope s_is_name) (by decide +kernel))
          (fun _ _ _ _ _ => pg_name (i := 1) sc_is_name.nd rfl (Or.inl rfl)) (fun _ _ _ _ _ => pts_nil) (fun _ _ _ _ _ => pe_chain op_le_str op_le_str pe_str (pv 1) pe_str)) pa_nil))))), ?_⟩
    refine ⟨_, rfl, _, _, _, _, true, rfl, ClsV.ty _, TyX.base (TyOf.str _), kit_ty (by decide +kernel), true, rfl, iteF ?_⟩
    refine ⟨_, rfl, _, rfl, hz, _, _, rfl, rfl, _, rfl, ?_⟩
    rw [SX.S_len]
    refine ite2 (fun _ => ?_) (fun z => absurd (decide_eq_true (by omega)) z)
    refine ⟨_, _, rfl, rfl, _, rfl, ?_⟩
    have e8 : decide ((l.length : Int) ≤ 8) = true := decide_eq_true (by omega)
    rw [e8]
    refine iteF ?_
    refine ⟨_, rfl, _, rfl, fun D hD => lc_it walk_str (fun i H2 => H2 D = some (.lst ((List.replicate i true).map V.bl)) ∧ Same H H2) ⟨upd_same, same_new hD⟩ (fun _ _ _ _ => trivial) ?_ ?_⟩
    · rintro i x H2 H3 hi ⟨hd, sm⟩ ⟨rfl, c', hc', rfl⟩
      have hi' : i < l.length := by simpa [S] using hi
      have hmem : c' ∈ l := by
        have : l[i]? = some c' := by simpa [S] using hc'
        exact List.mem_of_getElem? this
      have hcc := lc c' hmem
      refine ⟨rfl, ?_⟩
      refine ⟨_, rfl, _, _, rfl, rfl, _, rfl, ?_⟩
      have ea : (!decide ((⟨#[c']⟩ : Str).cps.toList < (Str.ofString "a").cps.toList)) = true := by
        have e1 : (Str.ofString "a").cps.toList = [97] := by decide +kernel
        rw [e1]
        have : ¬ (([c'] : List Nat) < [97]) := by
          rw [List.cons_lt_cons_iff]
          rintro (z | ⟨z, z'⟩)
          · omega
          · exact absurd z' (by simp)
        simp [this]
      have ez : (!decide ((Str.ofString "z").cps.toList < (⟨#[c']⟩ : Str).cps.toList)) = true := by
        have e1 : (Str.ofString "z").cps.toList = [122] := by decide +kernel
        rw [e1]
        have : ¬ (([122] : List Nat) < [c']) := by
          rw [List.cons_lt_cons_iff]
          rintro (z | ⟨z, z'⟩)
          · omega
          · exact absurd z' (by simp)
        simp [this]
      rw [ea]
      refine iteT ⟨_, _, rfl, rfl, ?_⟩
      rw [ez]
      refine ⟨_, hd, ?_, ?_, ?_⟩
      · rw [List.length_map, List.length_replicate]
        exact Nat.lt_of_lt_of_le (by omega : i < 64) (by decide)
      · rw [upd_same]
        simp [List.replicate_succ']
      · intro a o e
        rw [upd_ne (ne_of_none e hD)]
        exact sm a o e
    · rintro H2 ⟨hd, sm⟩
      refine ⟨D, _, rfl, SqL.of hd, ?_⟩
      have e3 : (List.replicate (S l).cps.size true).all id = true := by simp
      rw [e3]
      exact hQ H2 sm

/-- an order: one to eight unlike names -/
structure Ord (xs : List Str) : Prop where
  ne : xs ≠ []
  l8 : xs.length ≤ 8
  nd : xs.Nodup
  nm : ∀ x ∈ xs, ∃ l, x = S l ∧ NM.ok l
abbrev CalN (P : Program) (w : World) (K : PySem.W.Frag) (mg : Str → Option Value) (base : Heap) : Prop := Cal P w K mg base 1 "is_name" spName []
def spOrder : Sp := fun vs H Q _ => ∃ (ot : Addr) (xs : List Str), vs = [.ref ot] ∧ H ot = some (.tup (xs.map V.str)) ∧ Ord xs ∧ ∀ H', Same H H' → Q (.bl true) H'
theorem ok_order (F : Dn K d_is_order f fd) (b : Bl mg) (b2 : Bl2 mg) (g : ∃ t, mg "MOST_NAMES" = some (.int 8 t)) (cN : CalN P w K mg base) : FnOk P w K mg base CX0 2 f fd ["thing"] spOrder := by
  refine F.ok sc_is_order (fun vs H Q E h => ?_) (fun cdv A outer s H vs Q E hr h => ?_)
  · obtain ⟨ot, xs, rfl, _⟩ := h
    rfl
  · obtain ⟨ot, xs, rfl, hot, ox, hQ⟩ := h
    obtain ⟨t, g⟩ := g
    have xpos : 0 < xs.length := List.length_pos_iff.mpr ox.ne
    have l8 := ox.l8
    refine ⟨_, PSs.nox (pss_cons (ps_if (PW.pt (pw_or (pt_not (pt_val (pe_callB call_isi rfl b.isi boot_isinstance (pa_cons (pv 0) (pa_cons (pe_bltn (v := .ty "tuple") rfl b2.tup boot_tuple rfl) pa_nil)))))
        (pw_or1 (pt_not (pt_chain op_le op_le pe_int (pe_callB call_len_seq rfl b.len boot_len (pa_cons (pv 0) pa_nil)) (pe_glob (v := .int 8) rfl g ⟨t, rfl⟩)))))) pss_never pss_nil)
      (pss_one (ps_ret (pe_and (pe_callB (cr_all rfl) rfl b2.all boot_all (pa_cons (pe_lc (own := [("name", 1)]) (g := gName 1) (tt := tYes) rfl sc_is_order.nd (pi_tup (pv 0)) (blkOk_by (N := N_is_order) (sc := defScope s_is_order) (by decide +kernel))
          (fun _ _ _ _ _ => pg_name (i := 1) sc_is_order.nd rfl (Or.inl rfl)) (fun _ _ _ _ _ => pts_nil) (fun _ _ _ _ _ => pe_c cN hr (by decide) rfl (pa_cons (pv 1) pa_nil))) pa_nil))
        (pe_one (pe_cmpR op_eq (ST.pe_lenSet rfl rfl b.len rfl b2.set (pv 0)) (pe_callB call_len_seq rfl b.len boot_len (pa_cons (pv 0) pa_nil)) (nomark _))))))), ?_⟩
    refine ⟨_, rfl, _, _, _, _, true, rfl, ClsV.ty _, TyX.base (TyOf.tup hot), kit_ty (by decide +kernel), true, rfl, iteF ?_⟩
    refine ⟨_, rfl, ot, _, rfl, .inr (SqT.of hot), _, _, rfl, rfl, _, rfl, ?_⟩
    rw [List.length_map]
    refine ite2 (fun _ => ?_) (fun z => absurd (decide_eq_true (by omega)) z)
    refine ⟨_, _, rfl, rfl, _, rfl, ?_⟩
    have e8 : decide ((xs.length : Int) ≤ 8) = true := decide_eq_true (by omega)
    rw [e8]
    refine iteF ?_
    refine ⟨_, rfl, ot, rfl, ⟨_, SqT.of hot⟩, fun D hD => lc_tup (fun i H2 => H2 D = some (.lst ((List.replicate i true).map V.bl)) ∧ Same H H2) ⟨upd_same, same_new hD⟩ (fun _ H2 _ z => SqT.of (z.2 _ _ hot)) ?_ ?_⟩
    · rintro i x H2 hx ⟨hd, sm⟩
      have hi' : i < xs.length := by
        have := (List.getElem?_eq_some_iff.mp hx).1
        simpa using this
      rw [List.getElem?_map] at hx
      obtain ⟨y, hy, rfl⟩ := Option.map_eq_some_iff.mp hx
      obtain ⟨l, rfl, hl⟩ := ox.nm y (List.mem_of_getElem? hy)
      refine ⟨rfl, ?_⟩
      refine ⟨_, rfl, l, rfl, hl, fun H3 s3 => ⟨_, s3 _ _ hd, ?_, ?_, ?_⟩⟩
      · rw [List.length_map, List.length_replicate]
        exact Nat.lt_of_lt_of_le (by omega : i < 64) (by decide)
      · rw [upd_same]
        simp [List.replicate_succ']
      · intro a o e
        rw [upd_ne (ne_of_none e hD)]
        exact s3 a o (sm a o e)
    · rintro H2 ⟨hd, sm⟩
      refine ⟨D, _, rfl, SqL.of hd, true, ?_, ?_⟩
      · have e3 : (List.replicate (xs.map V.str).length true).all id = true := by simp
        rw [e3]
      refine iteT ?_
      refine ⟨_, rfl, ot, xs, rfl, .inr (SqT.of (sm _ _ hot)), ox.nd, by omega, _, rfl, ot, _, rfl, .inr (SqT.of (sm _ _ hot)), ?_⟩
      rw [List.length_map]
      exact ⟨rfl, by simpa using hQ H2 sm⟩
/-- a rule by the longest line -/
def LeastR (H : Hp) (r ot : Addr) (xs : List Str) (g : Int) : Prop := H r = some (.tup [.str "longest", .ref ot]) ∧ H ot = some (.tup (xs.map V.str)) ∧ Ord xs ∧ 0 ≤ g ∧ g ≤ 1000
theorem LeastR.ext {H H' : Hp} {r ot : Addr} {xs : List Str} {g : Int} (h : LeastR H r ot xs g) (e : ∀ a ys, H a = some (.tup ys) → H' a = some (.tup ys)) : LeastR H' r ot xs g := ⟨e _ _ h.1, e _ _ h.2.1, h.2.2⟩
theorem LeastR.same {H H' : Hp} {r ot : Addr} {xs : List Str} {g : Int} (h : LeastR H r ot xs g) (e : Same H H') : LeastR H' r ot xs g := h.ext fun a ys z => e _ _ z
theorem no_least : decide (V.str "longest" = V.str "least") = false := by decide +kernel
theorem no_rounds : decide (V.str "longest" = V.str "rounds") = false := by decide +kernel
def spRule : Sp := fun vs H Q _ => ∃ (r ot : Addr) (xs : List Str) (g : Int), vs = [.ref r] ∧ LeastR H r ot xs g ∧ ∀ H', Same H H' → Q (.bl true) H'
theorem ok_rule (F : Dn K d_is_rule f fd) (b : Bl mg) (b2 : Bl2 mg) (cO : Cal P w K mg base 2 "is_order" spOrder []) : FnOk P w K mg base CX0 3 f fd ["thing"] spRule := by
  refine F.ok sc_is_rule (fun vs H Q E h => ?_) (fun cdv A outer s H vs Q E hr h => ?_)
  · obtain ⟨r, ot, xs, gr, rfl, _⟩ := h
    rfl
  · obtain ⟨r, ot, xs, gr, rfl, ⟨hrr, hot, ox, g0, g1⟩, hQ⟩ := h
    refine ⟨_, PSs.nox (pss_cons (ps_if (PW.pt (pw_or (pt_not (pt_val (pe_callB call_isi rfl b.isi boot_isinstance (pa_cons (pv 0) (pa_cons (pe_bltn (v := .ty "tuple") rfl b2.tup boot_tuple rfl) pa_nil)))))
        (pw_or (pt_cmpR op_lt (pe_callB call_len_seq rfl b.len boot_len (pa_cons (pv 0) pa_nil)) pe_int (nomark _))
        (pw_or1 (pt_not (pt_val (pe_c cO hr (by decide) rfl (pa_cons (pe_ix ix_tup (pv 0) pe_int (fun _ _ => rfl)) pa_nil)))))))) pss_never pss_nil)
      (pss_cons (ps_if (pt_cmpR op_eq (pe_ix ix_tup (pv 0) pe_int (fun _ _ => rfl)) pe_str (nomark _)) pss_never pss_nil)
      (pss_one (ps_ret (pe_and (pe_cmpR op_eq (pe_callB call_len_seq rfl b.len boot_len (pa_cons (pv 0) pa_nil)) pe_int (nomark _))
        (pe_one (pe_cmpR op_in_seq (pe_ix ix_tup (pv 0) pe_int (fun _ _ => rfl)) (pe_tup (pa_cons pe_str (pa_cons pe_str pa_nil))) (by rfl)))))))), ?_⟩
    refine ⟨_, rfl, _, _, _, _, true, rfl, ClsV.ty _, TyX.base (TyOf.tup hrr), kit_ty (by decide +kernel), true, rfl, iteF ?_⟩
    refine ⟨_, rfl, r, _, rfl, .inr (SqT.of hrr), _, _, rfl, rfl, _, rfl, iteF ?_⟩
    refine ⟨_, rfl, r, _, _, _, rfl, rfl, SqT.of hrr, rfl, ot, xs, rfl, hot, ox, fun H2 s2 => ⟨true, rfl, iteF ?_⟩⟩
    have hrr2 := s2 _ _ hrr
    refine ⟨_, rfl, r, _, _, _, rfl, rfl, SqT.of hrr2, rfl, rfl, _, rfl, ?_⟩
    rw [no_least]
    refine iteF ?_
    refine ⟨_, rfl, r, _, rfl, .inr (SqT.of hrr2), rfl, true, rfl, iteT ?_⟩
    refine ⟨_, rfl, r, _, _, _, rfl, rfl, SqT.of hrr2, rfl, by show 2 ≤ sizeLine; decide, fun t ft => ?_⟩
    refine ⟨t, _, rfl, .inr (SqT.of upd_same), rfl, rfl, ?_⟩
    have e : inV (.str "longest") [.str "longest", .str "rounds"] = true := by decide +kernel
    simp only [Bool.false_eq_true, if_false]
    rw [e]
    exact hQ _ (s2.trans (same_new ft))
end
end K40
set_option Elab.async false
set_option linter.all false
set_option maxRecDepth 100000
set_option maxHeartbeats 4000000
namespace K40
open PySem PySem.Spec PyProof.Rows L2
open C8 (Cal Mak Met pe_c pe_mk pe_mt pe_mt0)
open SX (S)
theorem inV_strs (x : Str) : ∀ R : List Str, inV (.str x) (R.map V.str) = decide (x ∈ R)
  | [] => rfl
  | y :: R => by
    have ih := inV_strs x R
    unfold inV at ih ⊢
    rw [List.map_cons, List.any_cons, ih]
    have e : eqV (.str y) (.str x) = decide (x = y) := by
      show decide (y = x) = decide (x = y)
      exact decide_eq_decide.mpr ⟨Eq.symm, Eq.symm⟩
    rw [e]
    simp [Bool.decide_or]
theorem flat_strs (R : List Str) : (R.map V.str).all flatV = true := by
  rw [List.all_eq_true]
  intro v hv
  obtain ⟨y, _, rfl⟩ := List.mem_map.mp hv
  rfl
section
variable {P : Program} {w : World} {K : PySem.W.Frag} {mg : Str → Option Value} {base : Heap} {f C : Addr} {fd : FuncData}
def spNo : Sp := fun vs H Q _ => ∃ (ot rd : Addr) (xs R : List Str), vs = [.ref ot, .ref rd] ∧ H ot = some (.tup (xs.map V.str)) ∧ H rd = some (.lst (R.map V.str)) ∧ xs.length ≤ 13 ∧
  ∀ (t : Addr) (H' : Hp), Same H H' → H t = none → H' t = some (.tup ((xs.filter fun x => decide (x ∈ R)).map V.str)) → Q (.ref t) H'
theorem ok_no (F : Dn K d_names_of f fd) (b2 : Bl2 mg) : FnOk P w K mg base CX0 1 f fd ["order", "riders"] spNo := by
  refine F.ok sc_names_of (fun vs H Q E h => ?_) (fun cdv A outer s H vs Q E hr h => ?_)
  · obtain ⟨ot, rd, xs, R, rfl, _⟩ := h
    rfl
  · obtain ⟨ot, rd, xs, R, rfl, hot, hrd, l13, hQ⟩ := h
    refine ⟨_, PSs.nox (pss_one (ps_ret (pe_callTy call_tuple_of rfl b2.tup boot_tuple (pa_cons (pe_lc (own := [("name", 2)]) (g := gName 2) rfl sc_names_of.nd (pi_tup (pv 0)) (blkOk_by (N := N_names_of) (sc := defScope s_names_of) (by decide +kernel))
          (fun _ _ _ _ _ => pg_name (i := 2) sc_names_of.nd rfl (Or.inl rfl)) (fun _ _ _ _ _ => pts_one (pt_cmpR (r := rIn K false) op_in_seq (pv 2) (pv 1) (by rfl))) (fun _ _ _ _ _ => pv 2)) pa_nil)))), ?_⟩
    refine ⟨_, rfl, ot, rfl, ⟨_, SqT.of hot⟩, fun D hD => lc_tup (fun i H2 => H2 D = some (.lst (((xs.take i).filter fun x => decide (x ∈ R)).map V.str)) ∧ Same H H2) ⟨upd_same, same_new hD⟩ (fun _ H2 _ z => SqT.of (z.2 _ _ hot)) ?_ ?_⟩
    · rintro i x H2 hx ⟨hd, sm⟩
      have hi' : i < xs.length := by
        have := (List.getElem?_eq_some_iff.mp hx).1
        simpa using this
      rw [List.getElem?_map] at hx
      obtain ⟨y, hy, rfl⟩ := Option.map_eq_some_iff.mp hx
      have et : xs.take (i + 1) = xs.take i ++ [y] := by rw [List.take_succ, hy]; rfl
      refine ⟨rfl, ?_⟩
      refine ⟨_, rfl, _, rfl, rd, _, rfl, .inl (SqL.of (sm _ _ hrd)), rfl, flat_strs R, _, rfl, ?_⟩
      simp only [Bool.false_eq_true, if_false]
      rw [inV_strs]
      refine ite2 (fun hm => ?_) (fun hm => ?_)
      · refine ⟨_, rfl, _, hd, ?_, ?_, ?_⟩
        · rw [List.length_map]
          refine Nat.lt_of_le_of_lt (List.length_filter_le _ _) ?_
          rw [List.length_take]
          exact Nat.lt_of_lt_of_le (by omega : min i xs.length < 64) (by decide)
        · rw [upd_same, et, List.filter_append, List.map_append]
          simp [hm]
        · intro a o e
          rw [upd_ne (ne_of_none e hD)]
          exact sm a o e
      · refine ⟨?_, sm⟩
        rw [et, List.filter_append]
        simp [hm, hd]
    · rintro H2 ⟨hd, sm⟩
      rw [List.length_map, List.take_length] at hd
      refine ⟨D, _, rfl, .inl ⟨SqL.of hd, fun l fl => hQ l _ (sm.trans (same_new fl)) ?_ upd_same⟩⟩
      exact sm.free fl
theorem zs_take (xs : List Str) (i : Nat) (h : i < xs.length) : ((xs.take i).map fun _ => V.int 0) ++ [V.int 0] = (xs.take (i + 1)).map fun _ => V.int 0 := by
  rw [List.take_succ, List.getElem?_eq_getElem h, List.map_append]
  rfl
def spFm : Sp := fun vs H Q _ => ∃ (r ot : Addr) (xs : List Str) (g : Int), vs = [.ref r] ∧ LeastR H r ot xs g ∧ Q (.ref ot) H
theorem ok_fm (F : Dn K d_first_memory f fd) : FnOk P w K mg base CX0 1 f fd ["rule"] spFm := by
  refine F.ok sc_first_memory (fun vs H Q E h => ?_) (fun cdv A outer s H vs Q E hr h => ?_)
  · obtain ⟨r, ot, xs, g, rfl, _⟩ := h
    rfl
  · obtain ⟨r, ot, xs, g, rfl, ⟨hrr, hot, ox, g0, g1⟩, hQ⟩ := h
    refine ⟨_, PSs.nox (pss_cons (ps_if (pt_cmpR op_eq (pe_ix ix_tup (pv 0) pe_int (fun _ _ => rfl)) pe_str (nomark _)) pss_never pss_nil)
      (pss_cons (ps_if (pt_cmpR op_eq (pe_ix ix_tup (pv 0) pe_int (fun _ _ => rfl)) pe_str (nomark _)) (pss_one (ps_ret (pe_ix ix_tup (pv 0) pe_int (fun _ _ => rfl)))) pss_nil) pss_never)), ?_⟩
    refine ⟨_, rfl, r, _, _, _, rfl, rfl, SqT.of hrr, rfl, rfl, _, rfl, ?_⟩
    rw [no_least]
    refine iteF ?_
    refine ⟨_, rfl, r, _, _, _, rfl, rfl, SqT.of hrr, rfl, rfl, _, rfl, iteT ?_⟩
    exact ⟨_, rfl, r, _, _, _, rfl, rfl, SqT.of hrr, rfl, hQ⟩
end
end K40
set_option Elab.async false
set_option linter.all false
set_option maxRecDepth 100000
set_option maxHeartbeats 4000000
namespace K40
open PySem PySem.Spec PyProof.Rows L2
open C8 (Cal Mak Met pe_c pe_mk pe_mt pe_mt0)
open SX (S)
/-- credits stand at a -/
def Crd (H : Hp) (a : Addr) (xs : List Str) (c : Str → Int) : Prop := H a = some (.tup (xs.map fun x => V.int (c x)))
/-- credits behind a day -/
def nxt (R : List Str) (d : Str) (c : Str → Int) (x : Str) : Int := c x - (if x ∈ R then (840 : Int).fdiv (R.length : Int) else 0) + (if x = d then 840 else 0)
/-- who drives by the line -/
def Drv (ln R : List Str) (y : Str) : Prop := (ln.filter fun x => decide (x ∈ R))[0]? = some y
/-- the line behind a day -/
def nl (ln R : List Str) (y : Str) : List Str := if R.length = 1 then ln else (ln.filter fun x => !decide (x = y)) ++ [y]
theorem Crd.same {H H' : Hp} {a : Addr} {xs : List Str} {c : Str → Int} (h : Crd H a xs c) (e : Same H H') : Crd H' a xs c := e _ _ h
theorem Drv.same {ln R : List Str} {y z : Str} (a : Drv ln R y) (b : Drv ln R z) : y = z := Option.some.inj (a.symm.trans b)
theorem Drv.mem {ln R : List Str} {y : Str} (a : Drv ln R y) : y ∈ R ∧ y ∈ ln := by
  have := List.mem_filter.mp (List.mem_of_getElem? a)
  exact ⟨of_decide_eq_true this.2, this.1⟩
theorem Drv.ex {xs ln R : List Str} (p : ln.Perm xs) (dy : DayOk xs R) : ∃ y, Drv ln R y := by
  obtain ⟨y, hy⟩ := List.exists_mem_of_ne_nil R dy.ne
  have : y ∈ ln.filter fun x => decide (x ∈ R) := List.mem_filter.mpr ⟨p.mem_iff.mpr (dy.sub y hy), decide_eq_true hy⟩
  unfold Drv
  cases e : ln.filter fun x => decide (x ∈ R) with
  | nil => rw [e] at this; cases this
  | cons z zs => exact ⟨z, rfl⟩
theorem nl_perm {xs ln R : List Str} {y : Str} (p : ln.Perm xs) (nd : xs.Nodup) (hy : y ∈ ln) : (nl ln R y).Perm xs := by
  unfold nl
  split
  · exact p
  · have nl : ln.Nodup := p.symm.nodup nd
    refine List.Perm.trans ?_ p
    refine (List.perm_append_singleton y _).trans ?_
    clear p nd
    induction ln with
    | nil => cases hy
    | cons z zs ih =>
      have nz := List.nodup_cons.mp nl
      by_cases e : z = y
      · subst e
        have : (zs.filter fun x => !decide (x = z)) = zs := List.filter_eq_self.mpr fun a ha => by
          have : a ≠ z := fun q => nz.1 (q ▸ ha)
          simp [this]
        simp [this]
      · have hy' : y ∈ zs := by
          rcases List.mem_cons.mp hy with q | q
          · exact absurd q.symm e
          · exact q
        have := ih hy' nz.2
        rw [List.filter_cons_of_pos (by simp [e])]
        exact (List.Perm.swap _ _ _).trans (this.cons z)
section
variable {P : Program} {w : World} {K : PySem.W.Frag} {mg : Str → Option Value} {base : Heap} {f C : Addr} {fd : FuncData}
def spDb : Sp := fun vs H Q _ => ∃ (r ot kp rd : Addr) (xs ln R : List Str) (g : Int), vs = [.ref r, .ref kp, .ref rd] ∧ LeastR H r ot xs g ∧ H kp = some (.tup (ln.map V.str)) ∧ ln.Perm xs ∧ H rd = some (.lst (R.map V.str)) ∧ DayOk xs R ∧
  ∀ H1, Same H H1 → ∀ y, Drv ln R y → Q (.str y) H1
theorem ok_db (F : Dn K d_driver_by f fd) (cNo : Cal P w K mg base 1 "names_of" spNo []) : FnOk P w K mg base CX0 2 f fd ["rule", "memory", "riders"] spDb := by
  refine F.ok sc_driver_by (fun vs H Q E h => ?_) (fun cdv A outer s H vs Q E hr h => ?_)
  · obtain ⟨r, ot, kp, rd, xs, ln, R, g, rfl, _⟩ := h
    rfl
  · obtain ⟨r, ot, kp, rd, xs, ln, R, g, rfl, lr, hk, pm, hrd, dy, hQ⟩ := h
    obtain ⟨hrr, hot, ox, g0, g1⟩ := id lr
    have l8 := ox.l8
    have ll := pm.length_eq
    refine ⟨_, PSs.nox (pss_cons (ps_set (i := 3) sc_driver_by.nd rfl (.inl rfl) (pe_c cNo hr (by decide) rfl (pa_cons (pe_ix ix_tup (pv 0) pe_int (fun _ _ => rfl)) (pa_cons (pv 2) pa_nil))))
      (pss_cons (ps_if (pt_cmpR op_eq (pe_ix ix_tup (pv 0) pe_int (fun _ _ => rfl)) pe_str (nomark _)) pss_never pss_nil)
      (pss_cons (ps_if (pt_cmpR op_eq (pe_ix ix_tup (pv 0) pe_int (fun _ _ => rfl)) pe_str (nomark _)) (pss_one (ps_ret (pe_ix ix_tup (pe_c cNo hr (by decide) rfl (pa_cons (pv 1) (pa_cons (pv 2) pa_nil))) pe_int (fun _ _ => rfl)))) pss_nil) pss_never))), ?_⟩
    refine ⟨_, rfl, r, _, _, _, rfl, rfl, SqT.of hrr, rfl, _, rfl, ot, rd, xs, R, rfl, hot, hrd, by omega, fun t H2 s2 ft ht => ?_⟩
    refine ⟨_, rfl, r, _, _, _, rfl, rfl, SqT.of (s2 _ _ hrr), rfl, rfl, _, rfl, ?_⟩
    rw [no_least]
    refine iteF ?_
    refine ⟨_, rfl, r, _, _, _, rfl, rfl, SqT.of (s2 _ _ hrr), rfl, rfl, _, rfl, iteT ?_⟩
    refine ⟨_, rfl, _, rfl, kp, rd, ln, R, rfl, s2 _ _ hk, s2 _ _ hrd, by omega, fun t2 H3 s3 ft2 ht2 => ?_⟩
    obtain ⟨y, hy⟩ := Drv.ex pm dy
    refine ⟨t2, _, _, .str y, rfl, rfl, SqT.of ht2, atI_nat (j := 0) ?_, hQ H3 (s2.trans s3) y hy⟩
    rw [List.getElem?_map, hy]
    rfl
def spPb : Sp := fun vs H Q _ => ∃ (ot hd rd : Addr) (xs R : List Str) (d : Str) (c : Str → Int), vs = [.ref ot, .ref hd, .ref rd, .str d] ∧ H ot = some (.tup (xs.map V.str)) ∧ xs.length ≤ 13 ∧ Crd H hd xs c ∧ H rd = some (.lst (R.map V.str)) ∧ R ≠ [] ∧ R.length ≤ 13 ∧
  ∀ (t : Addr) (H' : Hp), Same H H' → H t = none → Crd H' t xs (nxt R d c) → Q (.ref t) H'
theorem ok_pb (F : Dn K d_parts_behind f fd) (b : Bl mg) (b2 : Bl2 mg) (gp : ∃ t, mg "RIDE_PARTS" = some (.int 840 t)) : FnOk P w K mg base CX0 1 f fd ["order", "held", "riders", "driver"] spPb := by
  refine F.ok sc_parts_behind (fun vs H Q E h => ?_) (fun cdv A outer s H vs Q E hr h => ?_)
  · obtain ⟨ot, hd, rd, xs, R, d, c, rfl, _⟩ := h
    rfl
  · obtain ⟨ot, hd, rd, xs, R, d, c, rfl, hot, l13, hc, hrd, rne, r13, hQ⟩ := h
    obtain ⟨t, gp⟩ := gp
    have rpos : 0 < R.length := List.length_pos_iff.mpr rne
    refine ⟨_, PSs.nox (pss_cons (ps_set (i := 4) sc_parts_behind.nd rfl (.inl rfl) (pe_lst pa_nil))
      (pss_cons (ps_for PassesOwn.never rfl (RZ.pi_zipA rfl b2.zip (pa_cons (pv 0) (pa_cons (pv 1) pa_nil))) (pg_tup rfl (pgs_cons (pg_name (i := 5) sc_parts_behind.nd rfl (.inl rfl)) (pgs_cons (pg_name (i := 6) sc_parts_behind.nd rfl (.inl rfl)) pgs_nil)))
        (C8.pss_cut (ps_set (i := 7) sc_parts_behind.nd rfl (.inl rfl) (pe_ifExp (pt_cmpR op_in_seq (pv 5) (pv 2) (by rfl)) (pe_op op_fdW (pe_glob (v := .int 840) rfl gp ⟨t, rfl⟩) (pe_callB call_len_seq rfl b.len boot_len (pa_cons (pv 2) pa_nil))) pe_int))
        (C8.pss_cut (ps_set (i := 8) sc_parts_behind.nd rfl (.inl rfl) (pe_ifExp (pt_cmpR op_eq (pv 5) (pv 3) (nomark _)) (pe_glob (v := .int 840) rfl gp ⟨t, rfl⟩) pe_int))
        (pss_one (ps_expr (pe_bm PySem.F.plainAttrs_list PySem.F.slot_list_append PySem.F.type_list_append mt_append (pv 4) (pa_cons (pe_op op_add (pe_op op_sub (pv 6) (pv 7)) (pv 8)) pa_nil)))))))
      (pss_one (ps_ret (pe_callTy call_tuple_of rfl b2.tup boot_tuple (pa_cons (pv 4) pa_nil)))))), ?_⟩
    refine ⟨by show 0 ≤ sizeLine; decide, fun o fo => ?_⟩
    have so := same_new (o := .lst []) fo
    refine ⟨_, rfl, _, rfl, ot, hd, _, _, rfl, .inr ⟨SqT.of (so _ _ hot), SqT.of (so _ _ hc), ?_⟩⟩
    refine RZ.for_zipT (by simp) (fun i σ H2 => ∃ (v5 v6 v7 v8 : Option V), σ = [some (.ref ot), some (.ref hd), some (.ref rd), some (.str d), some (.ref o), v5, v6, v7, v8] ∧ H2 o = some (.lst ((xs.take i).map fun x => V.int (nxt R d c x))) ∧ Same H H2)
      ⟨_, _, _, _, rfl, upd_same, so⟩ (fun i σ H2 ⟨_, _, _, _, _, _, sm⟩ => ⟨SqT.of (sm _ _ hot), SqT.of (sm _ _ hc)⟩) ?_ ?_
    · rintro i x y T σ H2 hx hy ⟨v5, v6, v7, v8, rfl, ho, sm⟩ hT
      have hi' : i < xs.length := by
        have := (List.getElem?_eq_some_iff.mp hx).1
        simpa using this
      rw [List.getElem?_map] at hx hy
      obtain ⟨z, hz, rfl⟩ := Option.map_eq_some_iff.mp hx
      rw [hz] at hy
      cases hy
      have et : xs.take (i + 1) = xs.take i ++ [z] := by rw [List.take_succ, hz]; rfl
      have sT := same_new (o := .tup [V.str z, V.int (c z)]) hT
      refine ⟨T, _, rfl, SqT.of upd_same, rfl, _, _, rfl, _, _, rfl, rfl, ?_⟩
      refine ⟨fun σ' H' => H' = upd H2 T (.tup [V.str z, V.int (c z)]) ∧ ∃ v8, σ' = [some (.ref ot), some (.ref hd), some (.ref rd), some (.str d), some (.ref o), some (.str z), some (.int (c z)), some (.int (if z ∈ R then (840 : Int).fdiv (R.length : Int) else 0)), v8], ?_, ?_⟩
      · refine ⟨_, rfl, _, rfl, rd, _, rfl, .inl (SqL.of (sT _ _ (sm _ _ hrd))), rfl, flat_strs R, _, rfl, ?_⟩
        simp only [Bool.false_eq_true, if_false]
        rw [inV_strs]
        refine ite2 (fun hm => ?_) (fun hm => ?_)
        · refine ⟨_, rfl, rd, _, rfl, .inl (SqL.of (sT _ _ (sm _ _ hrd))), _, _, rfl, rfl, ?_, rfl, v8, ?_⟩
          · rw [List.length_map]
            exact ⟨by omega, log_lt (n := 4) (by omega) (by decide) (by decide)⟩
          · rw [if_pos (of_decide_eq_true hm), List.length_map]
            rfl
        · refine ⟨rfl, v8, ?_⟩
          rw [if_neg (fun q => hm (decide_eq_true q))]
          rfl
      rintro σ' H' ⟨rfl, v8, rfl⟩
      refine ⟨fun σ' H' => H' = upd H2 T (.tup [V.str z, V.int (c z)]) ∧ σ' = [some (.ref ot), some (.ref hd), some (.ref rd), some (.str d), some (.ref o), some (.str z), some (.int (c z)), some (.int (if z ∈ R then (840 : Int).fdiv (R.length : Int) else 0)), some (.int (if z = d then 840 else 0))], ?_, ?_⟩
      · refine ⟨_, rfl, _, rfl, rfl, _, rfl, ?_⟩
        by_cases e : z = d
        · have z0 : decide (V.str z = V.str d) = true := by simp [e]
          rw [z0]
          refine iteT ⟨rfl, ?_⟩
          rw [if_pos e]
          rfl
        · have z0 : decide (V.str z = V.str d) = false := by simp [e]
          rw [z0]
          refine iteF ⟨rfl, ?_⟩
          rw [if_neg e]
          rfl
      rintro σ' H' ⟨rfl, rfl⟩
      refine ⟨_, rfl, Or.inl ⟨rfl, _, SqL.of (sT _ _ ho)⟩, _, rfl, _, rfl, _, _, rfl, rfl, _, rfl, _, _, rfl, rfl, o, _, _, rfl, rfl, sT _ _ ho, ?_, _, _, _, _, rfl, ?_, ?_⟩
      · rw [List.length_map, List.length_take]
        exact Nat.lt_of_lt_of_le (by omega : min i xs.length < 64) (by decide)
      · rw [upd_same, et, List.map_append]
        rfl
      · intro a u e
        rw [upd_ne (ne_of_none e fo)]
        exact sT a u (sm a u e)
    · rintro σ H2 ⟨v5, v6, v7, v8, rfl, ho, sm⟩
      rw [List.length_map, List.take_length] at ho
      exact ⟨_, rfl, o, _, rfl, .inl ⟨SqL.of ho, fun l fl => hQ l _ (sm.trans (same_new fl)) (sm.free fl) upd_same⟩⟩
def spLb : Sp := fun vs H Q _ => ∃ (kp rd : Addr) (ln R : List Str) (y : Str), vs = [.ref kp, .ref rd, .str y] ∧ H kp = some (.tup (ln.map V.str)) ∧ ln.length ≤ 13 ∧ H rd = some (.lst (R.map V.str)) ∧
  ∀ (t : Addr) (H' : Hp), Same H H' → H' t = some (.tup ((nl ln R y).map V.str)) → Q (.ref t) H'
theorem ok_lb (F : Dn K d_line_behind f fd) (b : Bl mg) (b2 : Bl2 mg) : FnOk P w K mg base CX0 1 f fd ["line", "riders", "driver"] spLb := by
  refine F.ok sc_line_behind (fun vs H Q E h => ?_) (fun cdv A outer s H vs Q E hr h => ?_)
  · obtain ⟨kp, rd, ln, R, y, rfl, _⟩ := h
    rfl
  · obtain ⟨kp, rd, ln, R, y, rfl, hk, l13, hrd, hQ⟩ := h
    refine ⟨_, PSs.nox (pss_cons (ps_if (pt_cmpR op_eq (pe_callB call_len_seq rfl b.len boot_len (pa_cons (pv 1) pa_nil)) pe_int (nomark _)) (pss_one (ps_ret (pv 0))) pss_nil)
      (pss_one (ps_ret (pe_callTy call_tuple_of rfl b2.tup boot_tuple (pa_cons (pe_op op_cat (pe_lc (own := [("name", 3)]) (g := gName 3) rfl sc_line_behind.nd (pi_tup (pv 0)) (blkOk_by (N := N_line_behind) (sc := defScope s_line_behind) (by decide +kernel))
          (fun _ _ _ _ _ => pg_name (i := 3) sc_line_behind.nd rfl (Or.inl rfl)) (fun _ _ _ _ _ => pts_one (pt_cmpR (r := rNe) op_ne (pv 3) (pv 2) (nomark _))) (fun _ _ _ _ _ => pv 3)) (pe_lst (pa_cons (pv 2) pa_nil))) pa_nil))))), ?_⟩
    refine ⟨_, rfl, rd, _, rfl, .inl (SqL.of hrd), rfl, _, rfl, ?_⟩
    by_cases e1 : R.length = 1
    · have z0 : decide (V.int ((R.map V.str).length : Nat) = V.int 1) = true := by
        rw [List.length_map, e1]
        rfl
      rw [z0]
      refine iteT ⟨_, rfl, hQ kp H (fun _ _ e => e) ?_⟩
      unfold nl
      rw [if_pos e1]
      exact hk
    · have z0 : decide (V.int ((R.map V.str).length : Nat) = V.int 1) = false := by
        rw [List.length_map]
        exact decide_eq_false fun q => by injection q with q; omega
      rw [z0]
      refine iteF ?_
      refine ⟨_, rfl, kp, rfl, ⟨_, SqT.of hk⟩, fun D hD => lc_tup (fun i H2 => H2 D = some (.lst (((ln.take i).filter fun x => !decide (x = y)).map V.str)) ∧ Same H H2) ⟨upd_same, same_new hD⟩ (fun _ H2 _ z => SqT.of (z.2 _ _ hk)) ?_ ?_⟩
      · rintro i x H2 hx ⟨hd, sm⟩
        have hi' : i < ln.length := by
          have := (List.getElem?_eq_some_iff.mp hx).1
          simpa using this
        rw [List.getElem?_map] at hx
        obtain ⟨z, hz, rfl⟩ := Option.map_eq_some_iff.mp hx
        have et : ln.take (i + 1) = ln.take i ++ [z] := by rw [List.take_succ, hz]; rfl
        refine ⟨rfl, ?_⟩
        refine ⟨_, rfl, _, rfl, rfl, _, rfl, ?_⟩
        by_cases e : z = y
        · have z0 : (!decide (V.str z = V.str y)) = false := by simp [e]
          rw [z0]
          refine iteF ⟨?_, sm⟩
          rw [et, List.filter_append]
          simp [e, hd]
        · have z0 : (!decide (V.str z = V.str y)) = true := by simp [e]
          rw [z0]
          refine iteT ?_
          refine ⟨_, rfl, _, hd, ?_, ?_, ?_⟩
          · rw [List.length_map]
            refine Nat.lt_of_le_of_lt (List.length_filter_le _ _) ?_
            rw [List.length_take]
            exact Nat.lt_of_lt_of_le (by omega : min i ln.length < 64) (by decide)
          · rw [upd_same, et, List.filter_append, List.map_append]
            simp [e]
          · intro a o e
            rw [upd_ne (ne_of_none e hD)]
            exact sm a o e
      · rintro H2 ⟨hd, sm⟩
        rw [List.length_map, List.take_length] at hd
        refine ⟨_, rfl, by show 1 ≤ sizeLine; decide, fun q fq => ?_⟩
        have sq := same_new (o := .lst [.str y]) fq
        have fl : (ln.filter fun x => !decide (x = y)).length ≤ 13 := Nat.le_trans (List.length_filter_le _ _) l13
        refine ⟨D, q, _, _, rfl, rfl, sq _ _ hd, upd_same, by rw [List.length_map]; exact Nat.le_trans (by show _ + 1 ≤ 64; omega) (by decide), fun p fp => ?_⟩
        have sp := same_new (o := .lst ((ln.filter fun x => !decide (x = y)).map V.str ++ [.str y])) fp
        refine ⟨p, _, rfl, .inl ⟨SqL.of upd_same, fun l fl => hQ l _ (((sm.trans sq).trans sp).trans (same_new fl)) ?_⟩⟩
        rw [upd_same]
        unfold nl
        rw [if_neg e1, List.map_append]
        rfl
def spMb : Sp := fun vs H Q _ => ∃ (r ot kp rd : Addr) (xs ln R : List Str) (g : Int), vs = [.ref r, .ref kp, .ref rd] ∧ LeastR H r ot xs g ∧ H kp = some (.tup (ln.map V.str)) ∧ ln.Perm xs ∧ H rd = some (.lst (R.map V.str)) ∧ DayOk xs R ∧
  ∀ (t : Addr) (H1 : Hp) (y : Str), Same H H1 → Drv ln R y → H1 t = some (.tup ((nl ln R y).map V.str)) → Q (.ref t) H1
theorem ok_mb (F : Dn K d_memory_behind f fd) (cDb : Cal P w K mg base 2 "driver_by" spDb []) (cLb : Cal P w K mg base 1 "line_behind" spLb []) : FnOk P w K mg base CX0 3 f fd ["rule", "memory", "riders"] spMb := by
  refine F.ok sc_memory_behind (fun vs H Q E h => ?_) (fun cdv A outer s H vs Q E hr h => ?_)
  · obtain ⟨r, ot, kp, rd, xs, ln, R, g, rfl, _⟩ := h
    rfl
  · obtain ⟨r, ot, kp, rd, xs, ln, R, g, rfl, lr, hk, pm, hrd, dy, hQ⟩ := h
    obtain ⟨hrr, hot, ox, g0, g1⟩ := id lr
    have l8 := ox.l8
    have ll := pm.length_eq
    refine ⟨_, PSs.nox (pss_cons (ps_if (pt_cmpR op_eq (pe_ix ix_tup (pv 0) pe_int (fun _ _ => rfl)) pe_str (nomark _)) pss_never pss_nil)
      (pss_cons (ps_set (i := 3) sc_memory_behind.nd rfl (.inl rfl) (pe_c cDb hr (by decide) rfl (pa_cons (pv 0) (pa_cons (pv 1) (pa_cons (pv 2) pa_nil)))))
      (pss_cons (ps_if (pt_cmpR op_eq (pe_ix ix_tup (pv 0) pe_int (fun _ _ => rfl)) pe_str (nomark _)) pss_never pss_nil)
      (pss_one (ps_ret (pe_c cLb hr (by decide) rfl (pa_cons (pv 1) (pa_cons (pv 2) (pa_cons (pv 3) pa_nil))))))))), ?_⟩
    refine ⟨_, rfl, r, _, _, _, rfl, rfl, SqT.of hrr, rfl, rfl, _, rfl, ?_⟩
    rw [no_rounds]
    refine iteF ?_
    refine ⟨_, rfl, _, rfl, _, rfl, r, ot, kp, rd, xs, ln, R, g, rfl, lr, hk, pm, hrd, dy, fun H2 s2 y hy => ?_⟩
    refine ⟨_, rfl, r, _, _, _, rfl, rfl, SqT.of (s2 _ _ hrr), rfl, rfl, _, rfl, ?_⟩
    rw [no_least]
    refine iteF ?_
    exact ⟨_, rfl, _, rfl, _, rfl, kp, rd, ln, R, y, rfl, s2 _ _ hk, by omega, s2 _ _ hrd, fun t H3 s3 ht => hQ t H3 y (s2.trans s3) hy ht⟩
end
end K40
set_option Elab.async false
set_option linter.all false
set_option maxRecDepth 100000
set_option maxHeartbeats 4000000
namespace K40
open PySem PySem.Spec PyProof.Rows L2
open C8 (Cal Mak Met pe_c pe_mk pe_mt pe_mt0)
open SX (S)
/-- the fields of a Turns -/
def trF (r hd kp ps : Addr) : List (Str × V) := putF "past" (.ref ps) (putF "kept" (.ref kp) (putF "held" (.ref hd) (putF "rule" (.ref r) [])))
theorem f1 : ¬ (("rule" : Str) = "held") := by decide +kernel
theorem f2 : ¬ (("rule" : Str) = "kept") := by decide +kernel
theorem f3 : ¬ (("rule" : Str) = "past") := by decide +kernel
theorem f4 : ¬ (("held" : Str) = "kept") := by decide +kernel
theorem f5 : ¬ (("held" : Str) = "past") := by decide +kernel
theorem f6 : ¬ (("kept" : Str) = "past") := by decide +kernel
theorem trF_eq (r hd kp ps : Addr) : trF r hd kp ps = [(("rule" : Str), V.ref r), (("held" : Str), V.ref hd), (("kept" : Str), V.ref kp), (("past" : Str), V.ref ps)] := by
  unfold trF putF
  simp only [putF, if_neg f1, if_neg f2, if_neg f3, if_neg f4, if_neg f5, if_neg f6]
theorem tr_rule (r hd kp ps : Addr) : (trF r hd kp ps).lookup ("rule" : Str) = some (.ref r) := by
  unfold trF
  rw [lookup_putF, if_neg f3, lookup_putF, if_neg f2, lookup_putF, if_neg f1, lookup_putF, if_pos rfl]
theorem tr_held (r hd kp ps : Addr) : (trF r hd kp ps).lookup ("held" : Str) = some (.ref hd) := by
  unfold trF
  rw [lookup_putF, if_neg f5, lookup_putF, if_neg f4, lookup_putF, if_pos rfl]
theorem tr_kept (r hd kp ps : Addr) : (trF r hd kp ps).lookup ("kept" : Str) = some (.ref kp) := by
  unfold trF
  rw [lookup_putF, if_neg f6, lookup_putF, if_pos rfl]
theorem tr_past (r hd kp ps : Addr) : (trF r hd kp ps).lookup ("past" : Str) = some (.ref ps) := by
  unfold trF
  rw [lookup_putF, if_pos rfl]
theorem tr_no (r hd kp ps : Addr) {m : Str} (h1 : ¬ m = "rule") (h2 : ¬ m = "held") (h3 : ¬ m = "kept") (h4 : ¬ m = "past") : (trF r hd kp ps).lookup m = none := by
  unfold trF
  rw [lookup_putF, if_neg h4, lookup_putF, if_neg h3, lookup_putF, if_neg h2, lookup_putF, if_neg h1]
  all_goals rfl
theorem put_held (r hd kp ps hd' : Addr) : putF "held" (.ref hd') (trF r hd kp ps) = trF r hd' kp ps := by
  rw [trF_eq, trF_eq]
  simp only [putF, if_neg f1, if_pos]
theorem put_kept (r hd kp ps kp' : Addr) : putF "kept" (.ref kp') (trF r hd kp ps) = trF r hd kp' ps := by
  rw [trF_eq, trF_eq]
  simp only [putF, if_neg f2, if_neg f4, if_pos]
/-- a Turns by a rule, its credits twice, the past -/
def Tr (CT : Addr) (H : Hp) (tu r hd kp ps : Addr) : Prop := ∃ dx, H tu = some (.ins CT dx (trF r hd kp ps))
/-- what is known of the class -/
structure ClT (K : PySem.W.Frag) (CT : Addr) : Prop where
  cl : Cls K CT
  nr : NoAttr K CT "rule"
  nh : NoAttr K CT "held"
  nk : NoAttr K CT "kept"
  np : NoAttr K CT "past"
section
variable {P : Program} {w : World} {K : PySem.W.Frag} {mg : Str → Option Value} {base : Heap} {f C CT : Addr} {fd : FuncData}
def spTi (CT : Addr) : Sp := fun vs H Q _ => ∃ (p dx r ot : Addr) (xs : List Str) (g : Int), vs = [.ref p, .ref r] ∧ H p = some (.ins CT dx []) ∧ LeastR H r ot xs g ∧
  ∀ (H' : Hp) (hd ps : Addr), (∀ a o, a ≠ p → H a = some o → H' a = some o) → H ps = none → H' p = some (.ins CT dx (trF r hd ot ps)) → Crd H' hd xs (fun _ => 0) → H' ps = some (.lst []) → Q .non H'
theorem ok_ti (F : Dn K d_Turns_init f fd) (b2 : Bl2 mg) (T : ClT K CT) (cR : Cal P w K mg base 3 "is_rule" spRule []) (cFm : Cal P w K mg base 1 "first_memory" spFm []) : FnOk P w K mg base CX0 4 f fd ["self", "rule"] (spTi CT) := by
  refine F.ok sc_Turns_init (fun vs H Q E h => ?_) (fun cdv A outer s H vs Q E hr h => ?_)
  · obtain ⟨p, dx, r, ot, xs, g, rfl, _⟩ := h
    rfl
  · obtain ⟨p, dx, r, ot, xs, g, rfl, hp, lr, hQ⟩ := h
    obtain ⟨hrr, hot, ox, g0, g1⟩ := id lr
    have l8 := ox.l8
    refine ⟨_, PSs.nox (pss_cons (ps_if (pt_not (pt_val (pe_c cR hr (by decide) rfl (pa_cons (pv 1) pa_nil)))) pss_never pss_nil)
      (pss_cons (ps_fld (pv 0) (pv 1) rfl)
      (pss_cons (ps_fld (pv 0) (pe_callTy call_tuple_of rfl b2.tup boot_tuple (pa_cons (pe_lc (own := [("name", 2)]) (g := gName 2) (tt := tYes) rfl sc_Turns_init.nd (pi_tup (pe_ix ix_tup (pv 1) pe_int (fun _ _ => rfl))) (blkOk_by (N := N_Turns_init) (sc := defScope s_Turns_init) (by decide +kernel))
          (fun _ _ _ _ _ => pg_name (i := 2) sc_Turns_init.nd rfl (Or.inl rfl)) (fun _ _ _ _ _ => pts_nil) (fun _ _ _ _ _ => pe_int)) pa_nil)) rfl)
      (pss_cons (ps_fld (pv 0) (pe_c cFm hr (by decide) rfl (pa_cons (pv 1) pa_nil)) rfl)
      (pss_one (ps_fld (pv 0) (pe_lst pa_nil) rfl)))))), ?_⟩
    refine ⟨_, rfl, r, ot, xs, g, rfl, lr, fun H1 s1 => ⟨true, rfl, iteF ?_⟩⟩
    refine ⟨_, rfl, _, rfl, p, CT, dx, _, rfl, s1 _ _ hp, T.cl, T.nr, by show 0 < 1000; decide, ?_⟩
    have tn : ∀ {a : Addr} {ys : List V} {H2 : Hp}, H2 p = some (.ins CT dx []) → H2 a = some (.tup ys) → a ≠ p := fun e1 e2 z => by rw [z, e1] at e2; cases e2
    have hrr1 : (upd H1 p (.ins CT dx (putF "rule" (.ref r) []))) r = some (.tup [.str "longest", .ref ot]) := by rw [upd_ne (tn hp hrr)]; exact s1 _ _ hrr
    have hot1 : (upd H1 p (.ins CT dx (putF "rule" (.ref r) []))) ot = some (.tup (xs.map V.str)) := by rw [upd_ne (tn hp hot)]; exact s1 _ _ hot
    refine ⟨_, rfl, r, _, _, _, rfl, rfl, SqT.of hrr1, rfl, ot, rfl, ⟨_, SqT.of hot1⟩, fun D hD => lc_tup (fun i H2 => H2 D = some (.lst ((xs.take i).map fun _ => V.int 0)) ∧ Same (upd H1 p (.ins CT dx (putF "rule" (.ref r) []))) H2) ⟨upd_same, same_new hD⟩ (fun _ H2 _ z => SqT.of (z.2 _ _ hot1)) ?_ ?_⟩
    · rintro i x H2 hx ⟨hd, sm⟩
      have hi' : i < xs.length := by
        have := (List.getElem?_eq_some_iff.mp hx).1
        simpa using this
      refine ⟨rfl, _, hd, ?_, ?_, ?_⟩
      · rw [List.length_map, List.length_take]
        exact Nat.lt_of_lt_of_le (by omega : min i xs.length < 64) (by decide)
      · rw [upd_same, zs_take xs i hi']
      · intro a o e
        rw [upd_ne (ne_of_none e hD)]
        exact sm a o e
    · rintro H2 ⟨hd, sm⟩
      rw [List.length_map, List.take_length] at hd
      refine ⟨D, _, rfl, .inl ⟨SqL.of hd, fun hl fl => ?_⟩⟩
      have s3 := sm.trans (same_new (o := .tup (xs.map fun _ => V.int 0)) fl)
      have hp3 := s3 _ _ (upd_same : (upd H1 p (.ins CT dx (putF "rule" (.ref r) []))) p = _)
      refine ⟨_, rfl, p, CT, dx, _, rfl, hp3, T.cl, T.nh, by show 1 < 1000; decide, ?_⟩
      have nhl : hl ≠ p := fun z => by rw [z] at fl; rw [sm _ _ (upd_same : (upd H1 p (.ins CT dx (putF "rule" (.ref r) []))) p = _)] at fl; cases fl
      have key : ∀ (a : Addr) (ys : List V), a ≠ p → (upd H1 p (.ins CT dx (putF "rule" (.ref r) []))) a = some (.tup ys) → (upd (upd H2 hl (.tup (xs.map fun _ => V.int 0))) p (.ins CT dx (putF "held" (.ref hl) (putF "rule" (.ref r) [])))) a = some (.tup ys) := fun a ys na e => by
        rw [upd_ne na]
        exact s3 _ _ e
      refine ⟨_, rfl, r, ot, xs, g, rfl, ⟨key _ _ (tn hp hrr) hrr1, key _ _ (tn hp hot) hot1, ox, g0, g1⟩, ?_⟩
      refine ⟨_, rfl, p, CT, dx, _, rfl, upd_same, T.cl, T.nk, by show (putF "held" (V.ref hl) (putF "rule" (V.ref r) [])).length < 1000; simp only [putF, if_neg f1]; show 2 < 1000; decide, ?_⟩
      refine ⟨by show 0 ≤ sizeLine; decide, fun pl fp => ?_⟩
      have npl : pl ≠ p := fun z => by rw [z, upd_same] at fp; cases fp
      rw [upd_ne npl, upd_ne npl] at fp
      refine ⟨_, rfl, p, CT, dx, _, rfl, by rw [upd_ne npl.symm, upd_same], T.cl, T.np, by show (putF "kept" (V.ref ot) (putF "held" (V.ref hl) (putF "rule" (V.ref r) []))).length < 1000; simp only [putF, if_neg f1, if_neg f2, if_neg f4]; show 3 < 1000; decide, ?_⟩
      have back : ∀ a o, a ≠ p → H a = some o → (upd H2 hl (.tup (xs.map fun _ => V.int 0))) a = some o := fun a o na e => by
        refine s3 _ _ ?_
        rw [upd_ne na]
        exact s1 _ _ e
      have fpH : H pl = none := by
        cases e : H pl with
        | none => rfl
        | some o => rw [back pl o npl e] at fp; cases fp
      have nph : hl ≠ pl := ne_of_none upd_same fp
      refine hQ _ hl pl (fun a o na e => ?_) fpH upd_same ?_ ?_
      · have e4 := back a o na e
        rw [upd_ne na, upd_ne (ne_of_none e4 fp), upd_ne na, upd_ne na]
        exact e4
      · show (upd _ p _) hl = _
        rw [upd_ne nhl, upd_ne nph, upd_ne nhl, upd_ne nhl, upd_same]
      · rw [upd_ne npl, upd_same]
end
end K40
set_option Elab.async false
set_option linter.all false
set_option maxRecDepth 100000
set_option maxHeartbeats 4000000
namespace K40
open PySem PySem.Spec PyProof.Rows L2
open C8 (Cal Mak Met pe_c pe_mk pe_mt pe_mt0)
open SX (S)
theorem cut_strs (R : List Str) (i : Nat) (h : i ≤ R.length) : cutV (R.map V.str) none (some (i : Int)) = (R.take i).map V.str := by
  have z : ¬ ((i : Int) < 0) := by omega
  have z2 : ((i : Int) ≤ (R.length : Int)) := by omega
  unfold cutV HT.sIx
  simp [z, z2, Nat.min_eq_left h]
section
variable {P : Program} {w : World} {K : PySem.W.Frag} {mg : Str → Option Value} {base : Heap} {f C CT : Addr} {fd : FuncData}
def spCk (CT : Addr) : Sp := fun vs H Q _ => ∃ (tu rd r ot hd kp ps : Addr) (xs R : List Str) (g : Int), vs = [.ref tu, .ref rd] ∧ Tr CT H tu r hd kp ps ∧ LeastR H r ot xs g ∧ H rd = some (.lst (R.map V.str)) ∧ DayOk xs R ∧ ∀ H', Same H H' → Q .non H'
theorem ok_ck (F : Dn K d_Turns_check_riders f fd) (b : Bl mg) (b2 : Bl2 mg) (T : ClT K CT) : FnOk P w K mg base CX0 1 f fd ["self", "riders"] (spCk CT) := by
  refine F.ok sc_Turns_check_riders (fun vs H Q E h => ?_) (fun cdv A outer s H vs Q E hr h => ?_)
  · obtain ⟨tu, rd, r, ot, hd, kp, ps, xs, R, g, rfl, _⟩ := h
    rfl
  · obtain ⟨tu, rd, r, ot, hd, kp, ps, xs, R, g, rfl, ⟨dx, htu⟩, lr, hrd, dy, hQ⟩ := h
    obtain ⟨hrr, hot, ox, g0, g1⟩ := id lr
    have rpos : 0 < R.length := List.length_pos_iff.mpr dy.ne
    refine ⟨_, PSs.nox (pss_cons (ps_if (pt_cmpR op_eq (pe_callB call_len_seq rfl b.len boot_len (pa_cons (pv 1) pa_nil)) pe_int (nomark _)) pss_never pss_nil)
      (pss_one (ps_for PassesOwn.never rfl (pi_enum rfl b2.enum (pa_cons (pv 1) pa_nil)) (pg_tup rfl (pgs_cons (pg_name (i := 2) sc_Turns_check_riders.nd rfl (.inl rfl)) (pgs_cons (pg_name (i := 3) sc_Turns_check_riders.nd rfl (.inl rfl)) pgs_nil)))
        (pss_one (ps_if (PW.pt (pw_or (pt_cmpR op_notIn_seq (pv 3) (pe_ix ix_tup (pe_fld (pv 0) rfl) pe_int (fun _ _ => rfl)) (by rfl)) (pw_or1 (pt_cmpR op_in_seq (pv 3) (pe_slice sl_list (pv 1) po_none (po_some (pv 2))) (by rfl))))) pss_never pss_nil))))), ?_⟩
    refine ⟨_, rfl, rd, _, rfl, .inl (SqL.of hrd), rfl, _, rfl, ?_⟩
    have z0 : decide (V.int ((R.map V.str).length : Nat) = V.int 0) = false := by
      rw [List.length_map]
      exact decide_eq_false fun q => by injection q with q; omega
    rw [z0]
    refine iteF ?_
    refine ⟨_, rfl, rd, _, rfl, SqL.of hrd, for_it walk_enum (fun i σ H2 => ∃ v2 v3 : Option V, σ = [some (.ref tu), some (.ref rd), v2, v3] ∧ Same H H2) ⟨_, _, rfl, fun _ _ e => e⟩ (fun i σ H2 _ ⟨_, _, _, sm⟩ => SqL.of (sm _ _ hrd)) ?_ ?_⟩
    · rintro i x σ H2 H3 hi ⟨v2, v3, rfl, sm⟩ ⟨Tp, x1, x2, rfl, hT, rfl, e1, e2⟩
      rw [List.length_map] at hi
      cases e1
      have e2 : (List.map V.str R)[i]? = some x2 := e2
      rw [List.getElem?_map] at e2
      obtain ⟨z, hz, rfl⟩ := Option.map_eq_some_iff.mp e2
      have sT := same_new (o := .tup [V.int (i : Nat), V.str z]) hT
      have s3 := sm.trans sT
      refine ⟨Tp, _, rfl, SqT.of upd_same, rfl, _, _, rfl, _, _, rfl, rfl, ?_⟩
      refine ⟨_, rfl, _, rfl, tu, CT, dx, _, _, rfl, s3 _ _ htu, T.cl, T.nr, tr_rule _ _ _ _, r, _, _, _, rfl, rfl, SqT.of (s3 _ _ hrr), rfl, ot, _, rfl, .inr (SqT.of (s3 _ _ hot)), rfl, flat_strs xs, _, rfl, ?_⟩
      rw [inV_strs, decide_eq_true (dy.sub z (List.mem_of_getElem? hz))]
      refine iteF ?_
      refine ⟨_, rfl, _, rfl, _, rfl, _, rfl, rd, _, rfl, SqL.of (s3 _ _ hrd), fun sl fsl => ?_⟩
      rw [cut_strs R i (by omega)]
      have s4 := s3.trans (same_new (o := .lst ((R.take i).map V.str)) fsl)
      refine ⟨sl, _, rfl, .inl (SqL.of upd_same), rfl, flat_strs _, _, rfl, ?_⟩
      have nin : ¬ z ∈ R.take i := fun hm => by
        obtain ⟨j, hj, e⟩ := List.mem_iff_getElem.mp hm
        rw [List.getElem_take] at e
        rw [List.length_take] at hj
        have e3 : R[j]? = R[i]? := by rw [hz, List.getElem?_eq_getElem (by omega), e]
        have := (List.getElem?_inj (by omega) dy.nd).mp e3
        omega
      simp only [Bool.false_eq_true, if_false]
      rw [inV_strs, decide_eq_false nin]
      exact iteF ⟨_, _, rfl, s4⟩
    · rintro σ H2 ⟨v2, v3, rfl, sm⟩
      exact hQ H2 sm
def spWho (CT : Addr) : Sp := fun vs H Q _ => ∃ (tu rd r ot hd kp ps : Addr) (xs ln R : List Str) (g : Int), vs = [.ref tu, .ref rd] ∧ Tr CT H tu r hd kp ps ∧ LeastR H r ot xs g ∧ H kp = some (.tup (ln.map V.str)) ∧ ln.Perm xs ∧ H rd = some (.lst (R.map V.str)) ∧ DayOk xs R ∧
  ∀ H1, Same H H1 → ∀ y, Drv ln R y → Q (.str y) H1
theorem ok_who (F : Dn K d_Turns_who f fd) (T : ClT K CT) (mC : Met P w K mg base 1 CT "check_riders" (spCk CT) []) (cDb : Cal P w K mg base 2 "driver_by" spDb []) : FnOk P w K mg base CX0 3 f fd ["self", "riders"] (spWho CT) := by
  refine F.ok sc_Turns_who (fun vs H Q E h => ?_) (fun cdv A outer s H vs Q E hr h => ?_)
  · obtain ⟨tu, rd, r, ot, hd, kp, ps, xs, ln, R, g, rfl, _⟩ := h
    rfl
  · obtain ⟨tu, rd, r, ot, hd, kp, ps, xs, ln, R, g, rfl, tr, lr, hk, pm, hrd, dy, hQ⟩ := h
    obtain ⟨dx, htu⟩ := id tr
    refine ⟨_, PSs.nox (pss_cons (ps_expr (pe_mt mC hr (by decide) (pv 0) (pa_cons (pv 1) pa_nil)))
      (pss_one (ps_ret (pe_c cDb hr (by decide) rfl (pa_cons (pe_fld (pv 0) rfl) (pa_cons (pe_fld (pv 0) rfl) (pa_cons (pv 1) pa_nil))))))), ?_⟩
    refine ⟨_, rfl, tu, dx, _, rfl, htu, tr_no _ _ _ _ (by decide +kernel) (by decide +kernel) (by decide +kernel) (by decide +kernel), _, rfl, tu, rd, r, ot, hd, kp, ps, xs, R, g, rfl, tr, lr, hrd, dy, fun H2 s2 => ?_⟩
    have htu2 := s2 _ _ htu
    refine ⟨_, rfl, tu, CT, dx, _, _, rfl, htu2, T.cl, T.nr, tr_rule _ _ _ _, _, rfl, tu, CT, dx, _, _, rfl, htu2, T.cl, T.nk, tr_kept _ _ _ _, _, rfl, r, ot, kp, rd, xs, ln, R, g, rfl, lr.same s2, s2 _ _ hk, pm, s2 _ _ hrd, dy, fun H3 s3 y hy => hQ H3 (s2.trans s3) y hy⟩
/-- all is kept but the Turns and its past -/
def KpT (tu ps : Addr) (H H' : Hp) : Prop := ∀ b o, H b = some o → b ≠ tu → b ≠ ps → H' b = some o
def spRide (CT : Addr) : Sp := fun vs H Q _ => ∃ (tu rd r ot hd kp ps : Addr) (xs ln R : List Str) (g : Int) (c : Str → Int) (past : List V), vs = [.ref tu, .ref rd] ∧ Tr CT H tu r hd kp ps ∧ LeastR H r ot xs g ∧ Crd H hd xs c ∧ H kp = some (.tup (ln.map V.str)) ∧ ln.Perm xs ∧ H rd = some (.lst (R.map V.str)) ∧ DayOk xs R ∧
  H ps = some (.lst past) ∧ past.length ≤ 1000 ∧ rd ≠ ps ∧
  ∀ (H1 : Hp) (hd' kp' : Addr) (y : Str), KpT tu ps H H1 → Drv ln R y → Tr CT H1 tu r hd' kp' ps → Crd H1 hd' xs (nxt R y c) → H1 kp' = some (.tup ((nl ln R y).map V.str)) → H1 ps = some (.lst (past ++ [.str y])) → Q (.str y) H1
theorem ok_ride (F : Dn K d_Turns_ride f fd) (T : ClT K CT) (mW : Met P w K mg base 3 CT "who" (spWho CT) []) (cPb : Cal P w K mg base 1 "parts_behind" spPb []) (cMb : Cal P w K mg base 3 "memory_behind" spMb []) : FnOk P w K mg base CX0 4 f fd ["self", "riders"] (spRide CT) := by
  refine F.ok sc_Turns_ride (fun vs H Q E h => ?_) (fun cdv A outer s H vs Q E hr h => ?_)
  · obtain ⟨tu, rd, r, ot, hd, kp, ps, xs, ln, R, g, c, past, rfl, _⟩ := h
    rfl
  · obtain ⟨tu, rd, r, ot, hd, kp, ps, xs, ln, R, g, c, past, rfl, tr, lr, hcd, hck, pm, hrd, dy, hps, pl, nrp, hQ⟩ := h
    obtain ⟨dx, htu⟩ := id tr
    have l8 := lr.2.2.1.l8
    have r8 := dy.ln
    refine ⟨_, PSs.nox (pss_cons (ps_set (i := 2) sc_Turns_ride.nd rfl (.inl rfl) (pe_mt mW hr (by decide) (pv 0) (pa_cons (pv 1) pa_nil)))
      (pss_cons (ps_fld (pv 0) (pe_c cPb hr (by decide) rfl (pa_cons (pe_ix ix_tup (pe_fld (pv 0) rfl) pe_int (fun _ _ => rfl)) (pa_cons (pe_fld (pv 0) rfl) (pa_cons (pv 1) (pa_cons (pv 2) pa_nil))))) rfl)
      (pss_cons (ps_fld (pv 0) (pe_c cMb hr (by decide) rfl (pa_cons (pe_fld (pv 0) rfl) (pa_cons (pe_fld (pv 0) rfl) (pa_cons (pv 1) pa_nil)))) rfl)
      (pss_cons (ps_expr (pe_bm PySem.F.plainAttrs_list PySem.F.slot_list_append PySem.F.type_list_append mt_append (pe_fld (pv 0) rfl) (pa_cons (pv 2) pa_nil)))
      (pss_one (ps_ret (pv 2))))))), ?_⟩
    refine ⟨_, rfl, tu, dx, _, rfl, htu, tr_no _ _ _ _ (by decide +kernel) (by decide +kernel) (by decide +kernel) (by decide +kernel), _, rfl, tu, rd, r, ot, hd, kp, ps, xs, ln, R, g, rfl, tr, lr, hck, pm, hrd, dy, fun H2 e2 y hy => ?_⟩
    have htu2 : H2 tu = some (.ins CT dx (trF r hd kp ps)) := e2 _ _ htu
    have hrd2 : H2 rd = some (.lst (R.map V.str)) := e2 _ _ hrd
    have hps2 : H2 ps = some (.lst past) := e2 _ _ hps
    have lr2 := lr.same e2
    obtain ⟨hrr2, hot2, _⟩ := id lr2
    refine ⟨_, rfl, tu, CT, dx, _, _, rfl, htu2, T.cl, T.nr, tr_rule _ _ _ _, r, _, _, _, rfl, rfl, SqT.of hrr2, rfl, _, rfl, tu, CT, dx, _, _, rfl, htu2, T.cl, T.nh, tr_held _ _ _ _, _, rfl, _, rfl, ot, hd, rd, xs, R, y, c, rfl, hot2, by omega, hcd.same e2, hrd2, dy.ne, by omega, fun hd' H3 s3 fh hh => ?_⟩
    have len4 : ∀ a b c d : Addr, (trF a b c d).length < 1000 := fun a b c d => by rw [trF_eq]; show 4 < 1000; decide
    refine ⟨_, rfl, tu, CT, dx, _, rfl, s3 _ _ htu2, T.cl, T.nh, len4 _ _ _ _, ?_⟩
    rw [put_held]
    have nt : ∀ {a : Addr} {ys : List V}, H3 a = some (.tup ys) → a ≠ tu := fun e z => by rw [z, s3 _ _ htu2] at e; cases e
    have nl' : ∀ {a : Addr} {ys : List V}, H3 a = some (.lst ys) → a ≠ tu := fun e z => by rw [z, s3 _ _ htu2] at e; cases e
    have lr4 : LeastR (upd H3 tu (.ins CT dx (trF r hd' kp ps))) r ot xs g := (lr2.same s3).ext fun a ys e => by rw [upd_ne (nt e)]; exact e
    have hck4 : (upd H3 tu (.ins CT dx (trF r hd' kp ps))) kp = some (.tup (ln.map V.str)) := by
      have := s3 _ _ (e2 _ _ hck)
      rw [upd_ne (nt this)]
      exact this
    have hrd4 : (upd H3 tu (.ins CT dx (trF r hd' kp ps))) rd = some (.lst (R.map V.str)) := by
      rw [upd_ne (nl' (s3 _ _ hrd2))]
      exact s3 _ _ hrd2
    refine ⟨_, rfl, tu, CT, dx, _, _, rfl, upd_same, T.cl, T.nr, tr_rule _ _ _ _, _, rfl, tu, CT, dx, _, _, rfl, upd_same, T.cl, T.nk, tr_kept _ _ _ _, _, rfl, r, ot, kp, rd, xs, ln, R, g, rfl, lr4, hck4, pm, hrd4, dy, fun kp' H5 y' e5 hy' hk' => ?_⟩
    have ey := hy.same hy'
    subst ey
    have htu5 : H5 tu = some (.ins CT dx (trF r hd' kp ps)) := e5 _ _ upd_same
    refine ⟨_, rfl, tu, CT, dx, _, rfl, htu5, T.cl, T.nk, len4 _ _ _ _, ?_⟩
    rw [put_kept]
    have nt5 : ∀ {a : Addr} {ys : List V}, H5 a = some (.tup ys) → a ≠ tu := fun e z => by rw [z, htu5] at e; cases e
    have hps4 : (upd H3 tu (.ins CT dx (trF r hd' kp ps))) ps = some (.lst past) := by
      rw [upd_ne (nl' (s3 _ _ hps2))]
      exact s3 _ _ hps2
    have hps5 : H5 ps = some (.lst past) := e5 _ _ hps4
    have npt : ps ≠ tu := fun z => by rw [z, htu5] at hps5; cases hps5
    have hps6 : (upd H5 tu (.ins CT dx (trF r hd' kp' ps))) ps = some (.lst past) := by rw [upd_ne npt]; exact hps5
    have hh5 : Crd H5 hd' xs (nxt R y c) := e5 _ _ (by rw [upd_ne (nt hh)]; exact hh)
    have ntp : ∀ {a : Addr} {ys : List V}, H5 a = some (.tup ys) → a ≠ ps := fun e z => by rw [z, hps5] at e; cases e
    refine ⟨_, rfl, tu, CT, dx, _, _, rfl, upd_same, T.cl, T.np, tr_past _ _ _ _, Or.inl ⟨rfl, _, SqL.of hps6⟩, _, rfl, ps, _, _, rfl, rfl, hps6, Nat.lt_of_le_of_lt pl (by decide), _, rfl, ?_⟩
    refine hQ _ hd' kp' y (fun b o e n1 n2 => ?_) hy ⟨dx, by rw [upd_ne npt.symm, upd_same]⟩ ?_ ?_ upd_same
    · rw [upd_ne n2, upd_ne n1]
      refine e5 _ _ ?_
      rw [upd_ne n1]
      exact s3 _ _ (e2 _ _ e)
    · show (upd _ ps _) hd' = _
      rw [upd_ne (ntp hh5), upd_ne (nt5 hh5)]
      exact hh5
    · show (upd _ ps _) kp' = _
      rw [upd_ne (ntp hk'), upd_ne (nt5 hk')]
      exact hk'
end
end K40
set_option Elab.async false
set_option linter.all false
set_option maxRecDepth 100000
set_option maxHeartbeats 4000000
/-! data: texts, pairs -/
namespace DQ
open PySem PySem.Spec PyProof.Rows L2
def pD (q : Int × Int) : PyData := .tuple [.int q.1, .int q.2]
theorem all_strs : ∀ xs : List Str, (∀ x ∈ xs, PyData.strOk x = true) → PyData.canLayAll0 (xs.map PyData.str) = true ∧ PyData.depthAll (xs.map PyData.str) = 0
  | [], _ => ⟨rfl, rfl⟩
  | x :: r, h => by
    obtain ⟨h1, h2⟩ := all_strs r fun y hy => h y (List.mem_cons_of_mem _ hy)
    have h3 := h x List.mem_cons_self
    exact ⟨by simp [PyData.canLayAll0, PyData.canLay0, h1, h3], by simp [PyData.depthAll, PyData.depth, h2]⟩
theorem sh_strs {xs : List Str} (h : ∀ x ∈ xs, PyData.strOk x = true) : SeqAt.shaped (.list (xs.map PyData.str)) = true := by
  obtain ⟨h1, h2⟩ := all_strs xs h
  simp [SeqAt.shaped, PyData.canLay0, PyData.depth, h1, h2]
theorem all_pairs : ∀ qs : List (Int × Int), PyData.canLayAll0 (qs.map pD) = true ∧ PyData.depthAll (qs.map pD) ≤ 2
  | [] => ⟨rfl, by decide⟩
  | _ :: r => by
    obtain ⟨h1, h2⟩ := all_pairs r
    refine ⟨by simp [PyData.canLayAll0, PyData.canLay0, pD, h1], ?_⟩
    show max (PyData.depth (pD _)) (PyData.depthAll (r.map pD)) ≤ 2
    have h3 : ∀ q, PyData.depth (pD q) ≤ 2 := fun q => by show 1 ≤ 2; decide
    exact Nat.max_le.mpr ⟨h3 _, h2⟩
theorem sh_pair (q : Int × Int) : SeqAt.shaped (pD q) = true := rfl
theorem sh_pairs (qs : List (Int × Int)) : SeqAt.shaped (.list (qs.map pD)) = true := by
  obtain ⟨h1, h2⟩ := all_pairs qs
  have h3 : PyData.depthAll (qs.map pD) + 1 ≤ 64 := by omega
  simp [SeqAt.shaped, PyData.canLay0, PyData.depth, h1]
  omega
theorem eq_strs (xs : List Str) : PyData.eqv (.list (xs.map PyData.str)) (.list (xs.map PyData.str)) = true := by
  refine PySem.W.eqv_refl_alike _ ?_
  induction xs with
  | nil => rfl
  | cons x xs ih => simpa [PySem.W.alike, PySem.W.alikeAll] using ih
theorem eq_pair (q : Int × Int) : PyData.eqv (pD q) (pD q) = true := PySem.W.eqv_refl_alike _ rfl
theorem eq_pairs (qs : List (Int × Int)) : PyData.eqv (.list (qs.map pD)) (.list (qs.map pD)) = true := by
  refine PySem.W.eqv_refl_alike _ ?_
  induction qs with
  | nil => rfl
  | cons x xs ih => simpa [PySem.W.alike, PySem.W.alikeAll, pD] using ih
theorem dp_strs {K : PySem.W.Frag} {H : Hp} : ∀ xs : List Str, DpAll K H (xs.map V.str) (xs.map PyData.str)
  | [] => .nil
  | x :: xs => .cons (.str x) (dp_strs xs)
theorem dp_pair {K : PySem.W.Frag} {H : Hp} {t : Addr} {q : Int × Int} (h : H t = some (.tup [.int q.1, .int q.2])) : Dp K H (.ref t) (pD q) := .tup (SqT.of h) (.cons (.int _) (.cons (.int _) .nil))
theorem dp_pairs {K : PySem.W.Frag} {H : Hp} : ∀ L : List (Addr × (Int × Int)), (∀ p ∈ L, H p.1 = some (.tup [.int p.2.1, .int p.2.2])) → DpAll K H (L.map fun p => V.ref p.1) ((L.map (·.2)).map pD)
  | [], _ => .nil
  | p :: L, h => .cons (dp_pair (h p List.mem_cons_self)) (dp_pairs L fun q hq => h q (List.mem_cons_of_mem _ hq))
/-- a dict by names -/
theorem val_map (f : Str → V) {y : Str} : ∀ {l : List Str}, y ∈ l → valV (l.map fun x => ((Sum.inr x : Key), f x)) (Sum.inr y) = some (f y)
  | x :: l, h => by
    rw [List.map_cons]
    by_cases e : x = y
    · rw [valV_pos (by rw [e])]
      rw [e]
    · rw [valV_neg (fun z => e (Sum.inr.inj z))]
      exact val_map f ((List.mem_cons.mp h).resolve_left fun z => e z.symm)
theorem val_none (f : Str → V) {y : Str} : ∀ {l : List Str}, y ∉ l → valV (l.map fun x => ((Sum.inr x : Key), f x)) (Sum.inr y) = none
  | [], _ => rfl
  | x :: l, h => by
    rw [List.map_cons, valV_neg (fun z => h (by rw [Sum.inr.inj z]; exact List.mem_cons_self))]
    exact val_none f fun z => h (List.mem_cons_of_mem _ z)
theorem put_new (f : Str → V) {y : Str} {l : List Str} (h : y ∉ l) : putK (l.map fun x => ((Sum.inr x : Key), f x)) (Sum.inr y) (f y) = (l ++ [y]).map fun x => ((Sum.inr x : Key), f x) := by
  rw [putK_new _ (val_none f h), List.map_append]
  rfl
theorem put_old (f : Str → V) {y : Str} {v : V} {l : List Str} (h : y ∈ l) : putK (l.map fun x => ((Sum.inr x : Key), f x)) (Sum.inr y) v = l.map fun x => ((Sum.inr x : Key), if x = y then v else f x) := by
  have a : ((l.map fun x => ((Sum.inr x : Key), f x)).any fun kv => decide (kv.1 = Sum.inr y)) = true := by
    rw [List.any_eq_true]
    exact ⟨(Sum.inr y, f y), List.mem_map.mpr ⟨y, h, rfl⟩, by simp⟩
  unfold putK
  rw [if_pos a, List.map_map]
  refine List.map_congr_left fun x _ => ?_
  show (if (Sum.inr x : Key) = Sum.inr y then ((Sum.inr x : Key), v) else (Sum.inr x, f x)) = _
  by_cases e : x = y
  · rw [if_pos (by rw [e]), if_pos e]
  · rw [if_neg (fun z => e (Sum.inr.inj z)), if_neg e]
theorem merge_map (f : Str → V) : ∀ {l m : List Str}, (m ++ l).Nodup → mergeK (m.map fun x => ((Sum.inr x : Key), f x)) (l.map fun x => ((Sum.inr x : Key), f x)) = (m ++ l).map fun x => ((Sum.inr x : Key), f x)
  | [], m, _ => by rw [List.append_nil]; rfl
  | y :: l, m, h => by
    have h' : (m ++ [y] ++ l).Nodup := by rw [List.append_assoc]; exact h
    have ny : y ∉ m := fun z => by
      have := (List.nodup_append.mp h).2.2 y z y List.mem_cons_self
      exact this rfl
    show mergeK (putK _ (Sum.inr y) (f y)) (l.map fun x => ((Sum.inr x : Key), f x)) = _
    rw [put_new f ny, merge_map f h', List.append_assoc]
    rfl
end DQ
set_option Elab.async false
set_option linter.all false
set_option maxRecDepth 100000
set_option maxHeartbeats 4000000
/-! xs.count(x), texts -/
namespace CS
open PySem PySem.Spec PyProof.Rows L2
def eqs (z : Str) : Value → Bool
  | .str c _ => c == z
  | _ => false
theorem vals_str {bs : List Str} : ∀ {us : List Value}, Vals (bs.map V.str) us → (∀ u ∈ us, ∃ c t, u = Value.str c t) ∧ ∀ z, us.countP (eqs z) = bs.count z := by
  induction bs with
  | nil =>
    intro us r
    cases r
    exact ⟨fun u h => by simp at h, fun z => rfl⟩
  | cons b bs ih =>
    intro us r
    rw [List.map_cons] at r
    cases r with
    | cons h t =>
      obtain ⟨i1, i2⟩ := ih t
      obtain ⟨tk, rfl⟩ := h
      refine ⟨fun u hu => ?_, fun z => ?_⟩
      · rcases List.mem_cons.mp hu with e | hu
        · exact ⟨b, tk, e⟩
        · exact i1 u hu
      · rw [List.countP_cons, List.count_cons, i2]
        rfl
def rCntS (K : PySem.W.Frag) : V → List V → Hp → VK → Prop := fun x xs H Q => ∃ (p : Addr) (bs : List Str) (z : Str), x = .ref p ∧ xs = [.str z] ∧ SqL K H p (bs.map V.str) ∧ Q (.int (bs.count z : Nat)) H
theorem mt_scount {X : Cx} : MtR X "list.count" (rCntS X.K) := by
  intro pins s σ H x xs v us Q I rx rxs h
  obtain ⟨p, bs, z, rfl, rfl, hs, q⟩ := h
  cases rx
  obtain ⟨u, rfl, ru⟩ := rxs.one
  obtain ⟨tz, rfl⟩ := ru
  obtain ⟨its, rv, ⟨⟨cls, dd, data, sl⟩, n, ho, hc, hdn, hd⟩, hlen⟩ := I.list hs
  simp only at hc hd
  subst hc hd
  obtain ⟨i1, i2⟩ := vals_str rv
  refine call_meets PySem.F.slot_list_count ⟨_, ho, rfl⟩ PySem.F.entry_list_count (PySem.F.args_list_count_2 _ _) (SeqAt.list_countAt p _ n dd sl (.str z tz) (eqs z)) ⟨ho, fun y hy => ?_, ?_⟩
  · obtain ⟨c, t, rfl⟩ := i1 y (by simpa using hy)
    exact SeqAt.EqAt.str_str c t z tz
  · refine ⟨.int (bs.count z : Nat), H, I.tok _, ⟨s.toks, ?_⟩, q⟩
    show Value.int ((its.toArray.toList.countP (eqs z) : Nat) : Int) s.toks = Value.int ((bs.count z : Nat) : Int) s.toks
    rw [show its.toArray.toList = its from rfl, i2]
end CS
set_option Elab.async false
set_option linter.all false
set_option maxRecDepth 100000
set_option maxHeartbeats 4000000
namespace K40
open PySem PySem.Spec PyProof.Rows L2
open C8 (Cal Mak Met pe_c pe_mk pe_mt pe_mt0)
open KM (pr)
/-- a dict over zip of two tuples of one length -/
theorem dc_zipT {K : PySem.W.Frag} {a b : Addr} {xs ys : List V} {g : TG} {tt : TT} {tk tv : TE} {vs : List Nat} {σ : L2.St} {H1 : Hp} {D : Addr} {Qd : Hp → Prop} (hl : xs.length = ys.length) (Pv : Nat → Hp → Prop) (h0 : Pv 0 (upd H1 D (.dK []))) (hq : ∀ i H, Pv i H → SqT K H a xs ∧ SqT K H b ys)
    (hs : ∀ (i : Nat) (x y : V) (T : Addr) (H : Hp), xs[i]? = some x → ys[i]? = some y → Pv i H → H T = none → g (.ref T) (wipe σ vs) (upd H T (.tup [x, y])) fun σ2 H2 => wipe σ2 vs = wipe σ vs ∧ tt σ2 H2 fun b H3 =>
      if b = true then tk σ2 H3 fun y H4 => tv σ2 H4 fun z H5 => ∃ kvs k, y = kV k ∧ H5 D = some (.dK kvs) ∧ kvs.length < sizeLine ∧ Pv (i + 1) (upd H5 D (.dK (putK kvs k z))) else Pv (i + 1) H3) (hd : ∀ H, Pv xs.length H → Qd H) :
    ∃ W : Nat → Nat → Hp → Prop, (∃ m, W 0 m (upd H1 D (.dK []))) ∧ ∀ i m H, W i m H →
      ((RZ.ItzT K a b).stop i H ∧ Qd H) ∨ ((RZ.ItzT K a b).go i H ∧ ∃ Nx : Hp → Prop, (∀ H', Nx H' → ∃ m', m' < m ∧ W (i + 1) m' H') ∧ ∀ x H', (RZ.ItzT K a b).yld i H x H' → g x (wipe σ vs) H' fun σ2 H2 => wipe σ2 vs = wipe σ vs ∧ tt σ2 H2 fun b H3 =>
        if b = true then tk σ2 H3 fun y H4 => tv σ2 H4 fun z H5 => ∃ kvs k, y = kV k ∧ H5 D = some (.dK kvs) ∧ kvs.length < sizeLine ∧ Nx (upd H5 D (.dK (putK kvs k z))) else Nx H3) := by
  refine ⟨fun i m H => m = xs.length - i ∧ i ≤ xs.length ∧ Pv i H, ⟨xs.length, rfl, Nat.zero_le _, h0⟩, ?_⟩
  rintro i m H ⟨rfl, hi, p⟩
  obtain ⟨qx, qy⟩ := hq i H p
  by_cases hlt : i < xs.length
  · have hx : xs[i]? = some xs[i] := List.getElem?_eq_getElem hlt
    have hlt2 : i < ys.length := by omega
    have hy : ys[i]? = some ys[i] := List.getElem?_eq_getElem hlt2
    refine .inr ⟨⟨xs, ys, _, _, qx, qy, hx, hy⟩, Pv (i + 1), fun H' p' => ⟨xs.length - (i + 1), by omega, rfl, hlt, p'⟩, fun v H' y => ?_⟩
    obtain ⟨T, x', y', rfl, hT, rfl, f1, f2⟩ := y
    exact hs i x' y' T H (f1 xs qx) (f2 ys qy) p hT
  · have e : i = xs.length := by omega
    subst e
    exact .inl ⟨⟨xs, ys, qx, qy, Or.inl (Nat.le_refl _)⟩, hd H p⟩
section
variable {P : Program} {w : World} {K : PySem.W.Frag} {mg : Str → Option Value} {base : Heap} {f C CT : Addr} {fd : FuncData}
/-- a dict by names -/
def dctO (l : List Str) (g : Str → V) : HO := .dK (l.map fun x => ((Sum.inr x : Key), g x))
/-- a credit as a share of a ride -/
def rt (c : Int) : Rat := Rat.divInt c 840
theorem nin_take {xs : List Str} (nd : xs.Nodup) {i : Nat} {z : Str} (h : xs[i]? = some z) : z ∉ xs.take i := fun hm => by
  obtain ⟨j, hj, e⟩ := List.mem_iff_getElem.mp hm
  rw [List.getElem_take] at e
  rw [List.length_take] at hj
  have e3 : xs[j]? = xs[i]? := by rw [h, List.getElem?_eq_getElem (by omega), e]
  have := (List.getElem?_inj (by omega) nd).mp e3
  omega
theorem map_ne {l : List Str} {z : Str} (h : z ∉ l) {f g : Str → V} (e : ∀ x, x ≠ z → f x = g x) : (l.map fun x => ((Sum.inr x : Key), f x)) = l.map fun x => ((Sum.inr x : Key), g x) :=
  List.map_congr_left fun x hx => by rw [e x fun q => h (q ▸ hx)]
def spSt (C CT : Addr) : Sp := fun vs H Q _ => ∃ (tu r ot hd kp ps : Addr) (xs : List Str) (g : Int) (c : Str → Int), vs = [.ref tu] ∧ Tr CT H tu r hd kp ps ∧ LeastR H r ot xs g ∧ Crd H hd xs c ∧
  ∀ (D : Addr) (H' : Hp) (ad : Str → Addr), Same H H' → H D = none → H' D = some (dctO xs fun x => .ref (ad x)) → (∀ x ∈ xs, Sh C H' (ad x) (pr (rt (c x)))) → Q (.ref D) H'
theorem ok_st (F : Dn K d_Turns_stands f fd) (b2 : Bl2 mg) (T : ClT K CT) (gp : ∃ t, mg "RIDE_PARTS" = some (.int 840 t)) (MS : MakS P w K mg base C) : FnOk P w K mg base CX0 4 f fd ["self"] (spSt C CT) := by
  refine F.ok sc_Turns_stands (fun vs H Q E h => ?_) (fun cdv A outer s H vs Q E hr h => ?_)
  · obtain ⟨tu, r, ot, hd, kp, ps, xs, g, c, rfl, _⟩ := h
    rfl
  · obtain ⟨tu, r, ot, hd, kp, ps, xs, g, c, rfl, ⟨dx, htu⟩, lr, hc, hQ⟩ := h
    obtain ⟨hrr, hot, ox, g0, g1⟩ := id lr
    obtain ⟨t, gp⟩ := gp
    have l8 := ox.l8
    refine ⟨_, PSs.nox (pss_one (ps_ret (pe_dc (own := [("name", 1), ("parts", 2)]) (g := gTup K 2 (gCons (gName 1) (gCons (gName 2) gNil))) (tt := tYes) rfl sc_Turns_stands.nd (RZ.pi_zipA rfl b2.zip (pa_cons (pe_ix ix_tup (pe_fld (pv 0) rfl) pe_int (fun _ _ => rfl)) (pa_cons (pe_fld (pv 0) rfl) pa_nil)))
      (blkOk_by (N := N_Turns_stands) (sc := defScope s_Turns_stands) (by decide +kernel)) (fun _ _ _ _ _ => pg_tup rfl (pgs_cons (pg_name (i := 1) sc_Turns_stands.nd rfl (.inl rfl)) (pgs_cons (pg_name (i := 2) sc_Turns_stands.nd rfl (.inl rfl)) pgs_nil))) (fun _ _ _ _ _ => pts_nil)
      (fun _ _ _ _ _ => pv 1) (fun _ _ _ _ _ => pe_mk MS hr (by decide) rfl (pa_cons (pv 2) (pa_cons (pe_glob (v := .int 840) rfl gp ⟨t, rfl⟩) pa_nil)))))), ?_⟩
    refine ⟨_, rfl, tu, CT, dx, _, _, rfl, htu, T.cl, T.nr, tr_rule _ _ _ _, r, _, _, _, rfl, rfl, SqT.of hrr, rfl, _, rfl, tu, CT, dx, _, _, rfl, htu, T.cl, T.nh, tr_held _ _ _ _, ot, hd, _, _, rfl, .inr ⟨SqT.of hot, SqT.of hc, fun D hD => ?_⟩⟩
    refine dc_zipT (by simp) (fun i H2 => ∃ ad : Str → Addr, H2 D = some (dctO (xs.take i) fun x => .ref (ad x)) ∧ Same H H2 ∧ ∀ x ∈ xs.take i, Sh C H2 (ad x) (pr (rt (c x))))
      ⟨fun _ => 0, upd_same, same_new hD, fun x hx => by simp at hx⟩ (fun i H2 ⟨_, _, sm, _⟩ => ⟨SqT.of (sm _ _ hot), SqT.of (sm _ _ hc)⟩) ?_ ?_
    · rintro i x y Tp H2 hx hy ⟨ad, hdd, sm, hval⟩ hT
      have hi' : i < xs.length := by
        have := (List.getElem?_eq_some_iff.mp hx).1
        simpa using this
      rw [List.getElem?_map] at hx hy
      obtain ⟨z, hz, rfl⟩ := Option.map_eq_some_iff.mp hx
      rw [hz] at hy
      cases hy
      have nz := nin_take ox.nd hz
      have et : xs.take (i + 1) = xs.take i ++ [z] := by rw [List.take_succ, hz]; rfl
      have sT := same_new (o := .tup [V.str z, V.int (c z)]) hT
      refine ⟨Tp, _, rfl, SqT.of upd_same, rfl, _, _, rfl, _, _, rfl, rfl, rfl, ?_⟩
      refine ⟨_, rfl, _, rfl, ?_⟩
      intro q dq nq nd ne
      refine mk_in (n := 10) nq nd (by decide) (by decide) (by decide) (by decide) fun H3 s3 hq => ⟨rfl, ?_⟩
      have s23 := sT.trans s3
      have hD3 := s23 _ _ hdd
      refine ⟨_, Sum.inr z, rfl, hD3, ?_, fun x => if x = z then q else ad x, ?_, ?_, ?_⟩
      · rw [List.length_map, List.length_take]
        exact Nat.lt_of_lt_of_le (by omega : min i xs.length < 64) (by decide)
      · rw [upd_same, et]
        have e1 : (xs.take i).map (fun x => ((Sum.inr x : Key), V.ref (ad x))) = (xs.take i).map fun x => ((Sum.inr x : Key), V.ref (if x = z then q else ad x)) := map_ne nz fun x n => by rw [if_neg n]
        unfold dctO
        rw [e1]
        have e2 := DQ.put_new (fun x => V.ref (if x = z then q else ad x)) nz
        rw [if_pos rfl] at e2
        rw [e2]
      · intro a o e
        rw [upd_ne (ne_of_none e hD)]
        exact s23 a o (sm a o e)
      · have keep : ∀ {p : Addr} {v : Int × Int} {o : HO}, Sh C H3 p v → Sh C (upd H3 D o) p v := fun {p v o} ⟨dp, hp⟩ => ⟨dp, by
          rw [upd_ne (fun e => by rw [e, hD3] at hp; cases hp)]
          exact hp⟩
        intro x hx
        rw [et] at hx
        rcases List.mem_append.mp hx with hx | hx
        · have n : x ≠ z := fun e => nz (e ▸ hx)
          show Sh C _ (if x = z then q else ad x) _
          rw [if_neg n]
          exact keep ((hval x hx).keep s23)
        · rw [List.mem_singleton] at hx
          show Sh C _ (if x = z then q else ad x) _
          rw [hx, if_pos rfl]
          exact keep hq
    · rintro H2 ⟨ad, hdd, sm, hval⟩
      rw [List.length_map, List.take_length] at hdd hval
      exact hQ D H2 ad sm hD hdd hval
def spDr (CT : Addr) : Sp := fun vs H Q _ => ∃ (tu r ot hd kp ps : Addr) (xs past : List Str) (g : Int), vs = [.ref tu] ∧ Tr CT H tu r hd kp ps ∧ LeastR H r ot xs g ∧ H ps = some (.lst (past.map V.str)) ∧
  ∀ (D : Addr) (H' : Hp), Same H H' → H D = none → H' D = some (dctO xs fun x => .int (past.count x : Nat)) → Q (.ref D) H'
theorem ok_dr (F : Dn K d_Turns_drives f fd) (T : ClT K CT) : FnOk P w K mg base CX0 1 f fd ["self"] (spDr CT) := by
  refine F.ok sc_Turns_drives (fun vs H Q E h => ?_) (fun cdv A outer s H vs Q E hr h => ?_)
  · obtain ⟨tu, r, ot, hd, kp, ps, xs, past, g, rfl, _⟩ := h
    rfl
  · obtain ⟨tu, r, ot, hd, kp, ps, xs, past, g, rfl, ⟨dx, htu⟩, lr, hps, hQ⟩ := h
    obtain ⟨hrr, hot, ox, g0, g1⟩ := id lr
    have l8 := ox.l8
    refine ⟨_, PSs.nox (pss_one (ps_ret (pe_dc (own := [("name", 1)]) (g := gName 1) (tt := tYes) (tv := tBM K "list" (CS.rCntS K) (tFld K (tVar 0) "past") (tCons (tVar 1) tNil)) rfl sc_Turns_drives.nd (pi_tup (pe_ix ix_tup (pe_fld (pv 0) rfl) pe_int (fun _ _ => rfl)))
      (blkOk_by (N := N_Turns_drives) (sc := defScope s_Turns_drives) (by decide +kernel)) (fun _ _ _ _ _ => pg_name (i := 1) sc_Turns_drives.nd rfl (.inl rfl)) (fun _ _ _ _ _ => pts_nil)
      (fun _ _ _ _ _ => pv 1) (fun _ _ _ _ _ => pe_bm (r := CS.rCntS K) PySem.F.plainAttrs_list PySem.F.slot_list_count PySem.F.type_list_count CS.mt_scount (pe_fld (pv 0) rfl) (pa_cons (pv 1) pa_nil))))), ?_⟩
    refine ⟨_, rfl, tu, CT, dx, _, _, rfl, htu, T.cl, T.nr, tr_rule _ _ _ _, r, _, _, _, rfl, rfl, SqT.of hrr, rfl, ot, rfl, ⟨_, SqT.of hot⟩, fun D hD => ?_⟩
    refine dc_tup (fun i H2 => H2 D = some (dctO (xs.take i) fun x => .int (past.count x : Nat)) ∧ Same H H2) ⟨upd_same, same_new hD⟩ (fun i H2 _ z => SqT.of (z.2 _ _ hot)) ?_ ?_
    · rintro i x H2 hx ⟨hdd, sm⟩
      have hi' : i < xs.length := by
        have := (List.getElem?_eq_some_iff.mp hx).1
        simpa using this
      rw [List.getElem?_map] at hx
      obtain ⟨z, hz, rfl⟩ := Option.map_eq_some_iff.mp hx
      have nz := nin_take ox.nd hz
      have et : xs.take (i + 1) = xs.take i ++ [z] := by rw [List.take_succ, hz]; rfl
      refine ⟨rfl, ?_⟩
      refine ⟨_, rfl, _, rfl, tu, CT, dx, _, _, rfl, sm _ _ htu, T.cl, T.np, tr_past _ _ _ _, Or.inl ⟨rfl, _, SqL.of (sm _ _ hps)⟩, _, rfl, ps, past, z, rfl, rfl, SqL.of (sm _ _ hps), ?_⟩
      refine ⟨_, Sum.inr z, rfl, hdd, ?_, ?_, ?_⟩
      · rw [List.length_map, List.length_take]
        exact Nat.lt_of_lt_of_le (by omega : min i xs.length < 64) (by decide)
      · rw [upd_same, et]
        exact congrArg (fun l => some (HO.dK l)) (DQ.put_new (fun x => V.int (past.count x : Nat)) nz)
      · intro a o e
        rw [upd_ne (ne_of_none e hD)]
        exact sm a o e
    · rintro H2 ⟨hdd, sm⟩
      rw [List.length_map, List.take_length] at hdd
      exact hQ D H2 sm hD hdd
def spLen (CT : Addr) : Sp := fun vs H Q _ => ∃ (tu r hd kp ps : Addr) (past : List V), vs = [.ref tu] ∧ Tr CT H tu r hd kp ps ∧ H ps = some (.lst past) ∧ Q (.int (past.length : Nat)) H
theorem ok_len (F : Dn K d_Turns_len f fd) (b : Bl mg) (T : ClT K CT) : FnOk P w K mg base CX0 1 f fd ["self"] (spLen CT) := by
  refine F.ok sc_Turns_len (fun vs H Q E h => ?_) (fun cdv A outer s H vs Q E hr h => ?_)
  · obtain ⟨tu, r, hd, kp, ps, past, rfl, _⟩ := h
    rfl
  · obtain ⟨tu, r, hd, kp, ps, past, rfl, ⟨dx, htu⟩, hps, hQ⟩ := h
    refine ⟨_, PSs.nox (pss_one (ps_ret (pe_callB call_len_seq rfl b.len boot_len (pa_cons (pe_fld (pv 0) rfl) pa_nil)))), ?_⟩
    exact ⟨_, rfl, tu, CT, dx, _, _, rfl, htu, T.cl, T.np, tr_past _ _ _ _, ps, _, rfl, .inl (SqL.of hps), hQ⟩
end
end K40
set_option Elab.async false
set_option linter.all false
set_option maxRecDepth 100000
set_option maxHeartbeats 4000000
namespace K40
open PySem PySem.Spec PyProof.Rows L2
open C8 (Cal Mak Met pe_c pe_mk pe_mt pe_mt0)
open KM (pr)
section
variable {P : Program} {w : World} {K : PySem.W.Frag} {mg : Str → Option Value} {base : Heap} {f C CT : Addr} {fd : FuncData}
def spMem (CT : Addr) : Sp := fun vs H Q _ => ∃ (tu r ot hd kp ps : Addr) (xs : List Str) (g : Int), vs = [.ref tu] ∧ Tr CT H tu r hd kp ps ∧ LeastR H r ot xs g ∧ Q (.ref kp) H
theorem ok_mem (F : Dn K d_Turns_memory f fd) (T : ClT K CT) : FnOk P w K mg base CX0 1 f fd ["self"] (spMem CT) := by
  refine F.ok sc_Turns_memory (fun vs H Q E h => ?_) (fun cdv A outer s H vs Q E hr h => ?_)
  · obtain ⟨tu, r, ot, hd, kp, ps, xs, g, rfl, _⟩ := h
    rfl
  · obtain ⟨tu, r, ot, hd, kp, ps, xs, g, rfl, ⟨dx, htu⟩, lr, hQ⟩ := h
    obtain ⟨hrr, hot, ox, g0, g1⟩ := id lr
    refine ⟨_, PSs.nox (pss_cons (ps_if (pt_cmpR op_eq (pe_ix ix_tup (pe_fld (pv 0) rfl) pe_int (fun _ _ => rfl)) pe_str (nomark _)) pss_never pss_nil) (pss_one (ps_ret (pe_fld (pv 0) rfl)))), ?_⟩
    refine ⟨_, rfl, tu, CT, dx, _, _, rfl, htu, T.cl, T.nr, tr_rule _ _ _ _, r, _, _, _, rfl, rfl, SqT.of hrr, rfl, rfl, _, rfl, ?_⟩
    rw [no_least]
    exact iteF ⟨_, rfl, tu, CT, dx, _, _, rfl, htu, T.cl, T.nk, tr_kept _ _ _ _, hQ⟩
end
end K40
set_option Elab.async false
set_option linter.all false
set_option maxRecDepth 100000
set_option maxHeartbeats 4000000
/-! ts.index(x) of a tuple of texts -/
namespace TI
open PySem PySem.Spec PyProof.Rows L2
def rIxOf (K : PySem.W.Frag) : V → List V → Hp → VK → Prop := fun x xs H Q => ∃ (a : Addr) (ys : List Str) (k : Str), x = .ref a ∧ xs = [.str k] ∧ SqT K H a (ys.map V.str) ∧ k ∈ ys ∧ Q (.int (ys.idxOf k : Nat)) H
theorem mt_tindex {X : Cx} : MtR X "tuple.index" (rIxOf X.K) := by
  intro pins s σ H x xs v us Q I rx rxs h
  obtain ⟨a, ys, k, rfl, rfl, hs, hk, q⟩ := h
  cases rx
  obtain ⟨u, rfl, ru⟩ := rxs.one
  obtain ⟨t, rfl⟩ := ru
  obtain ⟨its, rv, it, hlen⟩ := I.tuple hs
  exact PySem.SeqAt.tuple_index_strs (vs := its) it (Vals.strs rv) hk ⟨.int _, H, I.tok _, ⟨_, rfl⟩, q⟩
/-- len of a list or a tuple, where the reading must be named -/
def rLen (K : PySem.W.Frag) : List V → Hp → VK → Prop := fun xs H Q => ∃ (p : Addr) (ys : List V), xs = [V.ref p] ∧ (SqL K H p ys ∨ SqT K H p ys) ∧ Q (V.int (ys.length : Nat)) H
theorem call_lenK {X : Cx} : CallR X (.builtin "len") (rLen X.K) := call_len_seq
end TI
set_option Elab.async false
set_option linter.all false
set_option maxRecDepth 100000
set_option maxHeartbeats 4000000
/-! GL: promises of defs that are asked only where no repr is under way (A.guards = some []); what such a def may do more: repr of lists and tuples. -/
namespace GL
open PySem PySem.Spec PyProof.Rows L2
/-- a def's promise, where no repr is under way -/
structure FnG (P : Program) (w : World) (K : PySem.W.Frag) (mg : Str → Option Value) (base : Heap) (k : Nat) (f : Addr) (fd : FuncData) (ps : List Str) (sp : Sp) : Prop where
  len : ∀ vs H Q E, sp vs H Q E → vs.length = ps.length
  run : ∀ (A : Around) (outer : List Env) (s : Shared) (H : Hp) (args : Args) (us : List Value) (vs : List V) (Q : VK) (E : XK), A.guards = some [] → Room k A → Env0 P w K mg base A outer s H → BindsTo s fd args (ps.zip us) → Vals vs us → sp vs H Q E →
    codeAny (model P w) A (.call (.ref f) args) (CR CX0 outer P w H s Q E) s
section
variable {P : Program} {w : World} {K : PySem.W.Frag} {mg : Str → Option Value} {base : Heap} {k : Nat} {f : Addr} {fd : FuncData} {ps : List Str} {sp : Sp}
theorem FnG.of (F : FnOk P w K mg base CX0 k f fd ps sp) : FnG P w K mg base k f fd ps sp := ⟨F.len, fun A outer s H args us vs Q E _ => F.run A outer s H args us vs Q E⟩
/-- by its body -/
theorem okG {x qual : Str} {params : Arguments} {body : List Stmt} {scope : Scope} {dvs : List V} {kws : List (Str × V)} {N : List Str} (F : FunD K x qual params body scope dvs kws f fd) (S : FnScope N ps scope) (len : ∀ vs H Q E, sp vs H Q E → vs.length = ps.length)
    (hbody : ∀ (cdv : Value) (A : Around) (outer : List Env) (s : Shared) (H : Hp) (vs : List V) (Q : VK) (E : XK), A.guards = some [] → Room k (A.deeper (envOfC qual scope s.heap.objs.size f cdv)) → sp vs H Q E →
      ∃ t, PSs (cxOf CX0 P w K mg base N qual scope f cdv A outer s H E) body t ∧ t { nx := fun _ H' => Q .non H', rt := Q } (start N vs) H) : FnG P w K mg base (k + 1) f fd ps sp := by
  refine ⟨len, fun A outer s H args us vs Q E hg hr e0 hb r hsp => ?_⟩
  obtain ⟨oc, od, dV, kV, doc, pm, an, cdv, ct, osl, hfd, lk, hcd, _, _⟩ := F.ex
  subst hfd
  obtain ⟨t, ht, hq⟩ := hbody cdv A outer s H vs Q E hg (hr.deeper _) hsp
  have keep : ∀ b o, base.get? b = some o → s.heap.get? b = some o := fun b o e => (e0.bs b o e).1
  have KX : K.In s.heap := e0.mod.kin.keeps keep
  refine codeAny_call_function hr.depth (KX _ _ lk) rfl S.co S.gen rfl (PySem.W.codeRec_of KX hcd) (hb _ _ _ _ (wpAny_newFunctionEnv_cells S.kind (fun y hy => ?_) fun env he s1 x => ?_))
  · exact (S.par y.1 (List.of_mem_zip hy).1).imp id fun q => ⟨q, PySem.W.cellsFrom_some _ _ _ (.inl q)⟩
  · subst he
    refine ⟨(e0.mod.nolimit.keeps keep).keeps x.toInCall.keep, codeAny_func (wpAny_mono (ht.run [] s1 (start N vs) H _ (inv_start S hr.hd e0 (len _ _ _ _ hsp) r x) hq) (fun fl s' hs => ?_) fun e s' hs => hs)⟩
    match fl, hs with
    | .ret u, ⟨v, σ', H', J, rv, q⟩ => exact ⟨v, H', J.os, J.bare, J.base, J.hok, rv, q⟩
    | .next, ⟨σ', H', J, q⟩ => exact ⟨.non, H', J.os, J.bare, J.base, J.hok, rfl, q⟩
    | .brk, ⟨_, _, _, q⟩ => exact q.elim
    | .cont, ⟨_, _, _, q⟩ => exact q.elim
end
/-- the package of a def of this kind -/
structure CalG (P : Program) (w : World) (K : PySem.W.Frag) (mg : Str → Option Value) (base : Heap) (k : Nat) (x : Str) (sp : Sp) (dvs : List V) : Prop where
  ex : ∃ (f : Addr) (fd : FuncData) (ps : List Str) (ds : List Value), FnG P w K mg base k f fd ps sp ∧ mg x = some (.ref f) ∧ PySem.W.keepIn K (.ref f) = true ∧ Binds K fd ps ds ∧ Vals dvs ds
section
variable {X : Cx} {k j : Nat} {x : Str} {sp : Sp} {dvs : List V} {e : Expr} {es : List Expr} {t : TA} {p pos : Pos}
theorem pe_cG (c : CalG X.prog X.w X.K X.mg X.base k x sp dvs) (hgd : X.A.guards = some []) (hr : Room j X.A) (hk : k ≤ j) (hg : Gl X x) (ha : PA X (e :: es) t)
    (hdb : (x == ("__debug__" : Str)) = false := by decide) (he : starEach (e :: es) X.env = (false, eval e X.env) :: starEach es X.env := by rfl) (hpl : (backTo pos (starEach es X.env)).any (·.1) = false := by rfl) :
    PE X (.Call (.Name x p) (e :: es) [] pos) (tCall sp dvs E0 t) := by
  obtain ⟨f, fd, ps, ds, F, hm, kp, b, d⟩ := c.ex
  refine ⟨fun pins s σ H Q I h => wpAny_Call_Name_kw (ld_glob I hg hm (PySem.W.callWith_K (h₀ := X.base) I.ok.mod.kin kp (thn (ha.run pos pins s σ H _ I h) fun us s1 ⟨vs, H1, I1, r, q⟩ => ⟨I1.kIn, ?_⟩) he hpl) hdb)⟩
  have r2 := r.append d
  refine wpAny_call (codeAny_mono (F.run X.A X.stack s1 H1 ⟨us, []⟩ (us ++ ds) (vs ++ dvs) Q E0 hgd (hr.mono hk) I1.env0 (b s1 us I1.kIn (r2.length.symm.trans (F.len _ _ _ _ q))) r2 q) fun r s' hq => ?_)
  match r, hq with
  | .error _, hq => exact hq.elim
  | .ok (.ret u), hq => exact I1.after hq
  | .ok .next, hq => exact hq.elim
  | .ok .brk, hq => exact hq.elim
  | .ok .cont, hq => exact hq.elim
/-- repr of what is flat, of lists and tuples -/
def rRepr (K : PySem.W.Frag) : List V → Hp → VK → Prop := fun xs H Q => ∃ (y : V) (d : PyData), xs = [y] ∧ Dp K H y d ∧ d.showable = true ∧ d.hasDict = false ∧ d.depth ≤ 60 ∧ d.shown.length ≤ sizeLine ∧ Q (.str d.shown) H
theorem call_reprD (hgd : X.A.guards = some []) (hu : X.A.units + 64 < cLine) : CallR X (.builtin "repr") (rRepr X.K) := by
  intro pins s σ H xs us Q I r h
  obtain ⟨y, d, rfl, hd, hs, hn, hdp, hsz, q⟩ := h
  obtain ⟨u, rfl, ru⟩ := r.one
  obtain ⟨as, rd⟩ := Dp.reads I d y u hd ru
  have fin : ∀ h' tk t, (∀ b o, s.heap.get? b = some o → h'.get? b = some o) → EP X pins σ Q (.str d.shown t) { s with heap := h', toks := tk } := fun h' tk t hk => ⟨.str d.shown, H, I.kept hk, ⟨t, rfl⟩, q⟩
  cases hd with
  | non => cases ru; exact PySem.P.repr_of_none (fin s.heap _ _ fun _ _ e => e)
  | bl b => cases ru; exact PySem.P.repr_of_bool (fin s.heap _ _ fun _ _ e => e)
  | int i =>
    obtain ⟨t, rfl⟩ := ru
    exact PySem.P.repr_of_int (of_decide_eq_true hs) (fin s.heap _ _ fun _ _ e => e)
  | str z =>
    obtain ⟨t, rfl⟩ := ru
    exact PySem.P.repr_of_str (fin s.heap _ _ fun _ _ e => e) hsz
  | lst _ _ =>
    cases ru
    exact repr_of_reads' rd hs (fun z => absurd z (by rw [hn]; decide)) hgd (by omega) (fun _ _ e => e) (fun h' u tk hk => fin h' tk u hk) hsz
  | tup _ _ =>
    cases ru
    exact repr_of_reads' rd hs (fun z => absurd z (by rw [hn]; decide)) hgd (by omega) (fun _ _ e => e) (fun h' u tk hk => fin h' tk u hk) hsz
end
end GL
set_option Elab.async false
set_option linter.all false
set_option maxRecDepth 100000
set_option maxHeartbeats 4000000
namespace K40
open PySem PySem.Spec PyProof.Rows L2
open C8 (Cal Mak Met pe_c pe_mk pe_mt pe_mt0)
theorem take_one {α : Type} {l : List α} {i : Nat} {x : α} (h : l[i]? = some x) : l.take (i + 1) = l.take i ++ [x] := by rw [List.take_succ, h]; rfl
theorem line_of {n : Nat} (h : n ≤ 100000) : n ≤ sizeLine := by have := sizeLine_eq; omega
theorem line_lt {n : Nat} (h : n ≤ 100000) : n < sizeLine := by have := sizeLine_eq; omega
/-- lists of names stand in a list -/
def LL (H : Hp) (a : Addr) (qs : List (Addr × List Str)) : Prop := H a = some (.lst (qs.map fun p => V.ref p.1)) ∧ ∀ p ∈ qs, H p.1 = some (.lst (p.2.map V.str))
theorem LL.same {H H' : Hp} {a : Addr} {qs : List (Addr × List Str)} (h : LL H a qs) (s : Same H H') : LL H' a qs := ⟨s _ _ h.1, fun p hp => s _ _ (h.2 p hp)⟩
/-- they are new since H0, and apart -/
def DaysL (H0 H : Hp) (a : Addr) (qs : List (Addr × List Str)) : Prop := H a = some (.lst (qs.map fun p => V.ref p.1)) ∧ (∀ p ∈ qs, H p.1 = some (.lst (p.2.map V.str)) ∧ H0 p.1 = none ∧ p.1 ≠ a) ∧ (qs.map (·.1)).Nodup
/-- one list behind another, their places apart -/
theorem apart_app {H : Hp} {qs rs : List (Addr × List Str)} (h1 : (qs.map (·.1)).Nodup) (h2 : (rs.map (·.1)).Nodup) (a : ∀ p ∈ qs, ∃ o, H p.1 = some o) (b : ∀ p ∈ rs, H p.1 = none) : ((qs ++ rs).map (·.1)).Nodup := by
  rw [List.map_append, List.nodup_append]
  refine ⟨h1, h2, fun x hx y hy e => ?_⟩
  obtain ⟨p, hp, rfl⟩ := List.mem_map.mp hx
  obtain ⟨q, hq, rfl⟩ := List.mem_map.mp hy
  obtain ⟨o, h⟩ := a p hp
  rw [e, b q hq] at h
  cases h
section
variable {X : Cx}
/-- a thing not in a tuple of data -/
def rNotInT (K : PySem.W.Frag) : R2 := fun x y H Q => ∃ d ds, Dp K H x d ∧ Dp K H y (.tuple ds) ∧ SeqAt.shaped d = true ∧ SeqAt.shaped (.tuple ds) = true ∧ Q (.bl (!ds.any fun z => PyData.eqv z d)) H
theorem op_notInT (hu : X.A.units + 65 < cLine) : OpR X (compareOp .NotIn) (rNotInT X.K) := by
  intro pins s σ H x y v u Q I rx ry h
  obtain ⟨d, ds, hd, he, sd, se, q⟩ := h
  obtain ⟨as, r1⟩ := Dp.reads I d x v hd rx
  obtain ⟨bs, r2⟩ := Dp.reads I (.tuple ds) y u he ry
  exact SeqAt.notIn_tuple_reads r2 r1 (SeqAt.canLay_of_shaped se) (SeqAt.canLay_of_shaped sd) (room_in_shaped sd hu) ⟨.bl _, H, I, rfl, q⟩
/-- list(x) of a list -/
def rListL (K : PySem.W.Frag) : List V → Hp → VK → Prop := fun xs H Q => ∃ p ys, xs = [.ref p] ∧ (SqL K H p ys ∨ SqT K H p ys) ∧ ∀ l, H l = none → Q (.ref l) (upd H l (.lst ys))
theorem call_listL : CallR X (.type "list") (rListL X.K) := call_list_of
end
section
variable {P : Program} {w : World} {K : PySem.W.Frag} {mg : Str → Option Value} {base : Heap} {f C CT : Addr} {fd : FuncData}
def spRo : Sp := fun vs H Q _ => ∃ (a p : Addr) (ys : List Str) (m : Nat), vs = [.ref a] ∧ H a = some (.lst (List.replicate m (.ref p))) ∧ H p = some (.lst (ys.map V.str)) ∧ ys.length ≤ 8 ∧ m ≤ 1000 ∧
  ∀ (t : Addr) (H' : Hp) (qs : List (Addr × List Str)), Same H H' → H t = none → DaysL H H' t qs → qs.map (·.2) = List.replicate m ys → Q (.ref t) H'
theorem ok_ro (F : Dn K d_row_of f fd) (b : Bl mg) : FnOk P w K mg base CX0 1 f fd ["sets"] spRo := by
  refine F.ok sc_row_of (fun vs H Q E h => ?_) (fun cdv A outer s H vs Q E hr h => ?_)
  · obtain ⟨a, p, ys, m, rfl, _⟩ := h
    rfl
  · obtain ⟨a, p, ys, m, rfl, ha, hp, y8, m9, hQ⟩ := h
    refine ⟨_, PSs.nox (pss_one (ps_ret (pe_lc (own := [("names", 1)]) (g := gName 1) (tt := tYes) rfl sc_row_of.nd (pi_list (pv 0)) (blkOk_by (N := N_row_of) (sc := defScope s_row_of) (by decide +kernel))
          (fun _ _ _ _ _ => pg_name (i := 1) sc_row_of.nd rfl (Or.inl rfl)) (fun _ _ _ _ _ => pts_nil) (fun _ _ _ _ _ => pe_callTy (r := rListL K) call_listL rfl b.list boot_list (pa_cons (pv 1) pa_nil))))), ?_⟩
    refine ⟨_, rfl, a, rfl, ⟨_, SqL.of ha⟩, fun D hD => lc_list (fun j H' => ∃ qs : List (Addr × List Str), DaysL H H' D qs ∧ qs.map (·.2) = List.replicate j ys ∧ Same H H') ⟨[], ⟨upd_same, (fun p hp => nomatch hp), List.nodup_nil⟩, rfl, same_new hD⟩ (fun j H' _ z => by obtain ⟨_, _, _, s3⟩ := z; exact SqL.of (s3 _ _ ha)) ?_ ?_⟩
    · rintro j v H3 hy ⟨qs, hq, hqs, s3⟩
      have hjl : j < m := by
        have := (List.getElem?_eq_some_iff.mp hy).1
        rwa [List.length_replicate] at this
      have ev : v = .ref p := List.eq_of_mem_replicate (List.mem_of_getElem? hy)
      subst ev
      have hpt := s3 _ _ hp
      have ql : qs.length ≤ 1000 := by
        have := congrArg List.length hqs
        rw [List.length_map, List.length_replicate] at this
        omega
      refine ⟨rfl, ?_⟩
      refine ⟨_, rfl, p, _, rfl, .inl (SqL.of hpt), fun l fl => ?_⟩
      have sl := same_new (o := .lst (ys.map V.str)) fl
      have hD3 := sl _ _ hq.1
      have nlD : l ≠ D := (ne_of_none hq.1 fl).symm
      have fl0 : H l = none := s3.free fl
      refine ⟨_, hD3, by rw [List.length_map]; exact line_lt (by omega), qs ++ [(l, ys)], ⟨?_, fun q hm => ?_, apart_app hq.2.2 (by simp) (fun x hx => ⟨_, (hq.2.1 x hx).1⟩) (fun x hx => by rw [List.mem_singleton] at hx; subst hx; exact fl)⟩, ?_, fun b o e => ?_⟩
      · rw [upd_same, List.map_append]
        rfl
      · rcases List.mem_append.mp hm with h | h
        · obtain ⟨h1, h2, h3⟩ := hq.2.1 q h
          exact ⟨by rw [upd_ne h3]; exact sl _ _ h1, h2, h3⟩
        · rw [List.mem_singleton] at h
          subst h
          exact ⟨by rw [upd_ne nlD, upd_same], fl0, nlD⟩
      · rw [List.map_append, hqs, List.replicate_succ']
        rfl
      · rw [upd_ne (ne_of_none e hD)]
        exact sl _ _ (s3 _ _ e)
    · rintro H3 ⟨qs, hq, hqs, s3⟩
      rw [List.length_replicate] at hqs
      exact hQ D H3 qs s3 hD hq hqs
/-- rows of days: looked at -/
def spAD : Sp := fun vs H Q _ => ∃ (ot dl : Addr) (xs : List Str) (qs : List (Addr × List Str)), vs = [.ref ot, .ref dl] ∧ H ot = some (.tup (xs.map V.str)) ∧ LL H dl qs ∧ (∀ q ∈ qs, ∀ y ∈ q.2, y ∈ xs) ∧ qs.length ≤ 200 ∧ ∀ H', Same H H' → Q (.bl true) H'
theorem nil_false : (!PyData.eqv (.list []) (.list [])) = false := by simp [PyData.eqv, PyData.eqvAll]
theorem ok_ad (F : Dn K d_l_are_days f fd) (bl : Bl mg) (blist : mg "list" = none) : FnOk P w K mg base CX0 1 f fd ["_law_order", "_law_days"] spAD := by
  refine F.ok sc_l_are_days (fun vs H Q E h => ?_) (fun cdv A outer s H vs Q E hr h => ?_)
  · obtain ⟨ot, dl, xs, qs, rfl, _⟩ := h
    rfl
  · obtain ⟨ot, dl, xs, qs, rfl, hot, hqs, sub, ql, hQ⟩ := h
    have hu64 : (A.deeper (envOfC d_l_are_days.qual d_l_are_days.scope s.heap.objs.size f cdv)).units + 64 < cLine := by have := hr.un; omega
    refine ⟨_, PSs.nox (pss_cons (ps_if (PW.pt (pw_or (pt_not (pt_val (pe_callB call_isi rfl bl.isi boot_isinstance (pa_cons (pv 1) (pa_cons (pe_bltn (v := .ty "list") rfl blist boot_list rfl) pa_nil)))))
        (pw_or1 (pt_cmpR op_gt (pe_callB call_len_seq rfl bl.len boot_len (pa_cons (pv 1) pa_nil)) pe_int (nomark _))))) pss_never pss_nil)
      (pss_cons (ps_for PassesOwn.never rfl (pi_list (pv 1)) (pg_name (i := 2) sc_l_are_days.nd rfl (.inl rfl))
        (pss_one (ps_if (PW.pt (pw_or (pt_not (pt_val (pe_callB call_isi rfl bl.isi boot_isinstance (pa_cons (pv 2) (pa_cons (pe_bltn (v := .ty "list") rfl blist boot_list rfl) pa_nil)))))
            (pw_or1 (pt_cmpR (op_neD hu64) (pe_lc (own := [("_law_one", 3)]) (g := gName 3) rfl sc_l_are_days.nd (pi_list (pv 2)) (blkOk_by (N := N_l_are_days) (sc := defScope s_l_are_days) (by decide +kernel))
              (fun _ _ _ _ _ => pg_name (i := 3) sc_l_are_days.nd rfl (Or.inl rfl)) (fun _ _ _ _ _ => pts_one (pt_cmpR (r := rIn K true) op_notIn_seq (pv 3) (pv 0) (by rfl))) (fun _ _ _ _ _ => pv 3)) (pe_lst pa_nil) (nomark _))))) pss_never pss_nil)))
      (pss_one (ps_ret pe_bl)))), ?_⟩
    refine ⟨_, rfl, _, _, _, _, true, rfl, ClsV.ty _, TyX.base (TyOf.lst hqs.1), kit_ty (by decide +kernel), true, rfl, iteF ?_⟩
    refine ⟨_, rfl, dl, _, rfl, .inl (SqL.of hqs.1), _, _, rfl, rfl, _, rfl, ?_⟩
    have z200 : decide ((200 : Int) < ((qs.map fun p => V.ref p.1).length : Nat)) = false := by
      rw [List.length_map]
      exact decide_eq_false (by omega)
    rw [z200]
    refine iteF ?_
    refine ⟨_, rfl, dl, rfl, ⟨_, SqL.of hqs.1⟩, for_list (K := K) (xs := qs.map fun p => V.ref p.1) (fun i σ H' => ∃ (v2 : Option V), σ = [some (.ref ot), some (.ref dl), v2, none] ∧ Same H H')
      ⟨none, rfl, Same.refl _⟩ (fun i σ H' _ z => by obtain ⟨_, _, sm⟩ := z; exact SqL.of (sm _ _ hqs.1)) ?_ ?_⟩
    · rintro i v σ H5 hi ⟨v2, rfl, s5⟩
      rw [List.getElem?_map] at hi
      obtain ⟨q, hq, rfl⟩ := Option.map_eq_some_iff.mp hi
      have hqm := List.mem_of_getElem? hq
      have hrd := s5 _ _ (hqs.2 q hqm)
      refine ⟨_, rfl, _, _, _, _, true, rfl, ClsV.ty _, TyX.base (TyOf.lst hrd), kit_ty (by decide +kernel), true, rfl, iteF ?_⟩
      refine ⟨_, rfl, q.1, rfl, ⟨_, SqL.of hrd⟩, fun D hD => lc_list (fun j H' => H' D = some (.lst []) ∧ Same H5 H') ⟨upd_same, same_new hD⟩ (fun j H' _ z => SqL.of (z.2 _ _ hrd)) ?_ ?_⟩
      · rintro j v H6 hj ⟨hdd, s6⟩
        rw [List.getElem?_map] at hj
        obtain ⟨z, hz, rfl⟩ := Option.map_eq_some_iff.mp hj
        refine ⟨rfl, ?_⟩
        refine ⟨_, rfl, _, rfl, ot, _, rfl, .inr (SqT.of (s6 _ _ (s5 _ _ hot))), rfl, flat_strs xs, _, rfl, ?_⟩
        rw [inV_strs, decide_eq_true (sub q hqm z (List.mem_of_getElem? hz))]
        exact iteF ⟨hdd, s6⟩
      rintro H6 ⟨hdd, s6⟩
      refine ⟨by show 0 ≤ sizeLine; decide, fun e fe => ?_⟩
      have se := same_new (o := .lst []) fe
      refine ⟨.list [], .list [], Dp.lst (SqL.of (se _ _ hdd)) .nil, Dp.lst (SqL.of upd_same) .nil, by decide, by decide, _, rfl, ?_⟩
      rw [nil_false]
      exact iteF ⟨_, rfl, (s5.trans s6).trans se⟩
    · rintro σ H5 ⟨v2, rfl, s5⟩
      exact hQ H5 s5
end
end K40
set_option Elab.async false
set_option linter.all false
set_option maxRecDepth 100000
set_option maxHeartbeats 4000000
/-! EXV: a caught exception that is kept behind its except clause: isinstance of it, its fields. -/
namespace EXV
open PySem PySem.Spec PyProof.Rows L2
/-- an exception object at a, of the class cls, with the dict d -/
def XcP (cls : Value) (d : Option Addr) (a : Addr) (h : Heap) : Prop := ∃ (oe : Obj) (vs : Array Value), h.get? a = some oe ∧ Zc cls d oe ∧ oe.data = .fields vs
def Xc (cls : Value) (d : Option Addr) (a : Addr) : HO := .ext (XcP cls d a)
theorem xc_ok {P : Program} {w : World} {H : Hp} {h : Heap} {a : Addr} {cls : Value} {d : Option Addr} {oe : Obj} {vs : Array Value} (g : h.get? a = some oe) (z : Zc cls d oe) (f : oe.data = .fields vs) : ObjOk P w H h a (Xc cls d a) :=
  ⟨⟨oe, vs, g, z, f⟩, ⟨oe, g⟩, fun h1 h2 ⟨u, v, g1, z1, f1⟩ k => ⟨u, v, k u g1, z1, f1⟩⟩
theorem xc_at {P : Program} {w : World} {H : Hp} {h : Heap} {a : Addr} {cls : Value} {d : Option Addr} (ok : HOk P w H h) (e : H a = some (Xc cls d a)) : XcP cls d a h := by
  have x : ObjOk P w H h a (.ext (XcP cls d a)) := ok a _ e
  exact x.1
theorem xc_lst {a b : Addr} {cls : Value} {d : Option Addr} {xs : List V} {H : Hp} (e : H a = some (Xc cls d a)) (e2 : H b = some (.lst xs)) : a ≠ b := fun z => by
  rw [z, e2] at e
  have e' : HO.lst xs = HO.ext (XcP cls d b) := Option.some.inj (z ▸ e)
  cases e'
section
variable {X : Cx} {pins : List (Addr × Obj)} {σ : L2.St} {H : Hp} {s : Shared}
theorem into_suite (I : Inv X pins σ H s) (a : Addr) : Inv (X.suite a (X.pn ++ pins)) [] σ H s where
  ok := I.ok.suite a (X.pn ++ pins)
  os := I.os
  bare := I.bare
  base := I.base
  loc := I.loc
  cell := I.cell
  free := I.free
  freeC := I.freeC
  pin := fun p hp => I.pin p (by simpa using hp)
  hok := I.hok
  len := I.len
theorem out_suite {a : Addr} {ps : List (Addr × Obj)} (I : Inv (X.suite a (X.pn ++ pins)) ps σ H s) (good : X.Ok) : Inv X pins σ H s where
  ok := good
  os := I.os
  bare := I.bare
  base := I.base
  loc := I.loc
  cell := I.cell
  free := I.free
  freeC := I.freeC
  pin := fun p hp => I.pin p (List.mem_append_left ps hp)
  hok := I.hok
  len := I.len
end
/-- what an except clause that keeps the exception wishes of the body: slot i is the clause's name -/
def wKeep (K : PySem.W.Frag) (c : Value) (i : Nat) (ts : Addr → Value → Option Addr → TS) (Wout : WX) (D : Ends) : WX := fun cls d σ H => ∃ b, PySem.W.exmOne K cls c = some b ∧
  (b = true → ∀ a, H a = none → ts a cls d { nx := fun σ' H' => D.nx (σ'.set i none) H', rt := D.rt, bk := fun σ' H' => D.bk (σ'.set i none) H', ct := fun σ' H' => D.ct (σ'.set i none) H' } (σ.set i (some (.ref a))) (upd H a (Xc cls d a))) ∧ (b = false → Wout cls d σ H)
section
variable {X : Cx} {x n : Str} {c : Value} {i : Nat} {body suite : List Stmt} {b₀ : Stmt} {np pos pos' : Pos} {tb : WX → TS} {ts : Addr → Value → Option Addr → TS} {Wout : WX}
theorem ps_try_keep (stk : X.stack = X.env :: X.outer) (frm : X.env.frame = some X.env.locals) (nod : X.N.Nodup) (at_ : X.N[i]? = some n) (kln : X.env.kindOf n = some .local) (nm : Names X x c) (out : Takes X Wout)
    (bdy : ∀ (W : WX) (pn : List (Addr × Obj)) (xe : Value → Shared → Prop), Takes (X.tr pn xe) W → PassesOwn (model X.prog X.w) X.A X.env xe → PSs (X.tr pn xe) body (tb W))
    (sui : ∀ (a : Addr) (cls : Value) (d : Option Addr) (pn : List (Addr × Obj)), PSs (X.suite a pn) (b₀ :: suite) (ts a cls d)) :
    PS X (.Try body [.ExceptHandler (some (.Name x np)) (some n) (b₀ :: suite) pos'] [] [] pos) (fun D σ H => tb (wKeep X.K c i ts Wout D) D σ H) := by
  refine ⟨fun pins s σ H D I h => ?_⟩
  have good := I.ok
  have frs2 : X.A.frames = some (X.env :: X.outer) := by rw [good.frames, stk]
  have isLoc : Loc X.env.scope n := .inl kln
  have start := (bdy (wKeep X.K c i ts Wout D) (X.pn ++ pins) (fun e s₁ => wpAny (model X.prog X.w) X.A (noteFrame e X.env) (fun _ s₂ => wpAny (model X.prog X.w) X.A (setFlight e none)
      (fun _ s₃ => wpAny (model X.prog X.w) X.A (handleBy e X.env [.ExceptHandler (some (.Name x np)) (some n) (b₀ :: suite) pos']) (SP X pins D) X.xe s₃) X.xe s₂) X.xe s₁) (fun u s' xx => ?_) PassesOwn.looking).run [] s σ H D (I.toTry _) h
  · refine wpAny_Try_except (wpAny_mono start (fun f s1 fin => ?_) fun _ _ he => he)
    cases f with
    | next =>
      obtain ⟨σ1, H1, J1, q1⟩ := fin
      exact wpAny_execs_nil ⟨σ1, H1, J1.ofTry good, q1⟩
    | brk =>
      obtain ⟨σ1, H1, J1, q1⟩ := fin
      exact ⟨σ1, H1, J1.ofTry good, q1⟩
    | cont =>
      obtain ⟨σ1, H1, J1, q1⟩ := fin
      exact ⟨σ1, H1, J1.ofTry good, q1⟩
    | ret u =>
      obtain ⟨v1, σ1, H1, J1, r1, q1⟩ := fin
      exact ⟨v1, σ1, H1, J1.ofTry good, r1, q1⟩
  -- what the body lets out
  obtain ⟨a, B, sI, pins', σ', H', cls, d, rfl, J0, nb, up, sky0, na, os, ag, b, tst, yes, no⟩ := xx
  have J : Inv X pins σ' H' sI := J0.ofTry good
  have sky : Sky B (X.env :: X.outer) a (Zc cls d) X.env.locals s'.heap := by rw [← stk]; exact sky0
  show wpAny (model X.prog X.w) X.A (noteFrame (.ref a) X.env) _ _ _
  refine Sky.land Zc.steady frs2 frm sky fun h3 fl3 up3 => ?_
  have J3 : Inv X pins σ' H' { s' with heap := h3 } := J.landed nb fl3.1 (up.trans up3) os ag
  obtain ⟨oe3, vs3, he3, hz3, hd3⟩ := fl3.there
  have notFr : a ∉ frs (X.env :: X.outer) := fun hm => by
    obtain ⟨_, o', e', hnf⟩ := fl3.2.2.1.mem hm
    rw [he3] at e'
    cases e'
    exact hnf _ hd3
  have Ba : B.get? a = none := fl3.2.1
  -- the heap without it
  have cut : ∀ {h4 : Heap}, B.StaysIn h4 → s'.heap.UpToSlots h4 → ∃ G : Heap, (∀ b o, G.get? b = some o → h4.get? b = some o) ∧ G.get? a = none ∧ Inv X pins σ' H' { s' with heap := G } := fun {h4} st4 up4 => by
    obtain ⟨G, g1, g2⟩ := restrict h4 fun b => decide (b ≠ a)
    have ga : G.get? a = none := g2 a (decide_eq_false fun z => z rfl)
    have ge : ∀ b, b ≠ a → G.get? b = h4.get? b := fun b hb => g1 b (decide_eq_true hb)
    have keepB : B.StaysIn G := fun b o e => by
      rw [ge b fun z => by rw [z, Ba] at e; cases e]
      exact st4 b o e
    have upG : sI.heap.UpToSlots G := fun b o e nf => by
      have hb : b ≠ a := fun z => by
        have := nb a o (z ▸ e) (by rw [stk]; exact notFr)
        rw [Ba] at this
        cases this
      rw [ge b hb]
      exact (up.trans up4) b o e nf
    refine ⟨G, fun b o e => ?_, ga, J.landed (s' := { s' with heap := G }) nb keepB upG os ag⟩
    by_cases hb : b = a
    · rw [hb, ga] at e
      cases e
    · rw [← ge b hb]
      exact e
  have S3 := into_suite J3 a
  refine wpAny_handleBy_cons (codeAny_handlers_test ?_) (by intro q; cases q)
  have typed : PySem.W.Looks (model X.prog X.w) h3 (typeOf (.ref a)) cls := fun A Q E s k q => wpAny_typeOf_ref (k _ _ he3) (by rw [hz3.1]; exact q)
  have matched := PySem.W.exm_one (M := model X.prog X.w) (J3.kIn) typed tst
  have named : ∀ {Q : Value → Shared → Prop} {E : Value → Shared → Prop}, Q c { s' with heap := h3 } → wpAny (model X.prog X.w) (X.A.mark (some (.ref a))) (eval (.Name x np) X.env) Q E { s' with heap := h3 } := fun {Q E} q => by
    obtain ⟨hg, hdbg, hm | ⟨hm, hv, hnn⟩⟩ := nm
    · exact ld_glob (X := X.suite a (X.pn ++ pins)) S3 hg hm q hdbg
    · exact ld_blt (X := X.suite a (X.pn ++ pins)) S3 hg hm hv q hnn hdbg
  refine named (matched.here ?_)
  cases b with
  | true =>
    refine codeAny_handlers_suite_as ?_
    refine HandSPX.lands_againZ fl3 fun h4 fl4 up4 => ?_
    obtain ⟨oe4, vs4, he4, hz4, hd4⟩ := fl4.there
    obtain ⟨G, gk, ga, JG⟩ := cut fl4.1 (up3.trans up4)
    have JK : Inv X pins σ' (upd H' a (Xc cls d a)) { s' with heap := h4 } := JG.laidN (t' := s'.toks) (h' := h4) gk ga na (xc_ok he4 hz4 hd4)
    refine store_ok (X := X.suite a (X.pn ++ pins)) (v := .ref a) (into_suite JK a) nod at_ isLoc rfl (fun s5 S5 => ?_) (.inr kln)
    refine wpAny_mono ((sui a cls d (X.pn ++ pins)).run [] s5 _ _ _ S5 (yes rfl a na)) (fun f s6 fin => ?_) (fun _ _ z => False.elim z)
    have ends : ∀ {σ6 : L2.St} {H6 : Hp} {Q : Shared → Prop}, Inv (X.suite a (X.pn ++ pins)) [] σ6 H6 s6 → (∀ s7, Inv X pins (σ6.set i none) H6 s7 → Q s7) →
        wpAny (model X.prog X.w) X.A (do bindName X.env n .none; unbindBehindTheSuite X.env n pos') (fun _ s7 => Q s7) X.xe s6 := fun {σ6 H6 Q} S6 hq => gone_ok (out_suite S6 good) nod at_ kln hq
    cases f with
    | next =>
      obtain ⟨σ6, H6, S6, q6⟩ := fin
      exact ends S6 fun s7 J7 => ⟨_, _, J7, q6⟩
    | brk =>
      obtain ⟨σ6, H6, S6, q6⟩ := fin
      exact ends S6 fun s7 J7 => ⟨_, _, J7, q6⟩
    | cont =>
      obtain ⟨σ6, H6, S6, q6⟩ := fin
      exact ends S6 fun s7 J7 => ⟨_, _, J7, q6⟩
    | ret u =>
      obtain ⟨v6, σ6, H6, S6, r6, q6⟩ := fin
      exact ends S6 fun s7 J7 => ⟨_, _, _, J7, r6, q6⟩
  | false =>
    show wpAny _ X.A (handleBy (.ref a) X.env []) _ _ _
    refine wpAny_handleBy_nil ?_
    obtain ⟨k1, k2, k3, oe, vs, T, oT, ts', he, hz, hd, h1, hr⟩ := id fl3
    unfold PySem.passOn
    refine wpAny_bind (wpAny_field he hd h1 ?_)
    rw [if_neg (show ¬ ((Value.ref T == Value.none) = true) from by simp)]
    have fin : wpAny (model X.prog X.w) X.A (setFlight (.ref a) X.env.frame) (fun _ s4 => wpAny (model X.prog X.w) X.A (throw (.ref a) : Sem Flow) (SP X pins D) X.xe s4) X.xe { s' with heap := h3 } := by
      rw [frm]
      refine HandSPX.setFlight_upZ fl3 fun h4 hh4 up4 => wpAny_throw (out _ _ ?_)
      exact ⟨a, B, sI, pins, σ', H', cls, d, rfl, J, nb, (up.trans up3).trans up4, .inr (.inr (by rw [stk]; exact hh4)), na, os, ag, no rfl⟩
    first
      | exact wpAny_bind (wpAny_pure (wpAny_bind fin))
      | exact wpAny_bind fin
end
end EXV
set_option Elab.async false
set_option linter.all false
set_option maxRecDepth 100000
set_option maxHeartbeats 4000000
/-! EXW: isinstance of a kept exception, and its fields -/
namespace EXW
open PySem PySem.Spec PySem.Calls PyProof.Rows
section
open PySem.W
variable {prog : Program} {w : World} {A : Around} {E : Value → Shared → Prop} {s : Shared} {K : Frag} {x D : Addr} {ox : Obj} {od : Option Obj}
theorem bound {C : Addr} {m : Str} {a g : Value} (hc : (clsIn K C).isSome = true) (ha : findIn K (.ref C) m = some (some a)) (hg : specialIn K a "__get__" = some (some g)) (ht : takesIn K a = some true) : findObj K C od m = some (.bind g a) := by
  obtain ⟨cd, hc⟩ := Option.isSome_iff_exists.mp hc
  simp only [findObj, hc, ha, hg, ht, Option.bind_some]
theorem cls_of {Q : Option Value → Shared → Prop} (X : L2.ExcC K D) (kin : K.In s.heap) (I : InstAt s.heap x ox D od) (post : Q (some (.ref D)) { s with toks := s.toks + 1 }) : wpAny (model prog w) A (getAttr? (.ref x) "__class__") Q E s := by
  have hf : findObj K D od "__class__" = some (.bind (.builtin "getset_descriptor.__get__") (.builtin "object.__class__")) := bound (by obtain ⟨cd, hc, _⟩ := any_some X.hd; rw [hc]; rfl) X.ha X.hn X.ht
  obtain ⟨hp, g, d, t, os⟩ := s
  have t0 := I.type (M := model prog w)
  have g1 := looks_findIn (M := model prog w) kin X.hg
  have g2 := looks_findIn (M := model prog w) kin X.hk
  have g3 := looks_find (M := model prog w) kin I hf
  have exc : Looks (model prog w) hp (isInstance (.ref x) (.type "BaseException")) true := t0.andThen (looks_subIn kin X.hs)
  have no1 : (Value.builtin "BaseException.__getattribute__" == Value.builtin "object.__getattribute__") = false := by decide +kernel
  have no2 : (onTheHeap (Value.ref D) && Value.builtin "BaseException.__getattribute__" == Value.builtin "object.__getattribute__") = false := by rw [no1]; rfl
  have no3 : (false && onTheHeap (Value.builtin "BaseException.__getattribute__")) = false := rfl
  unfold getAttr? getAttrBy? getAttrBy
  refine wpAny_bind (wpAny_mkText (wpAny_bind (wpAny_attempt (wpAny_holding (wpAny_bind (t0.at (wpAny_bind (g1.at ?_))))))))
  show wpAny _ _ (if (onTheHeap (Value.ref D) && Value.builtin "BaseException.__getattribute__" == Value.builtin "object.__getattribute__") = true then _ else _) _ _ _; rw [no2, if_neg Bool.false_ne_true]
  unfold getAttrByItsOwn hookBefore; refine wpAny_bind ?_
  rw [if_pos (show onTheHeap (Value.ref D) = true from rfl)]; refine g2.at ?_
  refine wpAny_bind (wpAny_attempt (wpAny_holding ?_)); unfold callGetattribute
  rw [no3, if_neg Bool.false_ne_true]; unfold boundAndCalled
  rw [PySem.F.excAttr_ValueError.ga.bind (.ref x)]; refine wpAny_bind (wpAny_pure ?_)
  show wpAny _ _ (call (.builtin "BaseException.__getattribute__") [.ref x, .str "__class__" t]) _ _ _; refine wpAny_call (codeAny_call_builtin PySem.F.excAttr_ValueError.ga.plain PySem.F.entry_bexc_ga ?_)
  refine @check_slot (model prog w) _ _ ⟨hp, g, d, t + 1, os⟩ "BaseException.__getattribute__" "BaseException" "__getattribute__" (.ref x) [.str "__class__" t] [] _ (by decide +kernel) (by decide +kernel) exc (PySem.F.args_bexc_ga (.ref x) (.str "__class__" t)) ?_
  unfold Builtin.«object.__getattribute__»; refine wpAny_bind (wpAny_of_eq (a := ((Value.ref x : Value), [Value.str "__class__" t])) (by first | rfl | (simp only [slotArgs]; rfl)) ?_)
  refine wpAny_bind (wpAny_pure (wpAny_bind (t0.at (wpAny_bind (g3.at ?_)))))
  show wpAny _ _ (holding [Value.builtin "object.__class__"] (call (.builtin "getset_descriptor.__get__") [.builtin "object.__class__", .ref x, .ref D]) >>= ret) _ _ _; refine wpAny_bind (wpAny_holding (wpAny_call (class_get (s := ⟨hp, g, d, t + 1, os⟩) (ox := ox) (od := od) kin I X.hm ?_)))
  refine wpAny_pure ?_; show wpAny _ _ (handedOut (.ref D)) _ _ _
  rw [handedOut_of (v := .ref D) rfl]
  first | exact wpAny_pure (wpAny_pure post) | exact wpAny_pure post | exact wpAny_pure (wpAny_bind (wpAny_pure (wpAny_pure post)))
theorem kit_of (X : L2.ExcC K D) : KitX K (.ref x) (.ref D) (fun h => ∃ ox od, InstAt h x ox D od) where
  ty := fun _ _ _ ⟨_, _, I⟩ => I.type
  it := fun _ _ kin _ => by
    obtain ⟨cdD, hcD, _⟩ := any_some X.hd
    unfold clsIn at hcD
    split at hcD
    · rename_i c' d' cd' sl' ho
      intro A' Q' E' s' k q; unfold isType loadHead
      exact wpAny_bind (wpAny_loadPart (k _ _ (kin _ _ ho)) (wpAny_pure q))
    · cases hcD
  ne := fun h tp dd its n sl kin htp => by
    obtain ⟨cdD, hcD, _⟩ := any_some X.hd
    refine Bool.eq_false_iff.mpr fun q => ?_
    obtain rfl : D = tp := Value.ref.inj (beq_iff_eq.mp q)
    unfold clsIn at hcD
    split at hcD
    · rename_i c' d' cd' sl' ho
      cases (kin _ _ ho).symm.trans htp
    · cases hcD
  ca := fun kin ⟨_, _, I⟩ k => cls_of X kin I k
end
open L2 EXV
/-- the dict of a kept exception, if it has one, is ours too -/
def Dct (H : Hp) (d : Option Addr) : Prop := d = none ∨ ∃ (dd : Addr) (fs : List (Str × V)), d = some dd ∧ H dd = some (.xd fs)
section
variable {X : Cx} {pins : List (Addr × Obj)} {σ : L2.St} {H : Hp} {s : Shared} {a D : Addr} {d : Option Addr}
theorem inst (I : Inv X pins σ H s) (e : H a = some (Xc (.ref D) d a)) (hd : Dct H d) : ∃ ox od, PySem.W.InstAt s.heap a ox D od ∧ ∀ dd fs, d = some dd → H dd = some (.xd fs) → ∃ (o : Obj) (mA : Str → Option Value), od = some o ∧ (∀ m, RelO (fs.lookup m) (mA m)) ∧ ∀ m, PySem.W.lookIn m o = some (mA m) := by
  obtain ⟨oe, vs, g, z, f⟩ := xc_at I.hok e
  have nc : PySem.W.notCls oe = true := by unfold PySem.W.notCls; rw [f] <;> rfl
  rcases hd with rfl | ⟨dd, fs, rfl, hx⟩
  · exact ⟨oe, none, ⟨g, z.1, nc, by rw [z.2]; trivial⟩, fun dd fs e => by cases e⟩
  · have hx' : ObjOk X.prog X.w H s.heap dd (.xd fs) := I.hok dd _ hx
    obtain ⟨mA, hns, hr⟩ := hx'
    obtain ⟨o, ho, hl⟩ := lookIn_ns hns
    refine ⟨oe, some o, ⟨g, z.1, nc, by rw [z.2]; exact ho⟩, fun dd' fs' e1 e2 => ?_⟩
    cases e1
    rw [hx] at e2
    cases e2
    exact ⟨o, mA, rfl, hr, hl⟩
/-- isinstance(e, c) of a kept exception -/
def rIsK (K : PySem.W.Frag) : List V → Hp → VK → Prop := fun xs H Q => ∃ (a D : Addr) (d : Option Addr) (c : V) (cv : Value) (b : Bool), xs = [.ref a, c] ∧ H a = some (Xc (.ref D) d a) ∧ Dct H d ∧ ExcC K D ∧ (∀ u, RelV c u → u = cv) ∧ PySem.W.kitOne K (.ref D) cv = some b ∧ Q (.bl b) H
theorem call_isK : CallR X (.builtin "isinstance") (rIsK X.K) := by
  intro pins s σ H xs us Q I r h
  obtain ⟨a, D, d, c, cv, b, rfl, ea, hd, C, hcv, e, q⟩ := h
  match us, r with
  | [_, _], .cons rx (.cons rt .nil) =>
    cases rx
    have ec := hcv _ rt
    subst ec
    obtain ⟨ox, od, J, _⟩ := inst I ea hd
    exact PySem.W.kia_one (kit_of C) I.kIn ⟨ox, od, J⟩ e (fun z => nomatch z) fun tk => ⟨.bl b, H, I.kept (t' := tk) fun _ _ z => z, rfl, q⟩
end
/-- e.f of a kept exception -/
def tXk (K : PySem.W.Frag) (f : Str) (te : TE) : TE := fun σ H Q => te σ H fun x H1 => ∃ (a C dd : Addr) (fs : List (Str × V)) (v : V), x = .ref a ∧ H1 a = some (Xc (.ref C) (some dd) a) ∧ H1 dd = some (.xd fs) ∧ XfC K C ∧ PySem.W.findIn K (.ref C) f = some none ∧ fs.lookup f = some v ∧ Q v H1
theorem pe_xk {X : Cx} {e : Expr} {te : TE} {pos : Pos} {n : Str} (he : PE X e te) (hb : attributeBase e n X.env (eval e X.env) = eval e X.env := by rfl) : PE X (.Attribute e n pos) (tXk X.K n te) := by
  refine ⟨fun pins s σ H Q I h => ?_⟩
  refine attr_of hb (thn (he.run pins s σ H _ I h) fun u s1 hh => ?_)
  obtain ⟨x, H1, I1, rx, a, C, dd, fs, v, rfl, ea, ed, T, hno, l, q⟩ := hh
  obtain rfl : u = Value.ref a := rx
  obtain ⟨ox, od, J, more⟩ := inst I1 ea (.inr ⟨dd, fs, rfl, ed⟩)
  obtain ⟨o, mA, rfl, hr, hl⟩ := more dd fs rfl ed
  obtain ⟨u, hu, ru⟩ := RelO.some_of (v := v) (o := mA n) (by rw [← l]; exact hr n)
  exact HandSPX.exc_get I1.kIn J T.ga T.gg T.exC (PySem.W.findObj_own T.hdC hno rfl (by rw [hl, hu])) (handed_of ru) ⟨v, H1, I1.tok _, ru, q⟩
end EXW
set_option Elab.async false
set_option linter.all false
set_option maxRecDepth 100000
set_option maxHeartbeats 4000000
/-! d.update(e), both dicts by texts or numbers -/
namespace DU
open PySem PySem.Spec PyProof.Rows L2
def rUpd : V → List V → Hp → VK → Prop := fun x xs H Q => ∃ (d o : Addr) (kvs more : List (Key × V)), x = .ref d ∧ xs = [.ref o] ∧ d ≠ o ∧ H d = some (.dK kvs) ∧ H o = some (.dK more) ∧ kvs.length + more.length ≤ sizeLine ∧ Q .non (upd H d (.dK (mergeK kvs more)))
theorem putK_len (kvs : List (Key × V)) (k : Key) (v : V) : (putK kvs k v).length ≤ kvs.length + 1 := by
  unfold putK
  split
  · rw [List.length_map]; omega
  · rw [List.length_append]; exact Nat.le_refl _
theorem mergeK_len : ∀ (more kvs : List (Key × V)), (mergeK kvs more).length ≤ kvs.length + more.length
  | [], kvs => Nat.le_refl _
  | p :: more, kvs => by
    have ih := mergeK_len more (putK kvs p.1 p.2)
    have h := putK_len kvs p.1 p.2
    show (mergeK (putK kvs p.1 p.2) more).length ≤ _
    rw [List.length_cons]
    omega
theorem mt_upd {X : Cx} : MtR X "dict.update" rUpd := by
  intro pins s σ H x xs v us Q I rx rxs h
  obtain ⟨d, o, kvs, more, rfl, rfl, ne, hd, ho, hz, q⟩ := h
  cases rx
  obtain ⟨u, rfl, ru⟩ := rxs.one
  cases ru
  obtain ⟨l1, s1, vs, kv1, D1⟩ := I.hok d _ hd
  obtain ⟨l2, s2, ws, kv2, D2⟩ := I.hok o _ ho
  have e1 : vs.length = kvs.length := (Paired.length kv1).symm
  have e2 : ws.length = more.length := (Paired.length kv2).symm
  have T := D1.typeIs
  refine call_meetsIn PySem.F.slot_dict_update T PySem.F.entry_dict_update (PySem.F.args_dict_update_2 _ _) (meets_dict_update (mixKind X.prog X.w) d o ne s2) ⟨vs, ws, D1, D2, by omega, fun h' D1' D2' same => ?_⟩
  have J := I.write (t' := s.toks) (x := d) (e := d) (o := .dK (mergeK kvs more)) (by rw [hd]; exact True.intro) (.inl rfl) (fun b u hb e => (same.2 b hb).trans e) (by obtain ⟨ob, es, ep, e, _⟩ := D1'; exact ⟨ob, e⟩) ⟨Nat.le_trans (mergeK_len more kvs) hz, s1, _, KV.merge kv2 kv1, D1'⟩
  exact ⟨.non, _, J, rfl, q⟩
end DU
set_option Elab.async false
set_option linter.all false
set_option maxRecDepth 100000
set_option maxHeartbeats 4000000
/-! a walk over zip of two lists of one length -/
namespace ZL
open PySem PySem.Spec PyProof.Rows L2
theorem walk_zipL {K : PySem.W.Frag} {a b : Addr} {xs ys : List V} (hl : ys.length = xs.length) : Walk (Itz K a b) xs.length (fun H => SqL K H a xs ∧ SqL K H b ys) (fun i H v H' => ∃ T x y, v = .ref T ∧ H T = none ∧ H' = upd H T (.tup [x, y]) ∧ xs[i]? = some x ∧ ys[i]? = some y) where
  goes := fun i H hi ⟨hx, hy⟩ => ⟨xs, ys, _, _, hx, hy, List.getElem?_eq_getElem hi, List.getElem?_eq_getElem (by omega)⟩
  yields := fun i H x H' hi ⟨hx, hy⟩ ⟨T, x', y', e1, e2, e3, f1, f2⟩ => ⟨T, x', y', e1, e2, e3, f1 xs hx, f2 ys hy⟩
  stops := fun H ⟨hx, hy⟩ => ⟨xs, ys, hx, hy, .inl (Nat.le_refl _)⟩
end ZL
set_option Elab.async false
set_option linter.all false
set_option maxRecDepth 100000
set_option maxHeartbeats 4000000
namespace K40
open PySem PySem.Spec PyProof.Rows L2
open C8 (Cal Mak Met pe_c pe_mk pe_mt pe_mt0)
open EXV (Xc)
open EXW (Dct)
/-- the own classes of refusals, the classes above them, the words -/
abbrev ex16 : List Str := [("NoKind" : Str), ("Nought" : Str), ("NoShare" : Str), ("Uneven" : Str), ("BadName" : Str), ("NoNumber" : Str), ("NoRide" : Str), ("NoText" : Str), ("NoName" : Str), ("NoDay" : Str), ("NoSeats" : Str), ("TooMany" : Str), ("Taken" : Str), ("NoRule" : Str), ("NothingDone" : Str), ("NoRow" : Str)]
abbrev ex10 : List String := ["TypeError", "ZeroDivisionError", "ArithmeticError", "ValueError", "KeyError", "LookupError", "IndexError", "OverflowError", "RuntimeError", "NotImplementedError"]
abbrev kw16 : List Str := [("kind" : Str), ("nought" : Str), ("share" : Str), ("uneven" : Str), ("badname" : Str), ("number" : Str), ("ride" : Str), ("text" : Str), ("name" : Str), ("day" : Str), ("seats" : Str), ("many" : Str), ("taken" : Str), ("rule" : Str), ("done" : Str), ("row" : Str)]
/-- what is known of a refusal's class D: which of the sixteen it is (ow), which of the ten stand above it (ab) -/
structure Ex (K : PySem.W.Frag) (mg : Str → Option Value) (D : Addr) (ow : Str → Bool) (ab : String → Bool) : Prop where
  gl : ∀ x ∈ ex16, mg x = some (.ref (He.ga K x))
  bt : ∀ x ∈ ex10, mg (Str.ofString x) = none
  xc : ExcC K D
  ko : ∀ x ∈ ex16, PySem.W.kitOne K (.ref D) (.ref (He.ga K x)) = some (ow x)
  kb : ∀ x ∈ ex10, PySem.W.kitOne K (.ref D) (.type x) = some (ab x)
section
variable {P : Program} {w : World} {K : PySem.W.Frag} {mg : Str → Option Value} {base : Heap} {f C CT D : Addr} {fd : FuncData} {ow : Str → Bool} {ab : String → Bool}
theorem isO {a : Addr} {d : Option Addr} {H : Hp} {x : Str} {Q : VK} (T : Ex K mg D ow ab) (ha : H a = some (Xc (.ref D) d a)) (hd : Dct H d) (hx : x ∈ ex16) (q : Q (.bl (ow x)) H) : EXW.rIsK K [.ref a, .ref (He.ga K x)] H Q :=
  ⟨a, D, d, _, _, _, rfl, ha, hd, T.xc, fun u r => by cases r; rfl, T.ko x hx, q⟩
theorem isB {a : Addr} {d : Option Addr} {H : Hp} {x : String} {Q : VK} (T : Ex K mg D ow ab) (ha : H a = some (Xc (.ref D) d a)) (hd : Dct H d) (hx : x ∈ ex10) (q : Q (.bl (ab x)) H) : EXW.rIsK K [.ref a, .ty x] H Q :=
  ⟨a, D, d, _, _, _, rfl, ha, hd, T.xc, fun u r => by cases r; rfl, T.kb x hx, q⟩
theorem dct_same {H H' : Hp} {d : Option Addr} (h : Dct H d) (s : Same H H') : Dct H' d := by
  rcases h with h | ⟨dd, fs, e, h⟩
  · exact .inl h
  · exact .inr ⟨dd, fs, e, s _ _ h⟩
/-- the words of what it is -/
def fnd (ow : Str → Bool) : List Str := ((kw16.zip (ex16.map ow)).filter (·.2)).map (·.1)
theorem split16 : Txt.split "kind nought share uneven badname number ride text name day seats many taken rule done row" " " = kw16 := by decide +kernel
def spKi (D : Addr) (ow : Str → Bool) (ab : String → Bool) : Sp := fun vs H Q _ => ∃ (a : Addr) (d : Option Addr), vs = [.ref a] ∧ H a = some (Xc (.ref D) d a) ∧ Dct H d ∧
  ∀ (t l m : Addr) (H' : Hp), Same H H' → H t = none → H' t = some (.tup [.ref l, .ref m]) → H' l = some (.lst ((fnd ow).map V.str)) → H' m = some (.lst (ex10.map fun x => V.bl (ab x))) → Q (.ref t) H'
theorem ok_ki (F : Dn K d_l_kinds f fd) (b : Bl mg) (bz : mg "zip" = none) (T : Ex K mg D ow ab) : FnOk P w K mg base CX0 1 f fd ["_law_error"] (spKi D ow ab) := by
  refine F.ok sc_l_kinds (fun vs H Q E h => ?_) (fun cdv A outer s H vs Q E hr h => ?_)
  · obtain ⟨a, d, rfl, _⟩ := h
    rfl
  · obtain ⟨a, d, rfl, ha, hd, hQ⟩ := h
    refine ⟨_, PSs.nox (pss_cons (ps_set (i := 1) sc_l_kinds.nd rfl (.inl rfl) (pe_lst (pa_cons (pe_callB (r := EXW.rIsK K) EXW.call_isK rfl b.isi boot_isinstance (pa_cons (pv 0) (pa_cons (pe_glob (v := .ref (He.ga K "NoKind")) rfl (T.gl "NoKind" (by decide +kernel)) rfl) pa_nil))) (pa_cons (pe_callB (r := EXW.rIsK K) EXW.call_isK rfl b.isi boot_isinstance (pa_cons (pv 0) (pa_cons (pe_glob (v := .ref (He.ga K "Nought")) rfl (T.gl "Nought" (by decide +kernel)) rfl) pa_nil))) (pa_cons (pe_callB (r := EXW.rIsK K) EXW.call_isK rfl b.isi boot_isinstance (pa_cons (pv 0) (pa_cons (pe_glob (v := .ref (He.ga K "NoShare")) rfl (T.gl "NoShare" (by decide +kernel)) rfl) pa_nil))) (pa_cons (pe_callB (r := EXW.rIsK K) EXW.call_isK rfl b.isi boot_isinstance (pa_cons (pv 0) (pa_cons (pe_glob (v := .ref (He.ga K "Uneven")) rfl (T.gl "Uneven" (by decide +kernel)) rfl) pa_nil))) pa_nil))))))
      (pss_cons (ps_set (i := 1) sc_l_kinds.nd rfl (.inl rfl) (pe_op op_cat (pv 1) (pe_lst (pa_cons (pe_callB (r := EXW.rIsK K) EXW.call_isK rfl b.isi boot_isinstance (pa_cons (pv 0) (pa_cons (pe_glob (v := .ref (He.ga K "BadName")) rfl (T.gl "BadName" (by decide +kernel)) rfl) pa_nil))) (pa_cons (pe_callB (r := EXW.rIsK K) EXW.call_isK rfl b.isi boot_isinstance (pa_cons (pv 0) (pa_cons (pe_glob (v := .ref (He.ga K "NoNumber")) rfl (T.gl "NoNumber" (by decide +kernel)) rfl) pa_nil))) (pa_cons (pe_callB (r := EXW.rIsK K) EXW.call_isK rfl b.isi boot_isinstance (pa_cons (pv 0) (pa_cons (pe_glob (v := .ref (He.ga K "NoRide")) rfl (T.gl "NoRide" (by decide +kernel)) rfl) pa_nil))) pa_nil))))))
      (pss_cons (ps_set (i := 1) sc_l_kinds.nd rfl (.inl rfl) (pe_op op_cat (pv 1) (pe_lst (pa_cons (pe_callB (r := EXW.rIsK K) EXW.call_isK rfl b.isi boot_isinstance (pa_cons (pv 0) (pa_cons (pe_glob (v := .ref (He.ga K "NoText")) rfl (T.gl "NoText" (by decide +kernel)) rfl) pa_nil))) (pa_cons (pe_callB (r := EXW.rIsK K) EXW.call_isK rfl b.isi boot_isinstance (pa_cons (pv 0) (pa_cons (pe_glob (v := .ref (He.ga K "NoName")) rfl (T.gl "NoName" (by decide +kernel)) rfl) pa_nil))) (pa_cons (pe_callB (r := EXW.rIsK K) EXW.call_isK rfl b.isi boot_isinstance (pa_cons (pv 0) (pa_cons (pe_glob (v := .ref (He.ga K "NoDay")) rfl (T.gl "NoDay" (by decide +kernel)) rfl) pa_nil))) pa_nil))))))
      (pss_cons (ps_set (i := 1) sc_l_kinds.nd rfl (.inl rfl) (pe_op op_cat (pv 1) (pe_lst (pa_cons (pe_callB (r := EXW.rIsK K) EXW.call_isK rfl b.isi boot_isinstance (pa_cons (pv 0) (pa_cons (pe_glob (v := .ref (He.ga K "NoSeats")) rfl (T.gl "NoSeats" (by decide +kernel)) rfl) pa_nil))) (pa_cons (pe_callB (r := EXW.rIsK K) EXW.call_isK rfl b.isi boot_isinstance (pa_cons (pv 0) (pa_cons (pe_glob (v := .ref (He.ga K "TooMany")) rfl (T.gl "TooMany" (by decide +kernel)) rfl) pa_nil))) (pa_cons (pe_callB (r := EXW.rIsK K) EXW.call_isK rfl b.isi boot_isinstance (pa_cons (pv 0) (pa_cons (pe_glob (v := .ref (He.ga K "Taken")) rfl (T.gl "Taken" (by decide +kernel)) rfl) pa_nil))) pa_nil))))))
      (pss_cons (ps_set (i := 1) sc_l_kinds.nd rfl (.inl rfl) (pe_op op_cat (pv 1) (pe_lst (pa_cons (pe_callB (r := EXW.rIsK K) EXW.call_isK rfl b.isi boot_isinstance (pa_cons (pv 0) (pa_cons (pe_glob (v := .ref (He.ga K "NoRule")) rfl (T.gl "NoRule" (by decide +kernel)) rfl) pa_nil))) (pa_cons (pe_callB (r := EXW.rIsK K) EXW.call_isK rfl b.isi boot_isinstance (pa_cons (pv 0) (pa_cons (pe_glob (v := .ref (He.ga K "NothingDone")) rfl (T.gl "NothingDone" (by decide +kernel)) rfl) pa_nil))) (pa_cons (pe_callB (r := EXW.rIsK K) EXW.call_isK rfl b.isi boot_isinstance (pa_cons (pv 0) (pa_cons (pe_glob (v := .ref (He.ga K "NoRow")) rfl (T.gl "NoRow" (by decide +kernel)) rfl) pa_nil))) pa_nil))))))
      (pss_cons (ps_set (i := 2) sc_l_kinds.nd rfl (.inl rfl) (pe_bm PySem.F.plainAttrs_str PySem.F.slot_str_split PySem.F.type_str_split mt_split pe_str (pa_cons pe_str pa_nil)))
      (pss_cons (ps_setLc (i := 3) (own := [("_law_word", 5), ("_law_so", 6)]) (g := gTup K 2 (gCons (gName 5) (gCons (gName 6) gNil))) rfl sc_l_kinds.nd rfl rfl (sw_true rfl rfl rfl (by decide +kernel)) (RZ.pi_zipA rfl bz (pa_cons (pv 2) (pa_cons (pv 1) pa_nil))) (blkOk_by (N := N_l_kinds) (sc := defScope s_l_kinds) (by decide +kernel))
          (fun _ _ _ _ _ => pg_tup rfl (pgs_cons (pg_name (i := 5) sc_l_kinds.nd rfl (.inl rfl)) (pgs_cons (pg_name (i := 6) sc_l_kinds.nd rfl (.inl rfl)) pgs_nil))) (fun _ _ _ _ _ => pts_one (pt_val (pv 6))) (fun _ _ _ _ _ => pv 5))
      (pss_cons (ps_set (i := 4) sc_l_kinds.nd rfl (.inl rfl) (pe_lst (pa_cons (pe_callB (r := EXW.rIsK K) EXW.call_isK rfl b.isi boot_isinstance (pa_cons (pv 0) (pa_cons (pe_bltn (v := .ty "TypeError") rfl (T.bt "TypeError" (by decide +kernel)) PyProof.Rows.Boot.«TypeError» rfl) pa_nil))) (pa_cons (pe_callB (r := EXW.rIsK K) EXW.call_isK rfl b.isi boot_isinstance (pa_cons (pv 0) (pa_cons (pe_bltn (v := .ty "ZeroDivisionError") rfl (T.bt "ZeroDivisionError" (by decide +kernel)) PyProof.Rows.Boot.«ZeroDivisionError» rfl) pa_nil))) (pa_cons (pe_callB (r := EXW.rIsK K) EXW.call_isK rfl b.isi boot_isinstance (pa_cons (pv 0) (pa_cons (pe_bltn (v := .ty "ArithmeticError") rfl (T.bt "ArithmeticError" (by decide +kernel)) PyProof.Rows.Boot.«ArithmeticError» rfl) pa_nil))) pa_nil)))))
      (pss_cons (ps_set (i := 4) sc_l_kinds.nd rfl (.inl rfl) (pe_op op_cat (pv 4) (pe_lst (pa_cons (pe_callB (r := EXW.rIsK K) EXW.call_isK rfl b.isi boot_isinstance (pa_cons (pv 0) (pa_cons (pe_bltn (v := .ty "ValueError") rfl (T.bt "ValueError" (by decide +kernel)) PyProof.Rows.Boot.«ValueError» rfl) pa_nil))) (pa_cons (pe_callB (r := EXW.rIsK K) EXW.call_isK rfl b.isi boot_isinstance (pa_cons (pv 0) (pa_cons (pe_bltn (v := .ty "KeyError") rfl (T.bt "KeyError" (by decide +kernel)) PyProof.Rows.Boot.«KeyError» rfl) pa_nil))) (pa_cons (pe_callB (r := EXW.rIsK K) EXW.call_isK rfl b.isi boot_isinstance (pa_cons (pv 0) (pa_cons (pe_bltn (v := .ty "LookupError") rfl (T.bt "LookupError" (by decide +kernel)) PyProof.Rows.Boot.«LookupError» rfl) pa_nil))) pa_nil))))))
      (pss_cons (ps_set (i := 4) sc_l_kinds.nd rfl (.inl rfl) (pe_op op_cat (pv 4) (pe_lst (pa_cons (pe_callB (r := EXW.rIsK K) EXW.call_isK rfl b.isi boot_isinstance (pa_cons (pv 0) (pa_cons (pe_bltn (v := .ty "IndexError") rfl (T.bt "IndexError" (by decide +kernel)) PyProof.Rows.Boot.«IndexError» rfl) pa_nil))) (pa_cons (pe_callB (r := EXW.rIsK K) EXW.call_isK rfl b.isi boot_isinstance (pa_cons (pv 0) (pa_cons (pe_bltn (v := .ty "OverflowError") rfl (T.bt "OverflowError" (by decide +kernel)) PyProof.Rows.Boot.«OverflowError» rfl) pa_nil))) (pa_cons (pe_callB (r := EXW.rIsK K) EXW.call_isK rfl b.isi boot_isinstance (pa_cons (pv 0) (pa_cons (pe_bltn (v := .ty "RuntimeError") rfl (T.bt "RuntimeError" (by decide +kernel)) PyProof.Rows.Boot.«RuntimeError» rfl) pa_nil))) pa_nil))))))
      (pss_one (ps_ret (pe_tup (pa_cons (pv 3) (pa_cons (pe_op op_cat (pv 4) (pe_lst (pa_cons (pe_callB (r := EXW.rIsK K) EXW.call_isK rfl b.isi boot_isinstance (pa_cons (pv 0) (pa_cons (pe_bltn (v := .ty "NotImplementedError") rfl (T.bt "NotImplementedError" (by decide +kernel)) PyProof.Rows.Boot.«NotImplementedError» rfl) pa_nil))) pa_nil))) pa_nil))))))))))))))), ?_⟩
    refine ⟨_, rfl, a, D, d, _, _, _, rfl, ha, hd, T.xc, fun u r => (by cases r; rfl), T.ko "NoKind" (by decide +kernel), ?_⟩
    refine ⟨_, rfl, a, D, d, _, _, _, rfl, ha, hd, T.xc, fun u r => (by cases r; rfl), T.ko "Nought" (by decide +kernel), ?_⟩
    refine ⟨_, rfl, a, D, d, _, _, _, rfl, ha, hd, T.xc, fun u r => (by cases r; rfl), T.ko "NoShare" (by decide +kernel), ?_⟩
    refine ⟨_, rfl, a, D, d, _, _, _, rfl, ha, hd, T.xc, fun u r => (by cases r; rfl), T.ko "Uneven" (by decide +kernel), ?_⟩
    refine ⟨by show 4 ≤ sizeLine; decide, fun p1 f1 => ?_⟩
    have s1 := same_new (o := .lst [V.bl (ow "NoKind"), V.bl (ow "Nought"), V.bl (ow "NoShare"), V.bl (ow "Uneven")]) f1
    have ha := s1 _ _ ha
    have hd := dct_same hd s1
    have hl : _ = some (HO.lst [V.bl (ow "NoKind"), V.bl (ow "Nought"), V.bl (ow "NoShare"), V.bl (ow "Uneven")]) := (upd_same : (upd H p1 (.lst [V.bl (ow "NoKind"), V.bl (ow "Nought"), V.bl (ow "NoShare"), V.bl (ow "Uneven")])) p1 = _)
    generalize upd H p1 (.lst [V.bl (ow "NoKind"), V.bl (ow "Nought"), V.bl (ow "NoShare"), V.bl (ow "Uneven")]) = G1 at s1 ha hd hl ⊢
    have sm := s1
    refine ⟨_, rfl, _, rfl, a, D, d, _, _, _, rfl, ha, hd, T.xc, fun u r => (by cases r; rfl), T.ko "BadName" (by decide +kernel), ?_⟩
    refine ⟨_, rfl, a, D, d, _, _, _, rfl, ha, hd, T.xc, fun u r => (by cases r; rfl), T.ko "NoNumber" (by decide +kernel), ?_⟩
    refine ⟨_, rfl, a, D, d, _, _, _, rfl, ha, hd, T.xc, fun u r => (by cases r; rfl), T.ko "NoRide" (by decide +kernel), ?_⟩
    refine ⟨by show 3 ≤ sizeLine; decide, fun p2 f2 => ?_⟩
    have s2 := same_new (o := .lst [V.bl (ow "BadName"), V.bl (ow "NoNumber"), V.bl (ow "NoRide")]) f2
    have ha := s2 _ _ ha
    have hd := dct_same hd s2
    have hl2 := s2 _ _ hl
    have hm2 : (upd G1 p2 (.lst [V.bl (ow "BadName"), V.bl (ow "NoNumber"), V.bl (ow "NoRide")])) p2 = some (.lst [V.bl (ow "BadName"), V.bl (ow "NoNumber"), V.bl (ow "NoRide")]) := upd_same
    have sm2 := sm.trans s2
    generalize upd G1 p2 (.lst [V.bl (ow "BadName"), V.bl (ow "NoNumber"), V.bl (ow "NoRide")]) = G2 at sm2 ha hd hl2 hm2 ⊢
    refine ⟨p1, p2, _, _, rfl, rfl, hl2, hm2, by show 7 ≤ sizeLine; decide, fun p3 f3 => ?_⟩
    have s3 := same_new (o := .lst [V.bl (ow "NoKind"), V.bl (ow "Nought"), V.bl (ow "NoShare"), V.bl (ow "Uneven"), V.bl (ow "BadName"), V.bl (ow "NoNumber"), V.bl (ow "NoRide")]) f3
    have ha := s3 _ _ ha
    have hd := dct_same hd s3
    have hl : (upd G2 p3 (.lst [V.bl (ow "NoKind"), V.bl (ow "Nought"), V.bl (ow "NoShare"), V.bl (ow "Uneven"), V.bl (ow "BadName"), V.bl (ow "NoNumber"), V.bl (ow "NoRide")])) p3 = some (.lst [V.bl (ow "NoKind"), V.bl (ow "Nought"), V.bl (ow "NoShare"), V.bl (ow "Uneven"), V.bl (ow "BadName"), V.bl (ow "NoNumber"), V.bl (ow "NoRide")]) := upd_same
    have sm := sm2.trans s3
    replace hl : (upd G2 p3 _) p3 = some (.lst [V.bl (ow "NoKind"), V.bl (ow "Nought"), V.bl (ow "NoShare"), V.bl (ow "Uneven"), V.bl (ow "BadName"), V.bl (ow "NoNumber"), V.bl (ow "NoRide")]) := hl
    dsimp only [List.cons_append, List.nil_append] at *
    generalize upd G2 p3 (.lst [V.bl (ow "NoKind"), V.bl (ow "Nought"), V.bl (ow "NoShare"), V.bl (ow "Uneven"), V.bl (ow "BadName"), V.bl (ow "NoNumber"), V.bl (ow "NoRide")]) = G3 at sm ha hd hl ⊢
    clear hl2 hm2 sm2
    refine ⟨_, rfl, _, rfl, a, D, d, _, _, _, rfl, ha, hd, T.xc, fun u r => (by cases r; rfl), T.ko "NoText" (by decide +kernel), ?_⟩
    refine ⟨_, rfl, a, D, d, _, _, _, rfl, ha, hd, T.xc, fun u r => (by cases r; rfl), T.ko "NoName" (by decide +kernel), ?_⟩
    refine ⟨_, rfl, a, D, d, _, _, _, rfl, ha, hd, T.xc, fun u r => (by cases r; rfl), T.ko "NoDay" (by decide +kernel), ?_⟩
    refine ⟨by show 3 ≤ sizeLine; decide, fun p4 f4 => ?_⟩
    have s4 := same_new (o := .lst [V.bl (ow "NoText"), V.bl (ow "NoName"), V.bl (ow "NoDay")]) f4
    have ha := s4 _ _ ha
    have hd := dct_same hd s4
    have hl2 := s4 _ _ hl
    have hm2 : (upd G3 p4 (.lst [V.bl (ow "NoText"), V.bl (ow "NoName"), V.bl (ow "NoDay")])) p4 = some (.lst [V.bl (ow "NoText"), V.bl (ow "NoName"), V.bl (ow "NoDay")]) := upd_same
    have sm2 := sm.trans s4
    generalize upd G3 p4 (.lst [V.bl (ow "NoText"), V.bl (ow "NoName"), V.bl (ow "NoDay")]) = G4 at sm2 ha hd hl2 hm2 ⊢
    refine ⟨p3, p4, _, _, rfl, rfl, hl2, hm2, by show 10 ≤ sizeLine; decide, fun p5 f5 => ?_⟩
    have s5 := same_new (o := .lst [V.bl (ow "NoKind"), V.bl (ow "Nought"), V.bl (ow "NoShare"), V.bl (ow "Uneven"), V.bl (ow "BadName"), V.bl (ow "NoNumber"), V.bl (ow "NoRide"), V.bl (ow "NoText"), V.bl (ow "NoName"), V.bl (ow "NoDay")]) f5
    have ha := s5 _ _ ha
    have hd := dct_same hd s5
    have hl : (upd G4 p5 (.lst [V.bl (ow "NoKind"), V.bl (ow "Nought"), V.bl (ow "NoShare"), V.bl (ow "Uneven"), V.bl (ow "BadName"), V.bl (ow "NoNumber"), V.bl (ow "NoRide"), V.bl (ow "NoText"), V.bl (ow "NoName"), V.bl (ow "NoDay")])) p5 = some (.lst [V.bl (ow "NoKind"), V.bl (ow "Nought"), V.bl (ow "NoShare"), V.bl (ow "Uneven"), V.bl (ow "BadName"), V.bl (ow "NoNumber"), V.bl (ow "NoRide"), V.bl (ow "NoText"), V.bl (ow "NoName"), V.bl (ow "NoDay")]) := upd_same
    have sm := sm2.trans s5
    replace hl : (upd G4 p5 _) p5 = some (.lst [V.bl (ow "NoKind"), V.bl (ow "Nought"), V.bl (ow "NoShare"), V.bl (ow "Uneven"), V.bl (ow "BadName"), V.bl (ow "NoNumber"), V.bl (ow "NoRide"), V.bl (ow "NoText"), V.bl (ow "NoName"), V.bl (ow "NoDay")]) := hl
    dsimp only [List.cons_append, List.nil_append] at *
    generalize upd G4 p5 (.lst [V.bl (ow "NoKind"), V.bl (ow "Nought"), V.bl (ow "NoShare"), V.bl (ow "Uneven"), V.bl (ow "BadName"), V.bl (ow "NoNumber"), V.bl (ow "NoRide"), V.bl (ow "NoText"), V.bl (ow "NoName"), V.bl (ow "NoDay")]) = G5 at sm ha hd hl ⊢
    clear hl2 hm2 sm2
    refine ⟨_, rfl, _, rfl, a, D, d, _, _, _, rfl, ha, hd, T.xc, fun u r => (by cases r; rfl), T.ko "NoSeats" (by decide +kernel), ?_⟩
    refine ⟨_, rfl, a, D, d, _, _, _, rfl, ha, hd, T.xc, fun u r => (by cases r; rfl), T.ko "TooMany" (by decide +kernel), ?_⟩
    refine ⟨_, rfl, a, D, d, _, _, _, rfl, ha, hd, T.xc, fun u r => (by cases r; rfl), T.ko "Taken" (by decide +kernel), ?_⟩
    refine ⟨by show 3 ≤ sizeLine; decide, fun p6 f6 => ?_⟩
    have s6 := same_new (o := .lst [V.bl (ow "NoSeats"), V.bl (ow "TooMany"), V.bl (ow "Taken")]) f6
    have ha := s6 _ _ ha
    have hd := dct_same hd s6
    have hl2 := s6 _ _ hl
    have hm2 : (upd G5 p6 (.lst [V.bl (ow "NoSeats"), V.bl (ow "TooMany"), V.bl (ow "Taken")])) p6 = some (.lst [V.bl (ow "NoSeats"), V.bl (ow "TooMany"), V.bl (ow "Taken")]) := upd_same
    have sm2 := sm.trans s6
    generalize upd G5 p6 (.lst [V.bl (ow "NoSeats"), V.bl (ow "TooMany"), V.bl (ow "Taken")]) = G6 at sm2 ha hd hl2 hm2 ⊢
    refine ⟨p5, p6, _, _, rfl, rfl, hl2, hm2, by show 13 ≤ sizeLine; decide, fun p7 f7 => ?_⟩
    have s7 := same_new (o := .lst [V.bl (ow "NoKind"), V.bl (ow "Nought"), V.bl (ow "NoShare"), V.bl (ow "Uneven"), V.bl (ow "BadName"), V.bl (ow "NoNumber"), V.bl (ow "NoRide"), V.bl (ow "NoText"), V.bl (ow "NoName"), V.bl (ow "NoDay"), V.bl (ow "NoSeats"), V.bl (ow "TooMany"), V.bl (ow "Taken")]) f7
    have ha := s7 _ _ ha
    have hd := dct_same hd s7
    have hl : (upd G6 p7 (.lst [V.bl (ow "NoKind"), V.bl (ow "Nought"), V.bl (ow "NoShare"), V.bl (ow "Uneven"), V.bl (ow "BadName"), V.bl (ow "NoNumber"), V.bl (ow "NoRide"), V.bl (ow "NoText"), V.bl (ow "NoName"), V.bl (ow "NoDay"), V.bl (ow "NoSeats"), V.bl (ow "TooMany"), V.bl (ow "Taken")])) p7 = some (.lst [V.bl (ow "NoKind"), V.bl (ow "Nought"), V.bl (ow "NoShare"), V.bl (ow "Uneven"), V.bl (ow "BadName"), V.bl (ow "NoNumber"), V.bl (ow "NoRide"), V.bl (ow "NoText"), V.bl (ow "NoName"), V.bl (ow "NoDay"), V.bl (ow "NoSeats"), V.bl (ow "TooMany"), V.bl (ow "Taken")]) := upd_same
    have sm := sm2.trans s7
    replace hl : (upd G6 p7 _) p7 = some (.lst [V.bl (ow "NoKind"), V.bl (ow "Nought"), V.bl (ow "NoShare"), V.bl (ow "Uneven"), V.bl (ow "BadName"), V.bl (ow "NoNumber"), V.bl (ow "NoRide"), V.bl (ow "NoText"), V.bl (ow "NoName"), V.bl (ow "NoDay"), V.bl (ow "NoSeats"), V.bl (ow "TooMany"), V.bl (ow "Taken")]) := hl
    dsimp only [List.cons_append, List.nil_append] at *
    generalize upd G6 p7 (.lst [V.bl (ow "NoKind"), V.bl (ow "Nought"), V.bl (ow "NoShare"), V.bl (ow "Uneven"), V.bl (ow "BadName"), V.bl (ow "NoNumber"), V.bl (ow "NoRide"), V.bl (ow "NoText"), V.bl (ow "NoName"), V.bl (ow "NoDay"), V.bl (ow "NoSeats"), V.bl (ow "TooMany"), V.bl (ow "Taken")]) = G7 at sm ha hd hl ⊢
    clear hl2 hm2 sm2
    refine ⟨_, rfl, _, rfl, a, D, d, _, _, _, rfl, ha, hd, T.xc, fun u r => (by cases r; rfl), T.ko "NoRule" (by decide +kernel), ?_⟩
    refine ⟨_, rfl, a, D, d, _, _, _, rfl, ha, hd, T.xc, fun u r => (by cases r; rfl), T.ko "NothingDone" (by decide +kernel), ?_⟩
    refine ⟨_, rfl, a, D, d, _, _, _, rfl, ha, hd, T.xc, fun u r => (by cases r; rfl), T.ko "NoRow" (by decide +kernel), ?_⟩
    refine ⟨by show 3 ≤ sizeLine; decide, fun p8 f8 => ?_⟩
    have s8 := same_new (o := .lst [V.bl (ow "NoRule"), V.bl (ow "NothingDone"), V.bl (ow "NoRow")]) f8
    have ha := s8 _ _ ha
    have hd := dct_same hd s8
    have hl2 := s8 _ _ hl
    have hm2 : (upd G7 p8 (.lst [V.bl (ow "NoRule"), V.bl (ow "NothingDone"), V.bl (ow "NoRow")])) p8 = some (.lst [V.bl (ow "NoRule"), V.bl (ow "NothingDone"), V.bl (ow "NoRow")]) := upd_same
    have sm2 := sm.trans s8
    generalize upd G7 p8 (.lst [V.bl (ow "NoRule"), V.bl (ow "NothingDone"), V.bl (ow "NoRow")]) = G8 at sm2 ha hd hl2 hm2 ⊢
    refine ⟨p7, p8, _, _, rfl, rfl, hl2, hm2, by show 16 ≤ sizeLine; decide, fun p9 f9 => ?_⟩
    have s9 := same_new (o := .lst [V.bl (ow "NoKind"), V.bl (ow "Nought"), V.bl (ow "NoShare"), V.bl (ow "Uneven"), V.bl (ow "BadName"), V.bl (ow "NoNumber"), V.bl (ow "NoRide"), V.bl (ow "NoText"), V.bl (ow "NoName"), V.bl (ow "NoDay"), V.bl (ow "NoSeats"), V.bl (ow "TooMany"), V.bl (ow "Taken"), V.bl (ow "NoRule"), V.bl (ow "NothingDone"), V.bl (ow "NoRow")]) f9
    have ha := s9 _ _ ha
    have hd := dct_same hd s9
    have hl : (upd G8 p9 (.lst [V.bl (ow "NoKind"), V.bl (ow "Nought"), V.bl (ow "NoShare"), V.bl (ow "Uneven"), V.bl (ow "BadName"), V.bl (ow "NoNumber"), V.bl (ow "NoRide"), V.bl (ow "NoText"), V.bl (ow "NoName"), V.bl (ow "NoDay"), V.bl (ow "NoSeats"), V.bl (ow "TooMany"), V.bl (ow "Taken"), V.bl (ow "NoRule"), V.bl (ow "NothingDone"), V.bl (ow "NoRow")])) p9 = some (.lst [V.bl (ow "NoKind"), V.bl (ow "Nought"), V.bl (ow "NoShare"), V.bl (ow "Uneven"), V.bl (ow "BadName"), V.bl (ow "NoNumber"), V.bl (ow "NoRide"), V.bl (ow "NoText"), V.bl (ow "NoName"), V.bl (ow "NoDay"), V.bl (ow "NoSeats"), V.bl (ow "TooMany"), V.bl (ow "Taken"), V.bl (ow "NoRule"), V.bl (ow "NothingDone"), V.bl (ow "NoRow")]) := upd_same
    have sm := sm2.trans s9
    replace hl : (upd G8 p9 _) p9 = some (.lst [V.bl (ow "NoKind"), V.bl (ow "Nought"), V.bl (ow "NoShare"), V.bl (ow "Uneven"), V.bl (ow "BadName"), V.bl (ow "NoNumber"), V.bl (ow "NoRide"), V.bl (ow "NoText"), V.bl (ow "NoName"), V.bl (ow "NoDay"), V.bl (ow "NoSeats"), V.bl (ow "TooMany"), V.bl (ow "Taken"), V.bl (ow "NoRule"), V.bl (ow "NothingDone"), V.bl (ow "NoRow")]) := hl
    dsimp only [List.cons_append, List.nil_append] at *
    generalize upd G8 p9 (.lst [V.bl (ow "NoKind"), V.bl (ow "Nought"), V.bl (ow "NoShare"), V.bl (ow "Uneven"), V.bl (ow "BadName"), V.bl (ow "NoNumber"), V.bl (ow "NoRide"), V.bl (ow "NoText"), V.bl (ow "NoName"), V.bl (ow "NoDay"), V.bl (ow "NoSeats"), V.bl (ow "TooMany"), V.bl (ow "Taken"), V.bl (ow "NoRule"), V.bl (ow "NothingDone"), V.bl (ow "NoRow")]) = G9 at sm ha hd hl ⊢
    clear hl2 hm2 sm2
    have hl : G9 p9 = some (.lst ((ex16.map ow).map V.bl)) := hl
    refine ⟨rfl, _, _, rfl, rfl, by decide +kernel, by decide +kernel, fun wl fw => ?_⟩
    rw [split16]
    have sw := same_new (o := .lst (kw16.map V.str)) fw
    have hw : (upd G9 wl (.lst (kw16.map V.str))) wl = some (.lst (kw16.map V.str)) := upd_same
    have hl := sw _ _ hl
    have ha := sw _ _ ha
    have hd := dct_same hd sw
    have sm := sm.trans sw
    generalize upd G9 wl (.lst (kw16.map V.str)) = J1 at sm ha hd hl hw ⊢
    clear sw
    refine ⟨_, rfl, _, rfl, wl, p9, _, _, rfl, .inl ⟨SqL.of hw, SqL.of hl, fun D1 hD1 => lc_it (ZL.walk_zipL (by rfl)) (fun i H' => H' D1 = some (.lst ((((kw16.zip (ex16.map ow)).take i).filter (·.2)).map fun q => V.str q.1)) ∧ Same J1 H') ⟨upd_same, same_new hD1⟩ (fun i H' _ z => ⟨SqL.of (z.2 _ _ hw), SqL.of (z.2 _ _ hl)⟩) ?_ ?_⟩⟩
    · rintro i v H2 H3 hi ⟨hdd, s2⟩ ⟨Tp, x, y, rfl, hT, rfl, hx, hy⟩
      rw [List.getElem?_map] at hx hy
      obtain ⟨z, hz, rfl⟩ := Option.map_eq_some_iff.mp hx
      obtain ⟨c, hc, rfl⟩ := Option.map_eq_some_iff.mp hy
      have hzc : (kw16.zip (ex16.map ow))[i]? = some (z, c) := by
        rw [List.getElem?_zip_eq_some]
        exact ⟨hz, hc⟩
      have sT := same_new (o := .tup [V.str z, V.bl c]) hT
      have hdd3 := sT _ _ hdd
      refine ⟨Tp, _, rfl, SqT.of upd_same, rfl, _, _, rfl, _, _, rfl, rfl, rfl, ?_⟩
      have i16 : i < 16 := hi
      refine ⟨_, rfl, c, rfl, ?_⟩
      cases c with
      | true =>
        refine iteT ⟨_, rfl, _, hdd3, ?_, ?_, ?_⟩
        · rw [List.length_map]
          refine line_lt (Nat.le_trans (List.length_filter_le _ _) ?_)
          rw [List.length_take]
          omega
        · rw [upd_same, take_one hzc, List.filter_append, List.map_append]
          rfl
        · intro b o e
          rw [upd_ne (ne_of_none e hD1)]
          exact sT _ _ (s2 _ _ e)
      | false =>
        refine iteF ⟨?_, s2.trans sT⟩
        rw [take_one hzc, List.filter_append, show ([(z, false)] : List (Str × Bool)).filter (·.2) = [] from rfl, List.append_nil]
        exact hdd3
    rintro J2 ⟨hfd, s2⟩
    have hfd : J2 D1 = some (.lst ((fnd ow).map V.str)) := by
      rw [hfd]
      unfold fnd
      rw [List.map_map]
      rfl
    have ha := s2 _ _ ha
    have hd := dct_same hd s2
    have sm := sm.trans s2
    clear s2
    refine ⟨_, rfl, a, D, d, _, _, _, rfl, ha, hd, T.xc, fun u r => (by cases r; rfl), T.kb "TypeError" (by decide +kernel), ?_⟩
    refine ⟨_, rfl, a, D, d, _, _, _, rfl, ha, hd, T.xc, fun u r => (by cases r; rfl), T.kb "ZeroDivisionError" (by decide +kernel), ?_⟩
    refine ⟨_, rfl, a, D, d, _, _, _, rfl, ha, hd, T.xc, fun u r => (by cases r; rfl), T.kb "ArithmeticError" (by decide +kernel), ?_⟩
    refine ⟨by show 3 ≤ sizeLine; decide, fun p10 f10 => ?_⟩
    have s10 := same_new (o := .lst [V.bl (ab "TypeError"), V.bl (ab "ZeroDivisionError"), V.bl (ab "ArithmeticError")]) f10
    have ha := s10 _ _ ha
    have hd := dct_same hd s10
    have hfd := s10 _ _ hfd
    have hl : (upd J2 p10 (.lst [V.bl (ab "TypeError"), V.bl (ab "ZeroDivisionError"), V.bl (ab "ArithmeticError")])) p10 = some (.lst [V.bl (ab "TypeError"), V.bl (ab "ZeroDivisionError"), V.bl (ab "ArithmeticError")]) := upd_same
    have sm := sm.trans s10
    generalize upd J2 p10 (.lst [V.bl (ab "TypeError"), V.bl (ab "ZeroDivisionError"), V.bl (ab "ArithmeticError")]) = G10 at sm ha hd hl hfd ⊢
    clear s10
    refine ⟨_, rfl, _, rfl, a, D, d, _, _, _, rfl, ha, hd, T.xc, fun u r => (by cases r; rfl), T.kb "ValueError" (by decide +kernel), ?_⟩
    refine ⟨_, rfl, a, D, d, _, _, _, rfl, ha, hd, T.xc, fun u r => (by cases r; rfl), T.kb "KeyError" (by decide +kernel), ?_⟩
    refine ⟨_, rfl, a, D, d, _, _, _, rfl, ha, hd, T.xc, fun u r => (by cases r; rfl), T.kb "LookupError" (by decide +kernel), ?_⟩
    refine ⟨by show 3 ≤ sizeLine; decide, fun p11 f11 => ?_⟩
    have s11 := same_new (o := .lst [V.bl (ab "ValueError"), V.bl (ab "KeyError"), V.bl (ab "LookupError")]) f11
    have ha := s11 _ _ ha
    have hd := dct_same hd s11
    have hfd := s11 _ _ hfd
    have hl2 := s11 _ _ hl
    have hm2 : (upd G10 p11 (.lst [V.bl (ab "ValueError"), V.bl (ab "KeyError"), V.bl (ab "LookupError")])) p11 = some (.lst [V.bl (ab "ValueError"), V.bl (ab "KeyError"), V.bl (ab "LookupError")]) := upd_same
    have sm2 := sm.trans s11
    generalize upd G10 p11 (.lst [V.bl (ab "ValueError"), V.bl (ab "KeyError"), V.bl (ab "LookupError")]) = G11 at sm2 ha hd hl2 hm2 hfd ⊢
    clear s11
    refine ⟨p10, p11, _, _, rfl, rfl, hl2, hm2, by show 6 ≤ sizeLine; decide, fun p12 f12 => ?_⟩
    have s12 := same_new (o := .lst [V.bl (ab "TypeError"), V.bl (ab "ZeroDivisionError"), V.bl (ab "ArithmeticError"), V.bl (ab "ValueError"), V.bl (ab "KeyError"), V.bl (ab "LookupError")]) f12
    have ha := s12 _ _ ha
    have hd := dct_same hd s12
    have hfd := s12 _ _ hfd
    have hl : (upd G11 p12 (.lst [V.bl (ab "TypeError"), V.bl (ab "ZeroDivisionError"), V.bl (ab "ArithmeticError"), V.bl (ab "ValueError"), V.bl (ab "KeyError"), V.bl (ab "LookupError")])) p12 = some (.lst [V.bl (ab "TypeError"), V.bl (ab "ZeroDivisionError"), V.bl (ab "ArithmeticError"), V.bl (ab "ValueError"), V.bl (ab "KeyError"), V.bl (ab "LookupError")]) := upd_same
    have sm := sm2.trans s12
    dsimp only [List.cons_append, List.nil_append] at *
    generalize upd G11 p12 (.lst [V.bl (ab "TypeError"), V.bl (ab "ZeroDivisionError"), V.bl (ab "ArithmeticError"), V.bl (ab "ValueError"), V.bl (ab "KeyError"), V.bl (ab "LookupError")]) = G12 at sm ha hd hl hfd ⊢
    clear hl2 hm2 sm2 s12
    refine ⟨_, rfl, _, rfl, a, D, d, _, _, _, rfl, ha, hd, T.xc, fun u r => (by cases r; rfl), T.kb "IndexError" (by decide +kernel), ?_⟩
    refine ⟨_, rfl, a, D, d, _, _, _, rfl, ha, hd, T.xc, fun u r => (by cases r; rfl), T.kb "OverflowError" (by decide +kernel), ?_⟩
    refine ⟨_, rfl, a, D, d, _, _, _, rfl, ha, hd, T.xc, fun u r => (by cases r; rfl), T.kb "RuntimeError" (by decide +kernel), ?_⟩
    refine ⟨by show 3 ≤ sizeLine; decide, fun p13 f13 => ?_⟩
    have s13 := same_new (o := .lst [V.bl (ab "IndexError"), V.bl (ab "OverflowError"), V.bl (ab "RuntimeError")]) f13
    have ha := s13 _ _ ha
    have hd := dct_same hd s13
    have hfd := s13 _ _ hfd
    have hl2 := s13 _ _ hl
    have hm2 : (upd G12 p13 (.lst [V.bl (ab "IndexError"), V.bl (ab "OverflowError"), V.bl (ab "RuntimeError")])) p13 = some (.lst [V.bl (ab "IndexError"), V.bl (ab "OverflowError"), V.bl (ab "RuntimeError")]) := upd_same
    have sm2 := sm.trans s13
    generalize upd G12 p13 (.lst [V.bl (ab "IndexError"), V.bl (ab "OverflowError"), V.bl (ab "RuntimeError")]) = G13 at sm2 ha hd hl2 hm2 hfd ⊢
    clear s13
    refine ⟨p12, p13, _, _, rfl, rfl, hl2, hm2, by show 9 ≤ sizeLine; decide, fun p14 f14 => ?_⟩
    have s14 := same_new (o := .lst [V.bl (ab "TypeError"), V.bl (ab "ZeroDivisionError"), V.bl (ab "ArithmeticError"), V.bl (ab "ValueError"), V.bl (ab "KeyError"), V.bl (ab "LookupError"), V.bl (ab "IndexError"), V.bl (ab "OverflowError"), V.bl (ab "RuntimeError")]) f14
    have ha := s14 _ _ ha
    have hd := dct_same hd s14
    have hfd := s14 _ _ hfd
    have hl : (upd G13 p14 (.lst [V.bl (ab "TypeError"), V.bl (ab "ZeroDivisionError"), V.bl (ab "ArithmeticError"), V.bl (ab "ValueError"), V.bl (ab "KeyError"), V.bl (ab "LookupError"), V.bl (ab "IndexError"), V.bl (ab "OverflowError"), V.bl (ab "RuntimeError")])) p14 = some (.lst [V.bl (ab "TypeError"), V.bl (ab "ZeroDivisionError"), V.bl (ab "ArithmeticError"), V.bl (ab "ValueError"), V.bl (ab "KeyError"), V.bl (ab "LookupError"), V.bl (ab "IndexError"), V.bl (ab "OverflowError"), V.bl (ab "RuntimeError")]) := upd_same
    have sm := sm2.trans s14
    dsimp only [List.cons_append, List.nil_append] at *
    generalize upd G13 p14 (.lst [V.bl (ab "TypeError"), V.bl (ab "ZeroDivisionError"), V.bl (ab "ArithmeticError"), V.bl (ab "ValueError"), V.bl (ab "KeyError"), V.bl (ab "LookupError"), V.bl (ab "IndexError"), V.bl (ab "OverflowError"), V.bl (ab "RuntimeError")]) = G14 at sm ha hd hl hfd ⊢
    clear hl2 hm2 sm2 s14
    refine ⟨_, rfl, _, rfl, _, rfl, a, D, d, _, _, _, rfl, ha, hd, T.xc, fun u r => (by cases r; rfl), T.kb "NotImplementedError" (by decide +kernel), by show 1 ≤ sizeLine; decide, fun pz fz => ?_⟩
    have sz := same_new (o := .lst [V.bl (ab "NotImplementedError")]) fz
    refine ⟨p14, pz, _, _, rfl, rfl, sz _ _ hl, upd_same, by show 10 ≤ sizeLine; decide, fun m fm => ?_⟩
    have hm : (upd (upd G14 pz (.lst [V.bl (ab "NotImplementedError")])) m (.lst (ex10.map fun x => V.bl (ab x)))) m = some (.lst (ex10.map fun x => V.bl (ab x))) := upd_same
    have sm3 := same_new (o := .lst (ex10.map fun x => V.bl (ab x))) fm
    refine ⟨by show 2 ≤ sizeLine; decide, fun t ft => ?_⟩
    have st := same_new (o := .tup [.ref D1, .ref m]) ft
    have sall := (sm.trans sz).trans sm3
    exact hQ t D1 m _ (sall.trans st) (sall.free ft) upd_same (st _ _ (sm3 _ _ (sz _ _ hfd))) (st _ _ hm)
end
end K40
set_option Elab.async false
set_option linter.all false
set_option maxRecDepth 100000
set_option maxHeartbeats 4000000
namespace K40
open PySem PySem.Spec PyProof.Rows L2
open C8 (Cal Mak Met pe_c pe_mk pe_mt pe_mt0)
section
variable {P : Program} {w : World} {K : PySem.W.Frag} {mg : Str → Option Value} {base : Heap} {f C CT D : Addr} {fd : FuncData}
def plc : List (Str × List Int) := [("kind", [0]), ("nought", [1, 2]), ("share", [2]), ("uneven", [2]), ("name", [4, 5]), ("day", [5]), ("seats", [5, 6]), ("many", [2, 7]), ("taken", [8]), ("rule", [8, 9]), ("done", []), ("row", [])]
/-- which of the ten stand above, by the word -/
def abv (l : List Int) (i : Nat) : Bool := inV (.int (i : Int)) (l.map V.int)
def spBa : Sp := fun vs H Q _ => ∃ (wd : Str) (l : List Int), vs = [.str wd] ∧ (wd, l) ∈ plc ∧ ∀ (t : Addr) (H' : Hp), Same H H' → H t = none → H' t = some (.lst ((List.range 10).map fun i => V.bl (abv l i))) → Q (.ref t) H'
theorem ok_ba (F : Dn K d_l_bases f fd) (b : Bl mg) : FnOk P w K mg base CX0 1 f fd ["_law_word"] spBa := by
  refine F.ok sc_l_bases (fun vs H Q E h => ?_) (fun cdv A outer s H vs Q E hr h => ?_)
  · obtain ⟨wd, l, rfl, _⟩ := h
    rfl
  · obtain ⟨wd, l, rfl, hw, hQ⟩ := h
    have hu : (A.deeper (envOfC d_l_bases.qual d_l_bases.scope s.heap.objs.size f cdv)).units + 1 < cLine := hu_of hr
    refine ⟨_, PSs.nox (pss_cons (ps_set (i := 1) sc_l_bases.nd rfl (.inr rfl) (pe_disp (pps_cons pe_str (pe_lst (pa_cons pe_int pa_nil)) (pps_cons pe_str (pe_lst (pa_cons pe_int (pa_cons pe_int pa_nil))) (pps_cons pe_str (pe_lst (pa_cons pe_int pa_nil)) (pps_cons pe_str (pe_lst (pa_cons pe_int pa_nil)) (pps_cons pe_str (pe_lst (pa_cons pe_int (pa_cons pe_int pa_nil))) (pps_cons pe_str (pe_lst (pa_cons pe_int pa_nil)) (pps_cons pe_str (pe_lst (pa_cons pe_int (pa_cons pe_int pa_nil))) pps_nil))))))) rfl rfl (List.cons_ne_nil _ _) (by decide)))
      (pss_cons (ps_expr (pe_bm PySem.F.plainAttrs_dict PySem.F.slot_dict_update PySem.F.type_dict_update DU.mt_upd (pv 1) (pa_cons (pe_disp (pps_cons pe_str (pe_lst (pa_cons pe_int (pa_cons pe_int pa_nil))) (pps_cons pe_str (pe_lst (pa_cons pe_int pa_nil)) (pps_cons pe_str (pe_lst (pa_cons pe_int (pa_cons pe_int pa_nil))) (pps_cons pe_str (pe_lst pa_nil) (pps_cons pe_str (pe_lst pa_nil) pps_nil))))) rfl rfl (List.cons_ne_nil _ _) (by decide)) pa_nil)))
      (pss_one (ps_ret (pe_lc (own := [("_law_k", 2)]) (g := gName 2) (tt := tYes) rfl sc_l_bases.nd (pi_range1 rfl b.range (pa_cons pe_int pa_nil)) (blkOk_by (N := N_l_bases) (sc := defScope s_l_bases) (by decide +kernel))
          (fun _ _ _ _ _ => pg_name (i := 2) sc_l_bases.nd rfl (Or.inl rfl)) (fun _ _ _ _ _ => pts_nil) (fun _ _ _ _ _ => pe_cmpR (r := rIn K false) op_in_seq (pv 2) (pe_dget2 hu (pv 1) (pv 0) (pe_lst (pa_cons pe_int pa_nil)) ⟨rfl, rfl, rfl, rfl⟩) (by rfl))))))), ?_⟩
    have sm := Same.refl H
    intro p1 fp1
    have sp := same_new (o := .dK []) fp1
    have ep1 : (upd H p1 (.dK [])) p1 = some (.dK []) := upd_same
    have sm := sm.trans sp
    generalize upd H p1 (.dK []) = Jp1 at sm ep1 ⊢
    clear sp
    refine ⟨by show 1 ≤ sizeLine; decide, fun q1 g1 => ?_⟩
    have sp := same_new (o := .lst [.int 0]) g1
    have h1 : (upd Jp1 q1 (.lst [.int 0])) q1 = some (.lst [.int 0]) := upd_same
    have ep1 := sp _ _ ep1
    have sm := sm.trans sp
    generalize upd Jp1 q1 (.lst [.int 0]) = J1 at sm ep1 h1 ⊢
    clear sp
    refine ⟨by show 2 ≤ sizeLine; decide, fun q2 g2 => ?_⟩
    have sp := same_new (o := .lst [.int 1, .int 2]) g2
    have h2 : (upd J1 q2 (.lst [.int 1, .int 2])) q2 = some (.lst [.int 1, .int 2]) := upd_same
    have ep1 := sp _ _ ep1
    have h1 := sp _ _ h1
    have sm := sm.trans sp
    generalize upd J1 q2 (.lst [.int 1, .int 2]) = J2 at sm ep1 h1 h2 ⊢
    clear sp
    refine ⟨by show 1 ≤ sizeLine; decide, fun q3 g3 => ?_⟩
    have sp := same_new (o := .lst [.int 2]) g3
    have h3 : (upd J2 q3 (.lst [.int 2])) q3 = some (.lst [.int 2]) := upd_same
    have ep1 := sp _ _ ep1
    have h1 := sp _ _ h1
    have h2 := sp _ _ h2
    have sm := sm.trans sp
    generalize upd J2 q3 (.lst [.int 2]) = J3 at sm ep1 h1 h2 h3 ⊢
    clear sp
    refine ⟨by show 1 ≤ sizeLine; decide, fun q4 g4 => ?_⟩
    have sp := same_new (o := .lst [.int 2]) g4
    have h4 : (upd J3 q4 (.lst [.int 2])) q4 = some (.lst [.int 2]) := upd_same
    have ep1 := sp _ _ ep1
    have h1 := sp _ _ h1
    have h2 := sp _ _ h2
    have h3 := sp _ _ h3
    have sm := sm.trans sp
    generalize upd J3 q4 (.lst [.int 2]) = J4 at sm ep1 h1 h2 h3 h4 ⊢
    clear sp
    refine ⟨by show 2 ≤ sizeLine; decide, fun q5 g5 => ?_⟩
    have sp := same_new (o := .lst [.int 4, .int 5]) g5
    have h5 : (upd J4 q5 (.lst [.int 4, .int 5])) q5 = some (.lst [.int 4, .int 5]) := upd_same
    have ep1 := sp _ _ ep1
    have h1 := sp _ _ h1
    have h2 := sp _ _ h2
    have h3 := sp _ _ h3
    have h4 := sp _ _ h4
    have sm := sm.trans sp
    generalize upd J4 q5 (.lst [.int 4, .int 5]) = J5 at sm ep1 h1 h2 h3 h4 h5 ⊢
    clear sp
    refine ⟨by show 1 ≤ sizeLine; decide, fun q6 g6 => ?_⟩
    have sp := same_new (o := .lst [.int 5]) g6
    have h6 : (upd J5 q6 (.lst [.int 5])) q6 = some (.lst [.int 5]) := upd_same
    have ep1 := sp _ _ ep1
    have h1 := sp _ _ h1
    have h2 := sp _ _ h2
    have h3 := sp _ _ h3
    have h4 := sp _ _ h4
    have h5 := sp _ _ h5
    have sm := sm.trans sp
    generalize upd J5 q6 (.lst [.int 5]) = J6 at sm ep1 h1 h2 h3 h4 h5 h6 ⊢
    clear sp
    refine ⟨by show 2 ≤ sizeLine; decide, fun q7 g7 => ?_⟩
    have sp := same_new (o := .lst [.int 5, .int 6]) g7
    have h7 : (upd J6 q7 (.lst [.int 5, .int 6])) q7 = some (.lst [.int 5, .int 6]) := upd_same
    have ep1 := sp _ _ ep1
    have h1 := sp _ _ h1
    have h2 := sp _ _ h2
    have h3 := sp _ _ h3
    have h4 := sp _ _ h4
    have h5 := sp _ _ h5
    have h6 := sp _ _ h6
    have sm := sm.trans sp
    generalize upd J6 q7 (.lst [.int 5, .int 6]) = J7 at sm ep1 h1 h2 h3 h4 h5 h6 h7 ⊢
    clear sp
    have np1 : H p1 = none := fp1
    refine ⟨ep1, [((Sum.inr "kind" : Key), V.ref q1), ((Sum.inr "nought" : Key), V.ref q2), ((Sum.inr "share" : Key), V.ref q3), ((Sum.inr "uneven" : Key), V.ref q4), ((Sum.inr "name" : Key), V.ref q5), ((Sum.inr "day" : Key), V.ref q6), ((Sum.inr "seats" : Key), V.ref q7)], rfl, (show 7 ≤ 15 by decide), ?_⟩
    have ne1 : ∀ {b : Addr} {ys : List V}, J7 b = some (.lst ys) → b ≠ p1 := fun e z => by rw [z, ep1] at e; cases e
    have h1 : (upd J7 p1 (.dK (mergeK [] [((Sum.inr "kind" : Key), V.ref q1), ((Sum.inr "nought" : Key), V.ref q2), ((Sum.inr "share" : Key), V.ref q3), ((Sum.inr "uneven" : Key), V.ref q4), ((Sum.inr "name" : Key), V.ref q5), ((Sum.inr "day" : Key), V.ref q6), ((Sum.inr "seats" : Key), V.ref q7)]))) q1 = some (.lst [.int 0]) := by rw [upd_ne (ne1 h1)]; exact h1
    have h2 : (upd J7 p1 (.dK (mergeK [] [((Sum.inr "kind" : Key), V.ref q1), ((Sum.inr "nought" : Key), V.ref q2), ((Sum.inr "share" : Key), V.ref q3), ((Sum.inr "uneven" : Key), V.ref q4), ((Sum.inr "name" : Key), V.ref q5), ((Sum.inr "day" : Key), V.ref q6), ((Sum.inr "seats" : Key), V.ref q7)]))) q2 = some (.lst [.int 1, .int 2]) := by rw [upd_ne (ne1 h2)]; exact h2
    have h3 : (upd J7 p1 (.dK (mergeK [] [((Sum.inr "kind" : Key), V.ref q1), ((Sum.inr "nought" : Key), V.ref q2), ((Sum.inr "share" : Key), V.ref q3), ((Sum.inr "uneven" : Key), V.ref q4), ((Sum.inr "name" : Key), V.ref q5), ((Sum.inr "day" : Key), V.ref q6), ((Sum.inr "seats" : Key), V.ref q7)]))) q3 = some (.lst [.int 2]) := by rw [upd_ne (ne1 h3)]; exact h3
    have h4 : (upd J7 p1 (.dK (mergeK [] [((Sum.inr "kind" : Key), V.ref q1), ((Sum.inr "nought" : Key), V.ref q2), ((Sum.inr "share" : Key), V.ref q3), ((Sum.inr "uneven" : Key), V.ref q4), ((Sum.inr "name" : Key), V.ref q5), ((Sum.inr "day" : Key), V.ref q6), ((Sum.inr "seats" : Key), V.ref q7)]))) q4 = some (.lst [.int 2]) := by rw [upd_ne (ne1 h4)]; exact h4
    have h5 : (upd J7 p1 (.dK (mergeK [] [((Sum.inr "kind" : Key), V.ref q1), ((Sum.inr "nought" : Key), V.ref q2), ((Sum.inr "share" : Key), V.ref q3), ((Sum.inr "uneven" : Key), V.ref q4), ((Sum.inr "name" : Key), V.ref q5), ((Sum.inr "day" : Key), V.ref q6), ((Sum.inr "seats" : Key), V.ref q7)]))) q5 = some (.lst [.int 4, .int 5]) := by rw [upd_ne (ne1 h5)]; exact h5
    have h6 : (upd J7 p1 (.dK (mergeK [] [((Sum.inr "kind" : Key), V.ref q1), ((Sum.inr "nought" : Key), V.ref q2), ((Sum.inr "share" : Key), V.ref q3), ((Sum.inr "uneven" : Key), V.ref q4), ((Sum.inr "name" : Key), V.ref q5), ((Sum.inr "day" : Key), V.ref q6), ((Sum.inr "seats" : Key), V.ref q7)]))) q6 = some (.lst [.int 5]) := by rw [upd_ne (ne1 h6)]; exact h6
    have h7 : (upd J7 p1 (.dK (mergeK [] [((Sum.inr "kind" : Key), V.ref q1), ((Sum.inr "nought" : Key), V.ref q2), ((Sum.inr "share" : Key), V.ref q3), ((Sum.inr "uneven" : Key), V.ref q4), ((Sum.inr "name" : Key), V.ref q5), ((Sum.inr "day" : Key), V.ref q6), ((Sum.inr "seats" : Key), V.ref q7)]))) q7 = some (.lst [.int 5, .int 6]) := by rw [upd_ne (ne1 h7)]; exact h7
    have hp1 : (upd J7 p1 (.dK (mergeK [] [((Sum.inr "kind" : Key), V.ref q1), ((Sum.inr "nought" : Key), V.ref q2), ((Sum.inr "share" : Key), V.ref q3), ((Sum.inr "uneven" : Key), V.ref q4), ((Sum.inr "name" : Key), V.ref q5), ((Sum.inr "day" : Key), V.ref q6), ((Sum.inr "seats" : Key), V.ref q7)]))) p1 = some (.dK (mergeK [] [((Sum.inr "kind" : Key), V.ref q1), ((Sum.inr "nought" : Key), V.ref q2), ((Sum.inr "share" : Key), V.ref q3), ((Sum.inr "uneven" : Key), V.ref q4), ((Sum.inr "name" : Key), V.ref q5), ((Sum.inr "day" : Key), V.ref q6), ((Sum.inr "seats" : Key), V.ref q7)])) := upd_same
    have sm2 : Same H (upd J7 p1 (.dK (mergeK [] [((Sum.inr "kind" : Key), V.ref q1), ((Sum.inr "nought" : Key), V.ref q2), ((Sum.inr "share" : Key), V.ref q3), ((Sum.inr "uneven" : Key), V.ref q4), ((Sum.inr "name" : Key), V.ref q5), ((Sum.inr "day" : Key), V.ref q6), ((Sum.inr "seats" : Key), V.ref q7)]))) := fun b o e => by rw [upd_ne (ne_of_none e np1)]; exact sm _ _ e
    clear ne1 ep1 sm
    have sm := sm2
    clear sm2
    generalize upd J7 p1 (.dK (mergeK [] [((Sum.inr "kind" : Key), V.ref q1), ((Sum.inr "nought" : Key), V.ref q2), ((Sum.inr "share" : Key), V.ref q3), ((Sum.inr "uneven" : Key), V.ref q4), ((Sum.inr "name" : Key), V.ref q5), ((Sum.inr "day" : Key), V.ref q6), ((Sum.inr "seats" : Key), V.ref q7)])) = Ja at sm hp1 h1 h2 h3 h4 h5 h6 h7 ⊢
    have smJ := sm
    have hp1J := hp1
    refine ⟨_, rfl, .inr (.inr (.inl ⟨rfl, .inl ⟨_, hp1⟩⟩)), fun p2 fp2 => ?_⟩
    have sp := same_new (o := .dK []) fp2
    have ep2 : (upd Ja p2 (.dK [])) p2 = some (.dK []) := upd_same
    have h1 := sp _ _ h1
    have h2 := sp _ _ h2
    have h3 := sp _ _ h3
    have h4 := sp _ _ h4
    have h5 := sp _ _ h5
    have h6 := sp _ _ h6
    have h7 := sp _ _ h7
    have hp1 := sp _ _ hp1
    have sm := sm.trans sp
    generalize upd Ja p2 (.dK []) = Jp2 at sm h1 h2 h3 h4 h5 h6 h7 hp1 ep2 ⊢
    clear sp
    refine ⟨by show 2 ≤ sizeLine; decide, fun q8 g8 => ?_⟩
    have sp := same_new (o := .lst [.int 2, .int 7]) g8
    have h8 : (upd Jp2 q8 (.lst [.int 2, .int 7])) q8 = some (.lst [.int 2, .int 7]) := upd_same
    have h1 := sp _ _ h1
    have h2 := sp _ _ h2
    have h3 := sp _ _ h3
    have h4 := sp _ _ h4
    have h5 := sp _ _ h5
    have h6 := sp _ _ h6
    have h7 := sp _ _ h7
    have hp1 := sp _ _ hp1
    have ep2 := sp _ _ ep2
    have sm := sm.trans sp
    generalize upd Jp2 q8 (.lst [.int 2, .int 7]) = J8 at sm h1 h2 h3 h4 h5 h6 h7 hp1 ep2 h8 ⊢
    clear sp
    refine ⟨by show 1 ≤ sizeLine; decide, fun q9 g9 => ?_⟩
    have sp := same_new (o := .lst [.int 8]) g9
    have h9 : (upd J8 q9 (.lst [.int 8])) q9 = some (.lst [.int 8]) := upd_same
    have h1 := sp _ _ h1
    have h2 := sp _ _ h2
    have h3 := sp _ _ h3
    have h4 := sp _ _ h4
    have h5 := sp _ _ h5
    have h6 := sp _ _ h6
    have h7 := sp _ _ h7
    have hp1 := sp _ _ hp1
    have ep2 := sp _ _ ep2
    have h8 := sp _ _ h8
    have sm := sm.trans sp
    generalize upd J8 q9 (.lst [.int 8]) = J9 at sm h1 h2 h3 h4 h5 h6 h7 hp1 ep2 h8 h9 ⊢
    clear sp
    refine ⟨by show 2 ≤ sizeLine; decide, fun q10 g10 => ?_⟩
    have sp := same_new (o := .lst [.int 8, .int 9]) g10
    have h10 : (upd J9 q10 (.lst [.int 8, .int 9])) q10 = some (.lst [.int 8, .int 9]) := upd_same
    have h1 := sp _ _ h1
    have h2 := sp _ _ h2
    have h3 := sp _ _ h3
    have h4 := sp _ _ h4
    have h5 := sp _ _ h5
    have h6 := sp _ _ h6
    have h7 := sp _ _ h7
    have hp1 := sp _ _ hp1
    have ep2 := sp _ _ ep2
    have h8 := sp _ _ h8
    have h9 := sp _ _ h9
    have sm := sm.trans sp
    generalize upd J9 q10 (.lst [.int 8, .int 9]) = J10 at sm h1 h2 h3 h4 h5 h6 h7 hp1 ep2 h8 h9 h10 ⊢
    clear sp
    refine ⟨by show 0 ≤ sizeLine; decide, fun q11 g11 => ?_⟩
    have sp := same_new (o := .lst []) g11
    have h11 : (upd J10 q11 (.lst [])) q11 = some (.lst []) := upd_same
    have h1 := sp _ _ h1
    have h2 := sp _ _ h2
    have h3 := sp _ _ h3
    have h4 := sp _ _ h4
    have h5 := sp _ _ h5
    have h6 := sp _ _ h6
    have h7 := sp _ _ h7
    have hp1 := sp _ _ hp1
    have ep2 := sp _ _ ep2
    have h8 := sp _ _ h8
    have h9 := sp _ _ h9
    have h10 := sp _ _ h10
    have sm := sm.trans sp
    generalize upd J10 q11 (.lst []) = J11 at sm h1 h2 h3 h4 h5 h6 h7 hp1 ep2 h8 h9 h10 h11 ⊢
    clear sp
    refine ⟨by show 0 ≤ sizeLine; decide, fun q12 g12 => ?_⟩
    have sp := same_new (o := .lst []) g12
    have h12 : (upd J11 q12 (.lst [])) q12 = some (.lst []) := upd_same
    have h1 := sp _ _ h1
    have h2 := sp _ _ h2
    have h3 := sp _ _ h3
    have h4 := sp _ _ h4
    have h5 := sp _ _ h5
    have h6 := sp _ _ h6
    have h7 := sp _ _ h7
    have hp1 := sp _ _ hp1
    have ep2 := sp _ _ ep2
    have h8 := sp _ _ h8
    have h9 := sp _ _ h9
    have h10 := sp _ _ h10
    have h11 := sp _ _ h11
    have sm := sm.trans sp
    generalize upd J11 q12 (.lst []) = J12 at sm h1 h2 h3 h4 h5 h6 h7 hp1 ep2 h8 h9 h10 h11 h12 ⊢
    clear sp
    have n12 : p1 ≠ p2 := ne_of_none hp1J fp2
    refine ⟨ep2, [((Sum.inr "many" : Key), V.ref q8), ((Sum.inr "taken" : Key), V.ref q9), ((Sum.inr "rule" : Key), V.ref q10), ((Sum.inr "done" : Key), V.ref q11), ((Sum.inr "row" : Key), V.ref q12)], rfl, (show 5 ≤ 15 by decide), ?_⟩
    have ne1 : ∀ {b : Addr} {ys : List V}, J12 b = some (.lst ys) → b ≠ p2 := fun e z => by rw [z, ep2] at e; cases e
    have np2 : H p2 = none := smJ.free fp2
    have h1 : (upd J12 p2 (.dK (mergeK [] [((Sum.inr "many" : Key), V.ref q8), ((Sum.inr "taken" : Key), V.ref q9), ((Sum.inr "rule" : Key), V.ref q10), ((Sum.inr "done" : Key), V.ref q11), ((Sum.inr "row" : Key), V.ref q12)]))) q1 = some (.lst [.int 0]) := by rw [upd_ne (ne1 h1)]; exact h1
    have h2 : (upd J12 p2 (.dK (mergeK [] [((Sum.inr "many" : Key), V.ref q8), ((Sum.inr "taken" : Key), V.ref q9), ((Sum.inr "rule" : Key), V.ref q10), ((Sum.inr "done" : Key), V.ref q11), ((Sum.inr "row" : Key), V.ref q12)]))) q2 = some (.lst [.int 1, .int 2]) := by rw [upd_ne (ne1 h2)]; exact h2
    have h3 : (upd J12 p2 (.dK (mergeK [] [((Sum.inr "many" : Key), V.ref q8), ((Sum.inr "taken" : Key), V.ref q9), ((Sum.inr "rule" : Key), V.ref q10), ((Sum.inr "done" : Key), V.ref q11), ((Sum.inr "row" : Key), V.ref q12)]))) q3 = some (.lst [.int 2]) := by rw [upd_ne (ne1 h3)]; exact h3
    have h4 : (upd J12 p2 (.dK (mergeK [] [((Sum.inr "many" : Key), V.ref q8), ((Sum.inr "taken" : Key), V.ref q9), ((Sum.inr "rule" : Key), V.ref q10), ((Sum.inr "done" : Key), V.ref q11), ((Sum.inr "row" : Key), V.ref q12)]))) q4 = some (.lst [.int 2]) := by rw [upd_ne (ne1 h4)]; exact h4
    have h5 : (upd J12 p2 (.dK (mergeK [] [((Sum.inr "many" : Key), V.ref q8), ((Sum.inr "taken" : Key), V.ref q9), ((Sum.inr "rule" : Key), V.ref q10), ((Sum.inr "done" : Key), V.ref q11), ((Sum.inr "row" : Key), V.ref q12)]))) q5 = some (.lst [.int 4, .int 5]) := by rw [upd_ne (ne1 h5)]; exact h5
    have h6 : (upd J12 p2 (.dK (mergeK [] [((Sum.inr "many" : Key), V.ref q8), ((Sum.inr "taken" : Key), V.ref q9), ((Sum.inr "rule" : Key), V.ref q10), ((Sum.inr "done" : Key), V.ref q11), ((Sum.inr "row" : Key), V.ref q12)]))) q6 = some (.lst [.int 5]) := by rw [upd_ne (ne1 h6)]; exact h6
    have h7 : (upd J12 p2 (.dK (mergeK [] [((Sum.inr "many" : Key), V.ref q8), ((Sum.inr "taken" : Key), V.ref q9), ((Sum.inr "rule" : Key), V.ref q10), ((Sum.inr "done" : Key), V.ref q11), ((Sum.inr "row" : Key), V.ref q12)]))) q7 = some (.lst [.int 5, .int 6]) := by rw [upd_ne (ne1 h7)]; exact h7
    have hp1 := (upd_ne n12 : (upd J12 p2 (.dK (mergeK [] [((Sum.inr "many" : Key), V.ref q8), ((Sum.inr "taken" : Key), V.ref q9), ((Sum.inr "rule" : Key), V.ref q10), ((Sum.inr "done" : Key), V.ref q11), ((Sum.inr "row" : Key), V.ref q12)]))) p1 = _).trans hp1
    have h8 : (upd J12 p2 (.dK (mergeK [] [((Sum.inr "many" : Key), V.ref q8), ((Sum.inr "taken" : Key), V.ref q9), ((Sum.inr "rule" : Key), V.ref q10), ((Sum.inr "done" : Key), V.ref q11), ((Sum.inr "row" : Key), V.ref q12)]))) q8 = some (.lst [.int 2, .int 7]) := by rw [upd_ne (ne1 h8)]; exact h8
    have h9 : (upd J12 p2 (.dK (mergeK [] [((Sum.inr "many" : Key), V.ref q8), ((Sum.inr "taken" : Key), V.ref q9), ((Sum.inr "rule" : Key), V.ref q10), ((Sum.inr "done" : Key), V.ref q11), ((Sum.inr "row" : Key), V.ref q12)]))) q9 = some (.lst [.int 8]) := by rw [upd_ne (ne1 h9)]; exact h9
    have h10 : (upd J12 p2 (.dK (mergeK [] [((Sum.inr "many" : Key), V.ref q8), ((Sum.inr "taken" : Key), V.ref q9), ((Sum.inr "rule" : Key), V.ref q10), ((Sum.inr "done" : Key), V.ref q11), ((Sum.inr "row" : Key), V.ref q12)]))) q10 = some (.lst [.int 8, .int 9]) := by rw [upd_ne (ne1 h10)]; exact h10
    have h11 : (upd J12 p2 (.dK (mergeK [] [((Sum.inr "many" : Key), V.ref q8), ((Sum.inr "taken" : Key), V.ref q9), ((Sum.inr "rule" : Key), V.ref q10), ((Sum.inr "done" : Key), V.ref q11), ((Sum.inr "row" : Key), V.ref q12)]))) q11 = some (.lst []) := by rw [upd_ne (ne1 h11)]; exact h11
    have h12 : (upd J12 p2 (.dK (mergeK [] [((Sum.inr "many" : Key), V.ref q8), ((Sum.inr "taken" : Key), V.ref q9), ((Sum.inr "rule" : Key), V.ref q10), ((Sum.inr "done" : Key), V.ref q11), ((Sum.inr "row" : Key), V.ref q12)]))) q12 = some (.lst []) := by rw [upd_ne (ne1 h12)]; exact h12
    have hp2 : (upd J12 p2 (.dK (mergeK [] [((Sum.inr "many" : Key), V.ref q8), ((Sum.inr "taken" : Key), V.ref q9), ((Sum.inr "rule" : Key), V.ref q10), ((Sum.inr "done" : Key), V.ref q11), ((Sum.inr "row" : Key), V.ref q12)]))) p2 = some (.dK (mergeK [] [((Sum.inr "many" : Key), V.ref q8), ((Sum.inr "taken" : Key), V.ref q9), ((Sum.inr "rule" : Key), V.ref q10), ((Sum.inr "done" : Key), V.ref q11), ((Sum.inr "row" : Key), V.ref q12)])) := upd_same
    have sm2 : Same H (upd J12 p2 (.dK (mergeK [] [((Sum.inr "many" : Key), V.ref q8), ((Sum.inr "taken" : Key), V.ref q9), ((Sum.inr "rule" : Key), V.ref q10), ((Sum.inr "done" : Key), V.ref q11), ((Sum.inr "row" : Key), V.ref q12)]))) := fun b o e => by rw [upd_ne (ne_of_none e np2)]; exact sm _ _ e
    clear ne1 ep2 sm
    have sm := sm2
    clear sm2
    generalize upd J12 p2 (.dK (mergeK [] [((Sum.inr "many" : Key), V.ref q8), ((Sum.inr "taken" : Key), V.ref q9), ((Sum.inr "rule" : Key), V.ref q10), ((Sum.inr "done" : Key), V.ref q11), ((Sum.inr "row" : Key), V.ref q12)])) = Jb at sm hp2 h1 h2 h3 h4 h5 h6 h7 hp1 h8 h9 h10 h11 h12 ⊢
    refine ⟨p1, p2, _, _, rfl, rfl, n12, hp1, hp2, Nat.le_trans (Nat.add_le_add (DU.mergeK_len _ _) (DU.mergeK_len _ _)) (line_of (by simp)), ?_⟩
    have ne1 : ∀ {b : Addr} {ys : List V}, Jb b = some (.lst ys) → b ≠ p1 := fun e z => by rw [z, hp1] at e; cases e
    have h1 : (upd Jb p1 (.dK (mergeK (mergeK [] [((Sum.inr "kind" : Key), V.ref q1), ((Sum.inr "nought" : Key), V.ref q2), ((Sum.inr "share" : Key), V.ref q3), ((Sum.inr "uneven" : Key), V.ref q4), ((Sum.inr "name" : Key), V.ref q5), ((Sum.inr "day" : Key), V.ref q6), ((Sum.inr "seats" : Key), V.ref q7)]) (mergeK [] [((Sum.inr "many" : Key), V.ref q8), ((Sum.inr "taken" : Key), V.ref q9), ((Sum.inr "rule" : Key), V.ref q10), ((Sum.inr "done" : Key), V.ref q11), ((Sum.inr "row" : Key), V.ref q12)])))) q1 = some (.lst [.int 0]) := by rw [upd_ne (ne1 h1)]; exact h1
    have h2 : (upd Jb p1 (.dK (mergeK (mergeK [] [((Sum.inr "kind" : Key), V.ref q1), ((Sum.inr "nought" : Key), V.ref q2), ((Sum.inr "share" : Key), V.ref q3), ((Sum.inr "uneven" : Key), V.ref q4), ((Sum.inr "name" : Key), V.ref q5), ((Sum.inr "day" : Key), V.ref q6), ((Sum.inr "seats" : Key), V.ref q7)]) (mergeK [] [((Sum.inr "many" : Key), V.ref q8), ((Sum.inr "taken" : Key), V.ref q9), ((Sum.inr "rule" : Key), V.ref q10), ((Sum.inr "done" : Key), V.ref q11), ((Sum.inr "row" : Key), V.ref q12)])))) q2 = some (.lst [.int 1, .int 2]) := by rw [upd_ne (ne1 h2)]; exact h2
    have h3 : (upd Jb p1 (.dK (mergeK (mergeK [] [((Sum.inr "kind" : Key), V.ref q1), ((Sum.inr "nought" : Key), V.ref q2), ((Sum.inr "share" : Key), V.ref q3), ((Sum.inr "uneven" : Key), V.ref q4), ((Sum.inr "name" : Key), V.ref q5), ((Sum.inr "day" : Key), V.ref q6), ((Sum.inr "seats" : Key), V.ref q7)]) (mergeK [] [((Sum.inr "many" : Key), V.ref q8), ((Sum.inr "taken" : Key), V.ref q9), ((Sum.inr "rule" : Key), V.ref q10), ((Sum.inr "done" : Key), V.ref q11), ((Sum.inr "row" : Key), V.ref q12)])))) q3 = some (.lst [.int 2]) := by rw [upd_ne (ne1 h3)]; exact h3
    have h4 : (upd Jb p1 (.dK (mergeK (mergeK [] [((Sum.inr "kind" : Key), V.ref q1), ((Sum.inr "nought" : Key), V.ref q2), ((Sum.inr "share" : Key), V.ref q3), ((Sum.inr "uneven" : Key), V.ref q4), ((Sum.inr "name" : Key), V.ref q5), ((Sum.inr "day" : Key), V.ref q6), ((Sum.inr "seats" : Key), V.ref q7)]) (mergeK [] [((Sum.inr "many" : Key), V.ref q8), ((Sum.inr "taken" : Key), V.ref q9), ((Sum.inr "rule" : Key), V.ref q10), ((Sum.inr "done" : Key), V.ref q11), ((Sum.inr "row" : Key), V.ref q12)])))) q4 = some (.lst [.int 2]) := by rw [upd_ne (ne1 h4)]; exact h4
    have h5 : (upd Jb p1 (.dK (mergeK (mergeK [] [((Sum.inr "kind" : Key), V.ref q1), ((Sum.inr "nought" : Key), V.ref q2), ((Sum.inr "share" : Key), V.ref q3), ((Sum.inr "uneven" : Key), V.ref q4), ((Sum.inr "name" : Key), V.ref q5), ((Sum.inr "day" : Key), V.ref q6), ((Sum.inr "seats" : Key), V.ref q7)]) (mergeK [] [((Sum.inr "many" : Key), V.ref q8), ((Sum.inr "taken" : Key), V.ref q9), ((Sum.inr "rule" : Key), V.ref q10), ((Sum.inr "done" : Key), V.ref q11), ((Sum.inr "row" : Key), V.ref q12)])))) q5 = some (.lst [.int 4, .int 5]) := by rw [upd_ne (ne1 h5)]; exact h5
    have h6 : (upd Jb p1 (.dK (mergeK (mergeK [] [((Sum.inr "kind" : Key), V.ref q1), ((Sum.inr "nought" : Key), V.ref q2), ((Sum.inr "share" : Key), V.ref q3), ((Sum.inr "uneven" : Key), V.ref q4), ((Sum.inr "name" : Key), V.ref q5), ((Sum.inr "day" : Key), V.ref q6), ((Sum.inr "seats" : Key), V.ref q7)]) (mergeK [] [((Sum.inr "many" : Key), V.ref q8), ((Sum.inr "taken" : Key), V.ref q9), ((Sum.inr "rule" : Key), V.ref q10), ((Sum.inr "done" : Key), V.ref q11), ((Sum.inr "row" : Key), V.ref q12)])))) q6 = some (.lst [.int 5]) := by rw [upd_ne (ne1 h6)]; exact h6
    have h7 : (upd Jb p1 (.dK (mergeK (mergeK [] [((Sum.inr "kind" : Key), V.ref q1), ((Sum.inr "nought" : Key), V.ref q2), ((Sum.inr "share" : Key), V.ref q3), ((Sum.inr "uneven" : Key), V.ref q4), ((Sum.inr "name" : Key), V.ref q5), ((Sum.inr "day" : Key), V.ref q6), ((Sum.inr "seats" : Key), V.ref q7)]) (mergeK [] [((Sum.inr "many" : Key), V.ref q8), ((Sum.inr "taken" : Key), V.ref q9), ((Sum.inr "rule" : Key), V.ref q10), ((Sum.inr "done" : Key), V.ref q11), ((Sum.inr "row" : Key), V.ref q12)])))) q7 = some (.lst [.int 5, .int 6]) := by rw [upd_ne (ne1 h7)]; exact h7
    have h8 : (upd Jb p1 (.dK (mergeK (mergeK [] [((Sum.inr "kind" : Key), V.ref q1), ((Sum.inr "nought" : Key), V.ref q2), ((Sum.inr "share" : Key), V.ref q3), ((Sum.inr "uneven" : Key), V.ref q4), ((Sum.inr "name" : Key), V.ref q5), ((Sum.inr "day" : Key), V.ref q6), ((Sum.inr "seats" : Key), V.ref q7)]) (mergeK [] [((Sum.inr "many" : Key), V.ref q8), ((Sum.inr "taken" : Key), V.ref q9), ((Sum.inr "rule" : Key), V.ref q10), ((Sum.inr "done" : Key), V.ref q11), ((Sum.inr "row" : Key), V.ref q12)])))) q8 = some (.lst [.int 2, .int 7]) := by rw [upd_ne (ne1 h8)]; exact h8
    have h9 : (upd Jb p1 (.dK (mergeK (mergeK [] [((Sum.inr "kind" : Key), V.ref q1), ((Sum.inr "nought" : Key), V.ref q2), ((Sum.inr "share" : Key), V.ref q3), ((Sum.inr "uneven" : Key), V.ref q4), ((Sum.inr "name" : Key), V.ref q5), ((Sum.inr "day" : Key), V.ref q6), ((Sum.inr "seats" : Key), V.ref q7)]) (mergeK [] [((Sum.inr "many" : Key), V.ref q8), ((Sum.inr "taken" : Key), V.ref q9), ((Sum.inr "rule" : Key), V.ref q10), ((Sum.inr "done" : Key), V.ref q11), ((Sum.inr "row" : Key), V.ref q12)])))) q9 = some (.lst [.int 8]) := by rw [upd_ne (ne1 h9)]; exact h9
    have h10 : (upd Jb p1 (.dK (mergeK (mergeK [] [((Sum.inr "kind" : Key), V.ref q1), ((Sum.inr "nought" : Key), V.ref q2), ((Sum.inr "share" : Key), V.ref q3), ((Sum.inr "uneven" : Key), V.ref q4), ((Sum.inr "name" : Key), V.ref q5), ((Sum.inr "day" : Key), V.ref q6), ((Sum.inr "seats" : Key), V.ref q7)]) (mergeK [] [((Sum.inr "many" : Key), V.ref q8), ((Sum.inr "taken" : Key), V.ref q9), ((Sum.inr "rule" : Key), V.ref q10), ((Sum.inr "done" : Key), V.ref q11), ((Sum.inr "row" : Key), V.ref q12)])))) q10 = some (.lst [.int 8, .int 9]) := by rw [upd_ne (ne1 h10)]; exact h10
    have h11 : (upd Jb p1 (.dK (mergeK (mergeK [] [((Sum.inr "kind" : Key), V.ref q1), ((Sum.inr "nought" : Key), V.ref q2), ((Sum.inr "share" : Key), V.ref q3), ((Sum.inr "uneven" : Key), V.ref q4), ((Sum.inr "name" : Key), V.ref q5), ((Sum.inr "day" : Key), V.ref q6), ((Sum.inr "seats" : Key), V.ref q7)]) (mergeK [] [((Sum.inr "many" : Key), V.ref q8), ((Sum.inr "taken" : Key), V.ref q9), ((Sum.inr "rule" : Key), V.ref q10), ((Sum.inr "done" : Key), V.ref q11), ((Sum.inr "row" : Key), V.ref q12)])))) q11 = some (.lst []) := by rw [upd_ne (ne1 h11)]; exact h11
    have h12 : (upd Jb p1 (.dK (mergeK (mergeK [] [((Sum.inr "kind" : Key), V.ref q1), ((Sum.inr "nought" : Key), V.ref q2), ((Sum.inr "share" : Key), V.ref q3), ((Sum.inr "uneven" : Key), V.ref q4), ((Sum.inr "name" : Key), V.ref q5), ((Sum.inr "day" : Key), V.ref q6), ((Sum.inr "seats" : Key), V.ref q7)]) (mergeK [] [((Sum.inr "many" : Key), V.ref q8), ((Sum.inr "taken" : Key), V.ref q9), ((Sum.inr "rule" : Key), V.ref q10), ((Sum.inr "done" : Key), V.ref q11), ((Sum.inr "row" : Key), V.ref q12)])))) q12 = some (.lst []) := by rw [upd_ne (ne1 h12)]; exact h12
    have sm2 : Same H (upd Jb p1 (.dK (mergeK (mergeK [] [((Sum.inr "kind" : Key), V.ref q1), ((Sum.inr "nought" : Key), V.ref q2), ((Sum.inr "share" : Key), V.ref q3), ((Sum.inr "uneven" : Key), V.ref q4), ((Sum.inr "name" : Key), V.ref q5), ((Sum.inr "day" : Key), V.ref q6), ((Sum.inr "seats" : Key), V.ref q7)]) (mergeK [] [((Sum.inr "many" : Key), V.ref q8), ((Sum.inr "taken" : Key), V.ref q9), ((Sum.inr "rule" : Key), V.ref q10), ((Sum.inr "done" : Key), V.ref q11), ((Sum.inr "row" : Key), V.ref q12)])))) := fun b o e => by rw [upd_ne (ne_of_none e np1)]; exact sm _ _ e
    have hp1 : (upd Jb p1 (.dK (mergeK (mergeK [] [((Sum.inr "kind" : Key), V.ref q1), ((Sum.inr "nought" : Key), V.ref q2), ((Sum.inr "share" : Key), V.ref q3), ((Sum.inr "uneven" : Key), V.ref q4), ((Sum.inr "name" : Key), V.ref q5), ((Sum.inr "day" : Key), V.ref q6), ((Sum.inr "seats" : Key), V.ref q7)]) (mergeK [] [((Sum.inr "many" : Key), V.ref q8), ((Sum.inr "taken" : Key), V.ref q9), ((Sum.inr "rule" : Key), V.ref q10), ((Sum.inr "done" : Key), V.ref q11), ((Sum.inr "row" : Key), V.ref q12)])))) p1 = some (.dK (mergeK (mergeK [] [((Sum.inr "kind" : Key), V.ref q1), ((Sum.inr "nought" : Key), V.ref q2), ((Sum.inr "share" : Key), V.ref q3), ((Sum.inr "uneven" : Key), V.ref q4), ((Sum.inr "name" : Key), V.ref q5), ((Sum.inr "day" : Key), V.ref q6), ((Sum.inr "seats" : Key), V.ref q7)]) (mergeK [] [((Sum.inr "many" : Key), V.ref q8), ((Sum.inr "taken" : Key), V.ref q9), ((Sum.inr "rule" : Key), V.ref q10), ((Sum.inr "done" : Key), V.ref q11), ((Sum.inr "row" : Key), V.ref q12)]))) := upd_same
    clear ne1 hp2 sm
    generalize upd Jb p1 (.dK (mergeK (mergeK [] [((Sum.inr "kind" : Key), V.ref q1), ((Sum.inr "nought" : Key), V.ref q2), ((Sum.inr "share" : Key), V.ref q3), ((Sum.inr "uneven" : Key), V.ref q4), ((Sum.inr "name" : Key), V.ref q5), ((Sum.inr "day" : Key), V.ref q6), ((Sum.inr "seats" : Key), V.ref q7)]) (mergeK [] [((Sum.inr "many" : Key), V.ref q8), ((Sum.inr "taken" : Key), V.ref q9), ((Sum.inr "rule" : Key), V.ref q10), ((Sum.inr "done" : Key), V.ref q11), ((Sum.inr "row" : Key), V.ref q12)]))) = Jc at sm2 hp1 h1 h2 h3 h4 h5 h6 h7 h8 h9 h10 h11 h12 ⊢
    -- which list it is
    obtain ⟨qw, hqw, hv⟩ : ∃ qw, Jc qw = some (.lst (l.map V.int)) ∧ valV (mergeK (mergeK [] [((Sum.inr "kind" : Key), V.ref q1), ((Sum.inr "nought" : Key), V.ref q2), ((Sum.inr "share" : Key), V.ref q3), ((Sum.inr "uneven" : Key), V.ref q4), ((Sum.inr "name" : Key), V.ref q5), ((Sum.inr "day" : Key), V.ref q6), ((Sum.inr "seats" : Key), V.ref q7)]) (mergeK [] [((Sum.inr "many" : Key), V.ref q8), ((Sum.inr "taken" : Key), V.ref q9), ((Sum.inr "rule" : Key), V.ref q10), ((Sum.inr "done" : Key), V.ref q11), ((Sum.inr "row" : Key), V.ref q12)])) (Sum.inr wd : Key) = some (.ref qw) := by
      unfold plc at hw
      simp only [List.mem_cons, List.not_mem_nil, or_false, Prod.mk.injEq] at hw
      rcases hw with ⟨rfl, rfl⟩ | ⟨rfl, rfl⟩ | ⟨rfl, rfl⟩ | ⟨rfl, rfl⟩ | ⟨rfl, rfl⟩ | ⟨rfl, rfl⟩ | ⟨rfl, rfl⟩ | ⟨rfl, rfl⟩ | ⟨rfl, rfl⟩ | ⟨rfl, rfl⟩ | ⟨rfl, rfl⟩ | ⟨rfl, rfl⟩
      · exact ⟨q1, h1, by kernel_rfl⟩
      · exact ⟨q2, h2, by kernel_rfl⟩
      · exact ⟨q3, h3, by kernel_rfl⟩
      · exact ⟨q4, h4, by kernel_rfl⟩
      · exact ⟨q5, h5, by kernel_rfl⟩
      · exact ⟨q6, h6, by kernel_rfl⟩
      · exact ⟨q7, h7, by kernel_rfl⟩
      · exact ⟨q8, h8, by kernel_rfl⟩
      · exact ⟨q9, h9, by kernel_rfl⟩
      · exact ⟨q10, h10, by kernel_rfl⟩
      · exact ⟨q11, h11, by kernel_rfl⟩
      · exact ⟨q12, h12, by kernel_rfl⟩
    have dg : ∀ H', Same Jc H' → DGet H' p1 (.str wd) (some (.ref qw)) := fun H' s' => by
      have := DGet.k (k := Sum.inr wd) (s' _ _ hp1)
      rw [hv] at this
      exact this
    refine ⟨_, rfl, by decide, by decide, ?_⟩
    intro E1 hE1
    refine lc_range (n := 10) (fun i H' => H' E1 = some (.lst ((List.range i).map fun i => V.bl (abv l i))) ∧ Same Jc H') ⟨upd_same, same_new hE1⟩ ?_ ?_
    · rintro i H2 hi ⟨he, s2⟩
      refine ⟨rfl, ?_⟩
      refine ⟨_, rfl, _, rfl, p1, rfl, .inl ⟨_, .inl (s2 _ _ hp1)⟩, _, rfl, by show 1 ≤ sizeLine; decide, fun q fq => ?_⟩
      have sq := same_new (o := .lst [.int 3]) fq
      have s3 := s2.trans sq
      have fl : (l.map V.int).all flatV = true := by
        rw [List.all_eq_true]
        intro x hx
        obtain ⟨y, _, rfl⟩ := List.mem_map.mp hx
        rfl
      refine ⟨some (.ref qw), dg _ s3, qw, _, rfl, .inl (SqL.of (s3 _ _ hqw)), rfl, fl, ?_⟩
      have he3 := sq _ _ he
      refine ⟨_, he3, by rw [List.length_map, List.length_range]; exact line_lt (by omega), ?_, fun b o e => ?_⟩
      · rw [upd_same, List.range_succ, List.map_append]
        simp only [Bool.false_eq_true, if_false]
        unfold abv
        rw [show (0 : Int) + (i : Nat) = (i : Int) by omega]
        rfl
      · rw [upd_ne (ne_of_none e hE1)]
        exact s3 _ _ e
    · rintro H2 ⟨he, s2⟩
      exact hQ E1 H2 (sm2.trans s2) (sm2.free hE1) he
end
end K40
set_option Elab.async false
set_option linter.all false
set_option maxRecDepth 100000
set_option maxHeartbeats 4000000
/-! SD: small data (short texts, ints below a million and a bit, lists and tuples of such): what repr and == ask of it. -/
namespace SD
open PySem PySem.Spec PyProof.Rows L2
/-- small: its weight at most n, its depth at most k -/
structure Sm (n k : Nat) (d : PyData) : Prop where
  sh : d.showable = true
  nd : d.hasDict = false
  dp : d.depth ≤ k
  ls : d.leavesShort 13 = true
  wt : d.weight ≤ n
  cl : d.canLay0 = true
structure SmA (n k : Nat) (ds : List PyData) : Prop where
  sh : PyData.showableAll ds = true
  nd : PyData.hasDictAll ds = false
  dp : PyData.depthAll ds ≤ k
  ls : PyData.leavesShortAll 13 ds = true
  wt : PyData.weightAll ds ≤ n
  cl : PyData.canLayAll0 ds = true
theorem Sm.mono {n n' k k' : Nat} {d : PyData} (h : Sm n k d) (hn : n ≤ n') (hk : k ≤ k') : Sm n' k' d := ⟨h.sh, h.nd, Nat.le_trans h.dp hk, h.ls, Nat.le_trans h.wt hn, h.cl⟩
theorem SmA.mono {n n' k k' : Nat} {ds : List PyData} (h : SmA n k ds) (hn : n ≤ n') (hk : k ≤ k') : SmA n' k' ds := ⟨h.sh, h.nd, Nat.le_trans h.dp hk, h.ls, Nat.le_trans h.wt hn, h.cl⟩
theorem Sm.int {i : Int} (h : i.natAbs < 2 ^ 20) : Sm 20 0 (.int i) := by
  have h1 : i.natAbs.log2 < 20 := by
    by_cases z : i.natAbs = 0
    · rw [z]; decide
    · exact (Nat.log2_lt z).mpr h
  refine ⟨by simp only [PyData.showable]; exact decide_eq_true (by omega), by simp only [PyData.hasDict], by simp only [PyData.depth]; omega, ?_, ?_, by simp only [PyData.canLay0]⟩
  · simp only [PyData.leavesShort]
    exact decide_eq_true (PyData.shown_int_le (Nat.lt_of_lt_of_le h (by decide)))
  · simp only [PyData.weight]
    split <;> omega
theorem Sm.str {x : Str} {n : Nat} (h : PyData.strOk x = true) (hn : x.length ≤ n) : Sm n 0 (.str x) := by
  have hn' : x.cps.size ≤ n := hn
  have hc : x.cps.toList.all (fun c => decide (c < 16 ^ 8)) = true := by
    unfold PyData.strOk at h
    rw [← Array.all_toList, List.all_eq_true] at h
    rw [List.all_eq_true]
    intro c hc
    have := of_decide_eq_true (h c hc)
    exact decide_eq_true (by omega)
  exact ⟨by simp only [PyData.showable], by simp only [PyData.hasDict], by simp only [PyData.depth]; omega, by simp only [PyData.leavesShort]; exact hc, by simp only [PyData.weight]; exact hn', by simp only [PyData.canLay0]; exact h⟩
theorem SmA.nil {k : Nat} : SmA 0 k [] := ⟨by simp only [PyData.showableAll], by simp only [PyData.hasDictAll], by simp only [PyData.depthAll]; omega, by simp only [PyData.leavesShortAll], by simp only [PyData.weightAll]; omega, by simp only [PyData.canLayAll0]⟩
theorem SmA.cons {n m k : Nat} {d : PyData} {ds : List PyData} (a : Sm n k d) (b : SmA m k ds) : SmA (n + 1 + m) k (d :: ds) := by
  refine ⟨by simp only [PyData.showableAll, a.sh, b.sh, Bool.and_self], by simp only [PyData.hasDictAll, a.nd, b.nd, Bool.or_self], ?_, by simp only [PyData.leavesShortAll, a.ls, b.ls, Bool.and_self], ?_, by simp only [PyData.canLayAll0, a.cl, b.cl, Bool.and_self]⟩
  · simp only [PyData.depthAll]
    have := a.dp
    have := b.dp
    omega
  · simp only [PyData.weightAll]
    have := a.wt
    have := b.wt
    omega
theorem SmA.map {α : Type} {n k : Nat} {g : α → PyData} : ∀ {xs : List α}, (∀ x ∈ xs, Sm n k (g x)) → SmA ((n + 1) * xs.length) k (xs.map g)
  | [], _ => SmA.nil.mono (Nat.zero_le _) (Nat.le_refl _)
  | x :: xs, h => by
    refine (SmA.cons (h x List.mem_cons_self) (SmA.map fun y hy => h y (List.mem_cons_of_mem _ hy))).mono ?_ (Nat.le_refl _)
    rw [List.length_cons, Nat.mul_add]
    omega
theorem Sm.lst {n k : Nat} {ds : List PyData} (a : SmA n k ds) : Sm n (k + 1) (.list ds) :=
  ⟨by simp only [PyData.showable]; exact a.sh, by simp only [PyData.hasDict]; exact a.nd, by simp only [PyData.depth]; have := a.dp; omega, by simp only [PyData.leavesShort]; exact a.ls, by simp only [PyData.weight]; exact a.wt, by simp only [PyData.canLay0]; exact a.cl⟩
theorem Sm.tup {n k : Nat} {ds : List PyData} (a : SmA n k ds) : Sm n (k + 1) (.tuple ds) :=
  ⟨by simp only [PyData.showable]; exact a.sh, by simp only [PyData.hasDict]; exact a.nd, by simp only [PyData.depth]; have := a.dp; omega, by simp only [PyData.leavesShort]; exact a.ls, by simp only [PyData.weight]; exact a.wt, by simp only [PyData.canLay0]; exact a.cl⟩
theorem Sm.shown {n k : Nat} {d : PyData} (a : Sm n k d) (h : 15 * n + 13 ≤ sizeLine) : d.shown.length ≤ sizeLine := by
  have := PyData.shown_le 13 (by decide) d a.ls
  have := a.wt
  omega
theorem Sm.shaped {n k : Nat} {d : PyData} (a : Sm n k d) (h : k ≤ 64) : SeqAt.shaped d = true := by
  simp only [SeqAt.shaped, a.cl, Bool.true_and]
  exact decide_eq_true (Nat.le_trans a.dp h)
theorem Sm.same {n k : Nat} {d : PyData} (a : Sm n k d) : PyData.eqv d d = true := PySem.SeqAt.eqv_refl d a.cl
theorem Sm.four {n k : Nat} {d : PyData} (a : Sm n k d) (hn : 15 * n + 13 ≤ sizeLine) (hk : k ≤ 60) : d.showable = true ∧ d.hasDict = false ∧ d.depth ≤ 60 ∧ d.shown.length ≤ sizeLine :=
  ⟨a.sh, a.nd, Nat.le_trans a.dp hk, a.shown hn⟩
end SD
set_option Elab.async false
set_option linter.all false
set_option maxRecDepth 100000
set_option maxHeartbeats 4000000
namespace K40
open PySem PySem.Spec PyProof.Rows L2
open C8 (Cal Mak Met pe_c pe_mk pe_mt pe_mt0)
abbrev Row := Addr × List (Addr × List Str)
def adr (r : Row) : List Addr := r.1 :: r.2.map (·.1)
theorem cut_last (l : List V) (x : V) : cutV (l ++ [x]) none (some (-1)) = l := by
  unfold cutV HT.sIx
  have : (((-1 : Int) + ((l ++ [x]).length : Nat))).toNat = l.length := by
    rw [List.length_append]
    show ((-1 : Int) + ((l.length + 1 : Nat) : Int)).toNat = _
    omega
  simp only [List.drop_zero, Nat.sub_zero, show ((-1 : Int) < 0) from by decide, if_true, this]
  exact List.take_left' rfl
/-- rows of days stand -/
structure Rws (H : Hp) (rs : List Row) : Prop where
  at_ : ∀ r ∈ rs, H r.1 = some (.lst (r.2.map fun p => V.ref p.1)) ∧ ∀ q ∈ r.2, H q.1 = some (.lst (q.2.map V.str))
  nd : ∀ r ∈ rs, (adr r).Nodup
  dj : ∀ (k l : Nat) (r r' : Row), k ≠ l → rs[k]? = some r → rs[l]? = some r' → ∀ x ∈ adr r, x ∉ adr r'
  few : ∀ r ∈ rs, r.2.length ≤ 200
  d8 : ∀ r ∈ rs, ∀ q ∈ r.2, q.2.length ≤ 8
def lens (r : Row) : List V := r.2.map fun q => V.int (q.2.length : Nat)
def lensD (r : Row) : PyData := .list (r.2.map fun q => .int (q.2.length : Nat))
section
variable {P : Program} {w : World} {K : PySem.W.Frag} {mg : Str → Option Value} {base : Heap} {f C CT : Addr} {fd : FuncData}
theorem dp_lens {H : Hp} : ∀ qs : List (Addr × List Str), DpAll K H (qs.map fun q => V.int (q.2.length : Nat)) (qs.map fun q => PyData.int (q.2.length : Nat))
  | [] => .nil
  | q :: qs => .cons (.int _) (dp_lens qs)
theorem dp_rows {H : Hp} : ∀ {ps : List (Addr × Row)}, (∀ p ∈ ps, H p.1 = some (.lst (lens p.2))) → DpAll K H (ps.map fun p => V.ref p.1) (ps.map fun p => lensD p.2)
  | [], _ => .nil
  | p :: ps, h => .cons (Dp.lst (SqL.of (h p List.mem_cons_self)) (dp_lens _)) (dp_rows fun q hq => h q (List.mem_cons_of_mem _ hq))
theorem ints_same : ∀ qs : List (Addr × List Str), PyData.eqvAll (qs.map fun q => PyData.int (q.2.length : Nat)) (qs.map fun q => PyData.int (q.2.length : Nat)) = true
  | [] => by simp [PyData.eqvAll]
  | q :: qs => by
    rw [List.map_cons, PySem.W.eqv_all_cons, ints_same qs]
    simp [PyData.eqv]
theorem rows_same : ∀ rs : List Row, PyData.eqvAll (rs.map lensD) (rs.map lensD) = true
  | [] => by simp [PyData.eqvAll]
  | r :: rs => by
    rw [List.map_cons, PySem.W.eqv_all_cons, rows_same rs, Bool.and_true]
    unfold lensD
    rw [show ∀ a b : List PyData, PyData.eqv (.list a) (.list b) = PyData.eqvAll a b from fun a b => by rw [PyData.eqv], ints_same]
theorem shA : ∀ qs : List (Addr × List Str), PyData.canLayAll0 (qs.map fun q => PyData.int (q.2.length : Nat)) = true ∧ PyData.depthAll (qs.map fun q => PyData.int (q.2.length : Nat)) = 0
  | [] => ⟨by simp [PyData.canLayAll0], by simp [PyData.depthAll]⟩
  | q :: qs => by
    obtain ⟨a, b⟩ := shA qs
    exact ⟨by simp [PyData.canLayAll0, PyData.canLay0, a], by simp [PyData.depthAll, PyData.depth, b]⟩
theorem shB : ∀ rs : List Row, PyData.canLayAll0 (rs.map lensD) = true ∧ PyData.depthAll (rs.map lensD) ≤ 1
  | [] => ⟨by simp [PyData.canLayAll0], by simp [PyData.depthAll]⟩
  | r :: rs => by
    obtain ⟨a, b⟩ := shB rs
    obtain ⟨c, d⟩ := shA r.2
    refine ⟨by simp [PyData.canLayAll0, PyData.canLay0, lensD, a, c], ?_⟩
    rw [List.map_cons]
    simp only [PyData.depthAll, lensD, PyData.depth, d]
    omega
theorem sh_rows (rs : List Row) : SeqAt.shaped (.list (rs.map lensD)) = true := by
  obtain ⟨a, b⟩ := shB rs
  simp only [SeqAt.shaped, PyData.canLay0, a, Bool.true_and]
  refine decide_eq_true ?_
  simp only [PyData.depth]
  omega
def spAp : Sp := fun vs H Q _ => ∃ (a : Addr) (rs : List Row), vs = [.ref a] ∧ H a = some (.lst (rs.map fun r => V.ref r.1)) ∧ rs.length ≤ 100 ∧ Rws H rs ∧ (∀ r ∈ rs, a ∉ adr r) ∧ ∀ H', (∀ b o, H b = some o → (∀ r ∈ rs, b ∉ adr r) → H' b = some o) → Q (.bl true) H'
theorem ok_ap (F : Dn K d_l_apart f fd) (b : Bl mg) : FnOk P w K mg base CX0 1 f fd ["_law_rows"] spAp := by
  refine F.ok sc_l_apart (fun vs H Q E h => ?_) (fun cdv A outer s H vs Q E hr h => ?_)
  · obtain ⟨a, rs, rfl, _⟩ := h
    rfl
  · obtain ⟨a, rs, rfl, ha, rl, R, na, hQ⟩ := h
    have hu64 : (A.deeper (envOfC d_l_apart.qual d_l_apart.scope s.heap.objs.size f cdv)).units + 64 < cLine := by have := hr.un; omega
    refine ⟨_, PSs.nox (pss_cons (ps_setLc (i := 3) (own := [("_law_row", 1)]) (g := gName 1) (tt := tYes) (te := tLc (iList K (tVar 1)) (gName 2) tYes (tCB (TI.rLen K) (tCons (tVar 2) tNil)) [2]) rfl sc_l_apart.nd rfl rfl (sw_true rfl rfl rfl (by decide +kernel)) (pi_list (pv 0)) (blkOk_by (N := N_l_apart) (sc := defScope s_l_apart) (by decide +kernel))
          (fun _ _ _ _ _ => pg_name (i := 1) sc_l_apart.nd rfl (Or.inl rfl)) (fun _ _ _ _ _ => pts_nil)
          (fun _ _ _ _ _ => pe_lc (own := [("_law_day", 2)]) (g := gName 2) (tt := tYes) rfl sc_l_apart.nd (pi_list (pv 1)) (blkOk_by (N := N_l_apart) (sc := { kind := .function, names := [((".0" : Str), .local), ("_law_row", .local)], isGenerator := false, isCoroutine := false }) (by decide +kernel)) (fun _ _ _ _ _ => pg_name (i := 2) sc_l_apart.nd rfl (Or.inl rfl)) (fun _ _ _ _ _ => pts_nil) (fun _ _ _ _ _ => pe_callB (r := TI.rLen K) TI.call_lenK rfl b.len boot_len (pa_cons (pv 2) pa_nil))))
      (pss_cons (ps_for PassesOwn.never rfl (pi_list (pv 0)) (pg_name (i := 1) sc_l_apart.nd rfl (.inl rfl))
        (pss_cons (ps_for PassesOwn.never rfl (pi_list (pv 1)) (pg_name (i := 2) sc_l_apart.nd rfl (.inl rfl))
          (pss_one (ps_expr (pe_bm PySem.F.plainAttrs_list PySem.F.slot_list_append PySem.F.type_list_append mt_append (pv 2) (pa_cons pe_str pa_nil)))))
        (pss_one (ps_expr (pe_bm PySem.F.plainAttrs_list PySem.F.slot_list_append PySem.F.type_list_append mt_append (pv 1) (pa_cons (pe_lst pa_nil) pa_nil))))))
      (pss_one (ps_ret (pe_cmpR (op_eqD hu64) (pe_lc (own := [("_law_row", 1)]) (g := gName 1) (tt := tYes) (te := tLc (iList K (tSl (rSlL K) (tVar 1) tNoPart (tPart (tUn (rU fun i => .int (-i)) (tC (.int 1)))))) (gName 2) tYes (tOp (rI0 fun i j => .int (i - j)) (tCB (TI.rLen K) (tCons (tVar 2) tNil)) (tC (.int 1))) [2]) rfl sc_l_apart.nd (pi_list (pv 0)) (blkOk_by (N := N_l_apart) (sc := defScope s_l_apart) (by decide +kernel))
          (fun _ _ _ _ _ => pg_name (i := 1) sc_l_apart.nd rfl (Or.inl rfl)) (fun _ _ _ _ _ => pts_nil)
          (fun _ _ _ _ _ => pe_lc (own := [("_law_day", 2)]) (g := gName 2) (tt := tYes) rfl sc_l_apart.nd (pi_list (pe_slice sl_list (pv 1) po_none (po_some (pe_un un_neg pe_int)))) (blkOk_by (N := N_l_apart) (sc := { kind := .function, names := [((".0" : Str), .local), ("_law_row", .local)], isGenerator := false, isCoroutine := false }) (by decide +kernel)) (fun _ _ _ _ _ => pg_name (i := 2) sc_l_apart.nd rfl (Or.inl rfl)) (fun _ _ _ _ _ => pts_nil) (fun _ _ _ _ _ => pe_op op_sub (pe_callB (r := TI.rLen K) TI.call_lenK rfl b.len boot_len (pa_cons (pv 2) pa_nil)) pe_int)))
        (pv 3) (nomark _)))))), ?_⟩
    -- the sizes
    refine ⟨_, rfl, a, rfl, ⟨_, SqL.of ha⟩, fun D hD => lc_list (fun i H' => ∃ ps : List (Addr × Row), H' D = some (.lst (ps.map fun p => V.ref p.1)) ∧ (∀ p ∈ ps, H' p.1 = some (.lst (lens p.2)) ∧ p.1 ≠ D ∧ H p.1 = none) ∧ ps.map (·.2) = rs.take i ∧ Same H H') ⟨[], upd_same, (fun p hp => nomatch hp), rfl, same_new hD⟩ (fun i H' _ z => by obtain ⟨_, _, _, _, sm⟩ := z; exact SqL.of (sm _ _ ha)) ?_ ?_⟩
    · rintro i v H2 hi ⟨ps, hd, hps, ev, s2⟩
      rw [List.getElem?_map] at hi
      obtain ⟨r, hr1, rfl⟩ := Option.map_eq_some_iff.mp hi
      have hrm := List.mem_of_getElem? hr1
      obtain ⟨hra, hrq⟩ := R.at_ r hrm
      have psl : ps.length ≤ 100 := by
        have := congrArg List.length ev
        rw [List.length_map, List.length_take] at this
        omega
      refine ⟨rfl, ?_⟩
      refine ⟨_, rfl, r.1, rfl, ⟨_, SqL.of (s2 _ _ hra)⟩, fun E1 hE1 => lc_list (fun j H' => H' E1 = some (.lst ((r.2.take j).map fun q => V.int (q.2.length : Nat))) ∧ Same H2 H') ⟨upd_same, same_new hE1⟩ (fun j H' _ z => SqL.of (z.2 _ _ (s2 _ _ hra))) ?_ ?_⟩
      · rintro j v H3 hj ⟨he, s3⟩
        rw [List.getElem?_map] at hj
        obtain ⟨q, hq, rfl⟩ := Option.map_eq_some_iff.mp hj
        have hjl : j < r.2.length := (List.getElem?_eq_some_iff.mp hq).1
        have hqa := s3 _ _ (s2 _ _ (hrq q (List.mem_of_getElem? hq)))
        have fw := R.few r hrm
        refine ⟨rfl, ?_⟩
        refine ⟨_, rfl, q.1, _, rfl, .inl (SqL.of hqa), _, he, by rw [List.length_map, List.length_take]; exact line_lt (by omega), ?_, fun b o e => ?_⟩
        · rw [upd_same, take_one hq, List.map_append, List.length_map]
          rfl
        · rw [upd_ne (ne_of_none e hE1)]
          exact s3 _ _ e
      rintro H3 ⟨he, s3⟩
      rw [List.length_map, List.take_length] at he
      have hd3 := s3 _ _ hd
      have nED : E1 ≠ D := (ne_of_none hd hE1).symm
      refine ⟨_, hd3, by rw [List.length_map]; exact line_lt (by omega), ps ++ [(E1, r)], ?_, fun p hp => ?_, ?_, fun b o e => ?_⟩
      · rw [upd_same, List.map_append]
        rfl
      · rcases List.mem_append.mp hp with h | h
        · obtain ⟨h1, h2, h3⟩ := hps p h
          exact ⟨by rw [upd_ne h2]; exact s3 _ _ h1, h2, h3⟩
        · rw [List.mem_singleton] at h
          subst h
          exact ⟨by rw [upd_ne nED]; exact he, nED, s2.free hE1⟩
      · rw [List.map_append, ev, take_one hr1]
        rfl
      · rw [upd_ne (ne_of_none e hD)]
        exact s3 _ _ (s2 _ _ e)
    rintro H2 ⟨ps, hd, hps, ev, s2⟩
    rw [List.length_map, List.take_length] at ev
    have inr : ∀ r ∈ rs, ∀ x ∈ adr r, ∃ o, H x = some o := fun r hrm x hx => by
      obtain ⟨h1, h2⟩ := R.at_ r hrm
      rcases List.mem_cons.mp hx with e | e
      · exact ⟨_, by rw [e]; exact h1⟩
      · obtain ⟨q, hq, rfl⟩ := List.mem_map.mp e
        exact ⟨_, h2 q hq⟩
    have newr : ∀ {x : Addr}, H x = none → ∀ r ∈ rs, x ∉ adr r := fun e r hrm hx => by
      obtain ⟨o, h⟩ := inr r hrm _ hx
      rw [e] at h
      cases h
    -- all changed
    refine ⟨_, rfl, a, rfl, ⟨_, SqL.of (s2 _ _ ha)⟩, for_list (K := K) (xs := rs.map fun r => V.ref r.1) (fun i σ H' => ∃ (v1 v2 : Option V), σ = [some (.ref a), v1, v2, some (.ref D)] ∧ (∀ b o, H2 b = some o → (∀ r ∈ rs, b ∉ adr r) → H' b = some o) ∧
        ∀ k r, rs[k]? = some r → (i ≤ k → H' r.1 = some (.lst (r.2.map fun p => V.ref p.1)) ∧ ∀ q ∈ r.2, H' q.1 = some (.lst (q.2.map V.str))) ∧ (k < i → (∃ e : Addr, H' r.1 = some (.lst ((r.2.map fun p => V.ref p.1) ++ [.ref e]))) ∧ ∀ q ∈ r.2, H' q.1 = some (.lst (q.2.map V.str ++ [.str "more"]))))
      ⟨_, _, rfl, fun b o e _ => e, fun k r hk => ⟨fun _ => ?_, fun h => absurd h (Nat.not_lt_zero _)⟩⟩ (fun i σ H' _ z => by obtain ⟨_, _, _, kp, _⟩ := z; exact SqL.of (kp _ _ (s2 _ _ ha) na)) ?_ ?_⟩
    · obtain ⟨h1, h2⟩ := R.at_ r (List.mem_of_getElem? hk)
      exact ⟨s2 _ _ h1, fun q hq => s2 _ _ (h2 q hq)⟩
    · rintro i v σ H3 hi ⟨v1, v2, rfl, kp3, st3⟩
      rw [List.getElem?_map] at hi
      obtain ⟨r, hr1, rfl⟩ := Option.map_eq_some_iff.mp hi
      have hrm := List.mem_of_getElem? hr1
      obtain ⟨hra, hrq⟩ := (st3 i r hr1).1 (Nat.le_refl _)
      obtain ⟨nr1, nr2⟩ := List.nodup_cons.mp (R.nd r hrm)
      have fw := R.few r hrm
      refine ⟨_, rfl, r.1, rfl, ⟨_, SqL.of hra⟩, for_list (K := K) (xs := r.2.map fun p => V.ref p.1) (fun j σ H' => ∃ (v2 : Option V), σ = [some (.ref a), some (.ref r.1), v2, some (.ref D)] ∧ (∀ b o, H3 b = some o → b ∉ r.2.map (·.1) → H' b = some o) ∧ ∀ k q, r.2[k]? = some q → (j ≤ k → H' q.1 = some (.lst (q.2.map V.str))) ∧ (k < j → H' q.1 = some (.lst (q.2.map V.str ++ [.str "more"]))))
        ⟨_, rfl, fun b o e _ => e, fun k q hk => ⟨fun _ => hrq q (List.mem_of_getElem? hk), fun h => absurd h (Nat.not_lt_zero _)⟩⟩ (fun j σ H' _ z => by obtain ⟨_, _, kp, _⟩ := z; exact SqL.of (kp _ _ hra nr1)) ?_ ?_⟩
      · rintro j v σ H4 hj ⟨v2, rfl, kp4, st4⟩
        rw [List.getElem?_map] at hj
        obtain ⟨q, hq, rfl⟩ := Option.map_eq_some_iff.mp hj
        have hqa := (st4 j q hq).1 (Nat.le_refl _)
        have ndq : ∀ k q', r.2[k]? = some q' → k ≠ j → q'.1 ≠ q.1 := fun k q' hk ne e => by
          have h1 : (r.2.map (·.1))[k]? = some q'.1 := by rw [List.getElem?_map, hk]; rfl
          have h2 : (r.2.map (·.1))[j]? = some q.1 := by rw [List.getElem?_map, hq]; rfl
          rw [e, ← h2] at h1
          exact ne ((List.getElem?_inj (by have := (List.getElem?_eq_some_iff.mp hk).1; rw [List.length_map]; exact this) nr2).mp h1)
        have q8 : (q.2.map V.str).length < sizeLine := by
          have := R.d8 r hrm q (List.mem_of_getElem? hq)
          rw [List.length_map]
          exact line_lt (by omega)
        refine ⟨_, rfl, .inl ⟨rfl, _, SqL.of hqa⟩, q.1, _, _, rfl, rfl, hqa, q8, ?_⟩
        refine ⟨_, rfl, fun b o e nb => ?_, fun k q' hk => ⟨fun hle => ?_, fun hlt => ?_⟩⟩
        · rw [upd_ne fun z => nb (by rw [z]; exact List.mem_map.mpr ⟨q, List.mem_of_getElem? hq, rfl⟩)]
          exact kp4 _ _ e nb
        · have ne : k ≠ j := by omega
          rw [upd_ne (ndq k q' hk ne)]
          exact (st4 k q' hk).1 (by omega)
        · by_cases e : k = j
          · subst e
            rw [hq] at hk
            cases hk
            exact upd_same
          · rw [upd_ne (ndq k q' hk e)]
            exact (st4 k q' hk).2 (by omega)
      · rintro σ H4 ⟨v2, rfl, kp4, st4⟩
        have hra4 := kp4 _ _ hra nr1
        refine ⟨_, rfl, .inl ⟨rfl, _, SqL.of hra4⟩, by show 0 ≤ sizeLine; decide, fun e fe => ?_⟩
        have se := same_new (o := .lst []) fe
        refine ⟨r.1, _, _, rfl, rfl, se _ _ hra4, by rw [List.length_map]; exact line_lt (by omega), ?_⟩
        have oth : ∀ k r', rs[k]? = some r' → k ≠ i → ∀ x ∈ adr r', x ≠ r.1 ∧ x ∉ r.2.map (·.1) := fun k r' hk ne x hx => by
          have := R.dj k i r' r ne hk hr1 x hx
          exact ⟨fun z => this (by rw [z]; exact List.mem_cons_self), fun z => this (List.mem_cons_of_mem _ z)⟩
        refine ⟨_, _, rfl, fun b o e nb => ?_, fun k r' hk => ⟨fun hle => ?_, fun hlt => ?_⟩⟩
        · have nb' := nb r hrm
          rw [upd_ne fun z => nb' (by rw [z]; exact List.mem_cons_self)]
          exact se _ _ (kp4 _ _ (kp3 _ _ e nb) fun z => nb' (List.mem_cons_of_mem _ z))
        · have ne : k ≠ i := by omega
          obtain ⟨h1, h2⟩ := (st3 k r' hk).1 (by omega)
          have mv : ∀ x ∈ adr r', ∀ o, H3 x = some o → (upd (upd H4 e (.lst [])) r.1 (.lst ((r.2.map fun p => V.ref p.1) ++ [.ref e]))) x = some o := fun x hx o e' => by
            obtain ⟨n1, n2⟩ := oth k r' hk ne x hx
            rw [upd_ne n1]
            exact se _ _ (kp4 _ _ e' n2)
          exact ⟨mv _ List.mem_cons_self _ h1, fun q hq => mv _ (List.mem_cons_of_mem _ (List.mem_map.mpr ⟨q, hq, rfl⟩)) _ (h2 q hq)⟩
        · by_cases ek : k = i
          · subst ek
            rw [hr1] at hk
            cases hk
            refine ⟨⟨e, upd_same⟩, fun q hq => ?_⟩
            obtain ⟨j, hj, ejq⟩ := List.mem_iff_getElem.mp hq
            have hjq : r.2[j]? = some q := by rw [List.getElem?_eq_getElem hj, ejq]
            have nq : q.1 ≠ r.1 := fun z => nr1 (by rw [← z]; exact List.mem_map.mpr ⟨q, hq, rfl⟩)
            rw [upd_ne nq]
            exact se _ _ ((st4 j q hjq).2 (by rw [List.length_map]; exact hj))
          · obtain ⟨⟨e0, h1⟩, h2⟩ := (st3 k r' hk).2 (by omega)
            have mv : ∀ x ∈ adr r', ∀ o, H3 x = some o → (upd (upd H4 e (.lst [])) r.1 (.lst ((r.2.map fun p => V.ref p.1) ++ [.ref e]))) x = some o := fun x hx o e' => by
              obtain ⟨n1, n2⟩ := oth k r' hk ek x hx
              rw [upd_ne n1]
              exact se _ _ (kp4 _ _ e' n2)
            exact ⟨⟨e0, mv _ List.mem_cons_self _ h1⟩, fun q hq => mv _ (List.mem_cons_of_mem _ (List.mem_map.mpr ⟨q, hq, rfl⟩)) _ (h2 q hq)⟩
    rintro σ H3 ⟨v1, v2, rfl, kp3, st3⟩
    have st3 : ∀ r ∈ rs, (∃ e : Addr, H3 r.1 = some (.lst ((r.2.map fun p => V.ref p.1) ++ [.ref e]))) ∧ ∀ q ∈ r.2, H3 q.1 = some (.lst (q.2.map V.str ++ [.str "more"])) := fun r hrm => by
      obtain ⟨k, hk, e⟩ := List.mem_iff_getElem.mp hrm
      exact (st3 k r (by rw [List.getElem?_eq_getElem hk, e])).2 (by rw [List.length_map]; exact hk)
    have ha3 := kp3 _ _ (s2 _ _ ha) na
    -- the sizes again
    refine ⟨_, rfl, a, rfl, ⟨_, SqL.of ha3⟩, fun D2 hD2 => lc_list (fun i H' => ∃ qs : List (Addr × Row), H' D2 = some (.lst (qs.map fun p => V.ref p.1)) ∧ (∀ p ∈ qs, H' p.1 = some (.lst (lens p.2)) ∧ p.1 ≠ D2) ∧ qs.map (·.2) = rs.take i ∧ Same H3 H') ⟨[], upd_same, (fun p hp => nomatch hp), rfl, same_new hD2⟩ (fun i H' _ z => by obtain ⟨_, _, _, _, sm⟩ := z; exact SqL.of (sm _ _ ha3)) ?_ ?_⟩
    · rintro i v H4 hi ⟨qs, hd4, hqs, ev4, s4⟩
      rw [List.getElem?_map] at hi
      obtain ⟨r, hr1, rfl⟩ := Option.map_eq_some_iff.mp hi
      have hrm := List.mem_of_getElem? hr1
      obtain ⟨⟨e0, hra⟩, hrq⟩ := st3 r hrm
      have qsl : qs.length ≤ 100 := by
        have := congrArg List.length ev4
        rw [List.length_map, List.length_take] at this
        omega
      refine ⟨rfl, ?_⟩
      refine ⟨_, rfl, _, rfl, _, rfl, r.1, _, rfl, SqL.of (s4 _ _ hra), fun sl fsl => ?_⟩
      rw [show cutV ((r.2.map fun p => V.ref p.1) ++ [V.ref e0]) none (some (-1)) = (r.2.map fun p => V.ref p.1) from cut_last _ _]
      have ssl := same_new (o := .lst (r.2.map fun p => V.ref p.1)) fsl
      have s34 := s4.trans ssl
      refine ⟨sl, rfl, ⟨_, SqL.of upd_same⟩, fun E1 hE1 => lc_list (fun j H' => H' E1 = some (.lst ((r.2.take j).map fun q => V.int (q.2.length : Nat))) ∧ Same (upd H4 sl (.lst (r.2.map fun p => V.ref p.1))) H') ⟨upd_same, same_new hE1⟩ (fun j H' _ z => SqL.of (z.2 _ _ upd_same)) ?_ ?_⟩
      · rintro j v H5 hj ⟨he, s5⟩
        rw [List.getElem?_map] at hj
        obtain ⟨q, hq, rfl⟩ := Option.map_eq_some_iff.mp hj
        have hjl : j < r.2.length := (List.getElem?_eq_some_iff.mp hq).1
        have hqa := s5 _ _ (s34 _ _ (hrq q (List.mem_of_getElem? hq)))
        have fw := R.few r hrm
        refine ⟨rfl, ?_⟩
        refine ⟨_, rfl, q.1, _, rfl, .inl (SqL.of hqa), _, _, rfl, rfl, _, he, by rw [List.length_map, List.length_take]; exact line_lt (by omega), ?_, fun b o e => ?_⟩
        · rw [upd_same, take_one hq, List.map_append, List.length_append, List.length_map]
          congr 3
          show [V.int (((q.2.length + 1 : Nat) : Int) - 1)] = [V.int (q.2.length : Nat)]
          congr 2
          omega
        · rw [upd_ne (ne_of_none e hE1)]
          exact s5 _ _ e
      rintro H5 ⟨he, s5⟩
      rw [List.length_map, List.take_length] at he
      have s45 := ssl.trans s5
      have hd5 := s45 _ _ hd4
      have nED : E1 ≠ D2 := (ne_of_none (ssl _ _ hd4) hE1).symm
      refine ⟨_, hd5, by rw [List.length_map]; exact line_lt (by omega), qs ++ [(E1, r)], ?_, fun p hp => ?_, ?_, fun b o e => ?_⟩
      · rw [upd_same, List.map_append]
        rfl
      · rcases List.mem_append.mp hp with h | h
        · obtain ⟨h1, h2⟩ := hqs p h
          exact ⟨by rw [upd_ne h2]; exact s45 _ _ h1, h2⟩
        · rw [List.mem_singleton] at h
          subst h
          exact ⟨by rw [upd_ne nED]; exact he, nED⟩
      · rw [List.map_append, ev4, take_one hr1]
        rfl
      · rw [upd_ne (ne_of_none e hD2)]
        exact s45 _ _ (s4 _ _ e)
    rintro H4 ⟨qs, hd4, hqs, ev4, s4⟩
    rw [List.length_map, List.take_length] at ev4
    have nD : H D = none := hD
    have hdD := s4 _ _ (kp3 _ _ hd (newr nD))
    have e1 : (qs.map fun p => lensD p.2) = rs.map lensD := by rw [← ev4, List.map_map]; rfl
    have e2 : (ps.map fun p => lensD p.2) = rs.map lensD := by rw [← ev, List.map_map]; rfl
    have dp1 := dp_rows (K := K) fun p hp => (hqs p hp).1
    have dp2 := dp_rows (K := K) (H := H4) (ps := ps) fun p hp => s4 _ _ (kp3 _ _ (hps p hp).1 (newr (hps p hp).2.2))
    rw [e1] at dp1
    rw [e2] at dp2
    refine ⟨_, rfl, .list (rs.map lensD), .list (rs.map lensD), Dp.lst (SqL.of hd4) dp1, Dp.lst (SqL.of hdD) dp2, sh_rows rs, sh_rows rs, ?_⟩
    rw [show ∀ a b : List PyData, PyData.eqv (.list a) (.list b) = PyData.eqvAll a b from fun a b => by rw [PyData.eqv], rows_same]
    exact hQ H4 fun b o e nb => s4 _ _ (kp3 _ _ (s2 _ _ e) nb)
end
end K40
set_option Elab.async false
set_option linter.all false
set_option maxRecDepth 100000
set_option maxHeartbeats 4000000
/-! KB: what a call by keywords binds, for a def without keyword-only parameters. -/
namespace KW
open PySem PySem.Spec PyProof.Rows L2
section
variable {K : PySem.W.Frag} {x qual : Str} {params : Arguments} {body : List Stmt} {scope : Scope} {dvs : List V} {kws : List (Str × V)} {f : Addr} {fd : FuncData} {ps : List Str}
theorem kb1 (F : FunD K x qual params body scope dvs kws f fd) (n : Nat) (ks : List Str) (g : {α : Type} → List α → List α → List α → List α) (hd : dvs ≠ [])
    (hrel : ∀ {vs ds zs : List V} {us its ws : List Value}, Vals vs us → Vals ds its → Vals zs ws → Vals (g vs ds zs) (g us its ws))
    (h : ∀ (T : Addr) (kV doc pm : Value) (an : Option Addr) (cdv ct : Value) (us its ws : List Value), us.length = n → its.length = dvs.length → ws.length = ks.length →
      ∃ k, bindArgs (PySem.W.fnOf x qual params body scope (.ref T) kV doc pm an cdv ct) ⟨us, ks.zip ws⟩ = seqItems? (.ref T) >>= k ∧ k (some its.toArray) = pure (ps.zip (g us its ws))) :
    ∃ its : List Value, KBn K fd ps n ks (fun us ws => g us its ws) (fun vs zs => g vs dvs zs) := by
  obtain ⟨oc, od, dV, kV, doc, pm, an, cdv, ct, osl, rfl, lk, hcd, hD, hK⟩ := F.ex
  rcases hD with ⟨e, _⟩ | ⟨_, T, o, its, m, rfl, lT, oT, rT⟩
  · exact absurd e hd
  · refine ⟨its, ⟨fun s us ws X l1 l2 => ?_, fun r1 r2 => hrel r1 rT r2⟩⟩
    obtain ⟨k, e1, e2⟩ := h T kV doc pm an cdv ct us its ws l1 rT.length.symm l2
    refine BindsTo.of_looks fun M => ?_
    rw [e1]
    exact looks_items X lT oT (.of_pure e2)
theorem kb0 (F : FunD K x qual params body scope [] kws f fd) (n : Nat) (ks : List Str) (g : {α : Type} → List α → List α → List α)
    (hrel : ∀ {vs zs : List V} {us ws : List Value}, Vals vs us → Vals zs ws → Vals (g vs zs) (g us ws))
    (h : ∀ (kV doc pm : Value) (an : Option Addr) (cdv ct : Value) (us ws : List Value), us.length = n → ws.length = ks.length →
      bindArgs (PySem.W.fnOf x qual params body scope .none kV doc pm an cdv ct) ⟨us, ks.zip ws⟩ = pure (ps.zip (g us ws))) :
    KBn K fd ps n ks (fun us ws => g us ws) (fun vs zs => g vs zs) := by
  obtain ⟨oc, od, dV, kV, doc, pm, an, cdv, ct, osl, rfl, lk, hcd, hD, hK⟩ := F.ex
  rcases hD with ⟨_, rfl⟩ | ⟨e, _⟩
  · exact ⟨fun s us ws X l1 l2 => .of_eq (h kV doc pm an cdv ct us ws l1 l2), fun r1 r2 => hrel r1 r2⟩
  · exact absurd rfl e
end
end KW
set_option Elab.async false
set_option linter.all false
set_option maxRecDepth 100000
set_option maxHeartbeats 4000000
namespace K40
open PySem PySem.Spec PyProof.Rows L2
open KM (pr)
open SX (S)
/-! the three -/
def oth (y : Str) (xs : List Str) : List Str := (xs.filter fun x => !decide (x = y)).take 2
def thr (y : Str) (xs : List Str) : List Str := xs.filter fun x => decide (x = y) || decide (x ∈ oth y xs)
theorem filt_or {p q : Str → Bool} : ∀ {xs : List Str}, (∀ x ∈ xs, p x = true → q x = false) → (xs.filter fun x => p x || q x).length = (xs.filter p).length + (xs.filter q).length
  | [], _ => rfl
  | x :: xs, h => by
    have ih := filt_or (p := p) (q := q) (xs := xs) fun y hy => h y (List.mem_cons_of_mem _ hy)
    have hx := h x List.mem_cons_self
    cases hp : p x with
    | true =>
      rw [List.filter_cons_of_pos (by simp [hp]), List.filter_cons_of_pos hp, List.filter_cons_of_neg (by simp [hx hp]), List.length_cons, List.length_cons, ih]
      omega
    | false =>
      cases hq : q x with
      | true =>
        rw [List.filter_cons_of_pos (by simp [hq]), List.filter_cons_of_neg (by simp [hp]), List.filter_cons_of_pos hq, List.length_cons, List.length_cons, ih]
        omega
      | false => rw [List.filter_cons_of_neg (by simp [hp, hq]), List.filter_cons_of_neg (by simp [hp]), List.filter_cons_of_neg (by simp [hq]), ih]
theorem filt_one {r : Str} : ∀ {xs : List Str}, xs.Nodup → r ∈ xs → (xs.filter fun x => decide (x = r)).length = 1
  | x :: xs, nd, h => by
    obtain ⟨n1, n2⟩ := List.nodup_cons.mp nd
    by_cases e : x = r
    · subst e
      rw [List.filter_cons_of_pos (by simp), List.filter_eq_nil_iff.mpr fun y hy => by
        have : y ≠ x := fun z => n1 (z ▸ hy)
        simp [this]]
      rfl
    · rw [List.filter_cons_of_neg (by simp [e])]
      rcases List.mem_cons.mp h with z | z
      · exact absurd z.symm e
      · exact filt_one n2 z
theorem filt_len {xs : List Str} (nd : xs.Nodup) : ∀ {R : List Str}, R.Nodup → (∀ y ∈ R, y ∈ xs) → (xs.filter fun x => decide (x ∈ R)).length = R.length
  | [], _, _ => by rw [List.filter_eq_nil_iff.mpr fun y hy => by simp]
  | r :: R, h, s => by
    obtain ⟨n1, n2⟩ := List.nodup_cons.mp h
    have e : (xs.filter fun x => decide (x ∈ r :: R)) = xs.filter fun x => decide (x = r) || decide (x ∈ R) := List.filter_congr fun x _ => by simp
    rw [e, filt_or fun x _ hx => by
      have := of_decide_eq_true hx
      subst this
      exact decide_eq_false n1, filt_one nd (s r List.mem_cons_self), filt_len nd n2 fun y hy => s y (List.mem_cons_of_mem _ hy), List.length_cons]
    omega
theorem mem_oth {y : Str} {xs : List Str} {x : Str} (h : x ∈ oth y xs) : x ∈ xs ∧ x ≠ y := by
  have := List.mem_filter.mp (List.mem_of_mem_take h)
  exact ⟨this.1, fun e => by simp [e] at this⟩
theorem thr_len {y : Str} {xs : List Str} (nd : xs.Nodup) (hy : y ∈ xs) (l3 : 3 ≤ xs.length) : (thr y xs).length = 3 := by
  have h1 : (xs.filter fun x => decide (x = y) || !decide (x = y)).length = (xs.filter fun x => decide (x = y)).length + (xs.filter fun x => !decide (x = y)).length := filt_or fun x _ h => by rw [h]; rfl
  have h2 : (xs.filter fun x => decide (x = y) || !decide (x = y)) = xs := List.filter_eq_self.mpr fun x _ => by simp
  rw [h2, filt_one nd hy] at h1
  have nt : (oth y xs).Nodup := (nd.filter _).sublist (List.take_sublist _ _)
  have h3 : (oth y xs).length = 2 := by
    unfold oth
    rw [List.length_take]
    omega
  unfold thr
  rw [filt_or fun x _ h => decide_eq_false fun hm => (mem_oth hm).2 (of_decide_eq_true h), filt_one nd hy, filt_len nd nt fun x hx => (mem_oth hx).1, h3]
/-- the name, and who comes behind it in the three, around -/
structure Tri (xs : List Str) (y s t : Str) (k : Nat) : Prop where
  k2 : k ≤ 2
  len : (thr y xs).length = 3
  y0 : (thr y xs)[k]? = some y
  s0 : (thr y xs)[(k + 1) % 3]? = some s
  t0 : (thr y xs)[(k + 2) % 3]? = some t
  nd : (thr y xs).Nodup
  sub : ∀ x ∈ thr y xs, x ∈ xs
theorem tri {y : Str} {xs : List Str} (nd : xs.Nodup) (hy : y ∈ xs) (l3 : 3 ≤ xs.length) : ∃ s t k, Tri xs y s t k := by
  have hl := thr_len nd hy l3
  have hm : y ∈ thr y xs := List.mem_filter.mpr ⟨hy, by simp⟩
  obtain ⟨k, hk, e⟩ := List.mem_iff_getElem.mp hm
  have q1 : (k + 1) % 3 < (thr y xs).length := by omega
  have q2 : (k + 2) % 3 < (thr y xs).length := by omega
  exact ⟨_, _, k, by omega, hl, by rw [List.getElem?_eq_getElem hk, e], List.getElem?_eq_getElem q1, List.getElem?_eq_getElem q2, nd.filter _, fun x hx => (List.mem_filter.mp hx).1⟩
/-- the three, written -/
theorem Tri.cases {xs : List Str} {y s t : Str} {k : Nat} (h : Tri xs y s t k) : (k = 0 ∧ thr y xs = [y, s, t]) ∨ (k = 1 ∧ thr y xs = [t, y, s]) ∨ (k = 2 ∧ thr y xs = [s, t, y]) := by
  obtain ⟨k2, len, y0, s0, t0, _, _⟩ := h
  generalize thr y xs = T at len y0 s0 t0 ⊢
  match T, len with
  | [a, b, c], _ =>
    rcases (show k = 0 ∨ k = 1 ∨ k = 2 by omega) with rfl | rfl | rfl
    · cases y0; cases s0; cases t0
      exact .inl ⟨rfl, rfl⟩
    · cases y0; cases s0; cases t0
      exact .inr (.inl ⟨rfl, rfl⟩)
    · cases y0; cases s0; cases t0
      exact .inr (.inr ⟨rfl, rfl⟩)
theorem Tri.ne {xs : List Str} {y s t : Str} {k : Nat} (h : Tri xs y s t k) : y ≠ s ∧ y ≠ t ∧ s ≠ t ∧ y ∈ xs ∧ s ∈ xs ∧ t ∈ xs := by
  have nd := h.nd
  have sub := h.sub
  rcases h.cases with ⟨_, e⟩ | ⟨_, e⟩ | ⟨_, e⟩ <;> rw [e] at nd sub <;> simp only [List.nodup_cons, List.mem_cons, List.not_mem_nil, or_false, not_or, List.nodup_nil, not_false_eq_true, and_true] at nd <;> refine ⟨?_, ?_, ?_, sub _ (by simp), sub _ (by simp), sub _ (by simp)⟩ <;> intro z <;> subst z <;> simp at nd
/-! going by the line -/
def drv (ln R : List Str) : Str := ((ln.filter fun x => decide (x ∈ R))[0]?).getD ""
def stp (u : List Str × (Str → Int)) (R : List Str) : List Str × (Str → Int) := (nl u.1 R (drv u.1 R), nxt R (drv u.1 R) u.2)
def runD (u : List Str × (Str → Int)) (ds : List (List Str)) : List Str × (Str → Int) := ds.foldl stp u
theorem drv_of {ln R : List Str} {z : Str} (h : Drv ln R z) : z = drv ln R := by
  unfold drv
  rw [show (ln.filter fun x => decide (x ∈ R))[0]? = some z from h]
  rfl
theorem run_snoc (u : List Str × (Str → Int)) (ds : List (List Str)) (R : List Str) : runD u (ds ++ [R]) = stp (runD u ds) R := by
  unfold runD
  rw [List.foldl_append]
  rfl
theorem run_app (u : List Str × (Str → Int)) (ds es : List (List Str)) : runD u (ds ++ es) = runD (runD u ds) es := by
  unfold runD
  rw [List.foldl_append]
theorem fm {p : Str → Bool} {x : Str} {l : List Str} (h : p x = true) : (x :: l).filter p = x :: l.filter p := List.filter_cons_of_pos h
/-- a day of three -/
theorem nl3 {ln R : List Str} {d : Str} (h : R.length ≠ 1) : nl ln R d = (ln.filter fun x => !decide (x = d)) ++ [d] := by unfold nl; rw [if_neg h]
theorem filt_not {O : List Str} {d : Str} (h : d ∉ O) : (O.filter fun x => !decide (x = d)) = O := List.filter_eq_self.mpr fun x hx => by
  have : x ≠ d := fun e => h (e ▸ hx)
  simp [this]
theorem filt_out {O R : List Str} (h : ∀ x ∈ O, x ∉ R) : (O.filter fun x => decide (x ∈ R)) = [] := List.filter_eq_nil_iff.mpr fun x hx => by simp [h x hx]
/-- one that is of the three behind others drives, and goes behind -/
theorem drv_tail {O R : List Str} {p : Str} {rest : List Str} (ho : ∀ x ∈ O, x ∉ R) (hp : p ∈ R) : drv (O ++ p :: rest) R = p := by
  unfold drv
  rw [List.filter_append, filt_out ho, fm (by simp [hp])]
  rfl
theorem stp_tail {O R : List Str} {p : Str} {rest : List Str} {c : Str → Int} (ho : ∀ x ∈ O, x ∉ R) (hp : p ∈ R) (h1 : R.length ≠ 1) (n1 : p ∉ O) (n2 : p ∉ rest) : stp (O ++ p :: rest, c) R = (O ++ rest ++ [p], nxt R p c) := by
  unfold stp
  rw [drv_tail ho hp, nl3 h1, List.filter_append, filt_not n1, List.filter_cons_of_neg (by simp), filt_not n2]
/-- three days of the three -/
theorem three_days {xs : List Str} {a b c : Str} (nd : xs.Nodup) (u : Str → Int) (e : (xs.filter fun x => decide (x ∈ [a, b, c])) = [a, b, c]) (nT : [a, b, c].Nodup) :
    (runD (xs, u) [[a, b, c], [a, b, c], [a, b, c]]).1 = (xs.filter fun x => !decide (x ∈ [a, b, c])) ++ [a, b, c] := by
  have nab : a ≠ b := fun z => by subst z; simp at nT
  have nac : a ≠ c := fun z => by subst z; simp at nT
  have nbc : b ≠ c := fun z => by subst z; simp at nT
  have d1 : drv xs [a, b, c] = a := by unfold drv; rw [e]; rfl
  have f1 : ∀ d : Str, ((xs.filter fun x => !decide (x = d)) ++ [d]).filter (fun x => decide (x ∈ [a, b, c])) = ((xs.filter fun x => decide (x ∈ [a, b, c])).filter fun x => !decide (x = d)) ++ [d].filter (fun x => decide (x ∈ [a, b, c])) := fun d => by
    rw [List.filter_append, List.filter_filter, List.filter_filter]
    congr 1
    exact List.filter_congr fun x _ => Bool.and_comm _ _
  have e1 : stp (xs, u) [a, b, c] = ((xs.filter fun x => !decide (x = a)) ++ [a], nxt [a, b, c] a u) := by unfold stp; rw [d1, nl3 (by simp)]
  have d2 : drv ((xs.filter fun x => !decide (x = a)) ++ [a]) [a, b, c] = b := by
    unfold drv
    rw [f1, e]
    simp [nab, nac, nab.symm, nac.symm]
  have e2 : (stp ((xs.filter fun x => !decide (x = a)) ++ [a], nxt [a, b, c] a u) [a, b, c]).1 = (xs.filter fun x => !decide (x = a) && !decide (x = b)) ++ [a, b] := by
    unfold stp
    rw [d2, nl3 (by simp), List.filter_append, List.filter_filter, List.filter_cons_of_pos (by simp [nab])]
    show _ ++ [a] ++ [b] = _
    rw [List.append_assoc]
    congr 1
    exact List.filter_congr fun x _ => Bool.and_comm _ _
  have d3 : drv ((xs.filter fun x => !decide (x = a) && !decide (x = b)) ++ [a, b]) [a, b, c] = c := by
    unfold drv
    rw [List.filter_append, List.filter_filter]
    have : (xs.filter fun x => decide (x ∈ [a, b, c]) && (!decide (x = a) && !decide (x = b))) = (xs.filter fun x => decide (x ∈ [a, b, c])).filter fun x => !decide (x = a) && !decide (x = b) := by
      rw [List.filter_filter]
      exact List.filter_congr fun x _ => Bool.and_comm _ _
    rw [this, e]
    simp [nab, nac, nbc, nab.symm, nac.symm, nbc.symm]
  unfold runD
  simp only [List.foldl_cons, List.foldl_nil]
  rw [e1]
  generalize hu : stp ((xs.filter fun x => !decide (x = a)) ++ [a], nxt [a, b, c] a u) [a, b, c] = v at e2
  obtain ⟨v1, v2⟩ := v
  dsimp only at e2
  subst e2
  unfold stp
  dsimp only
  rw [d3, nl3 (by simp), List.filter_append, List.filter_filter]
  rw [fm (by simp [nac]), fm (by simp [nbc])]
  show _ ++ [a, b] ++ [c] = _
  rw [List.append_assoc]
  congr 1
  exact List.filter_congr fun x _ => by
    by_cases h1 : x = a <;> by_cases h2 : x = b <;> by_cases h3 : x = c <;> simp [h1, h2, h3]
def rst (y : Str) (xs : List Str) : List Str := xs.filter fun x => !decide (x ∈ thr y xs)
theorem lead {xs : List Str} {y s t : Str} {k : Nat} (nd : xs.Nodup) (h : Tri xs y s t k) (u : Str → Int) : (runD (xs, u) (List.replicate (3 + k) (thr y xs))).1 = rst y xs ++ [y, s, t] := by
  obtain ⟨n1, n2, n3, _, _, _⟩ := h.ne
  have nT := h.nd
  have e : (xs.filter fun x => decide (x ∈ thr y xs)) = thr y xs := by
    have : (xs.filter fun x => decide (x ∈ thr y xs)) = xs.filter fun x => decide (x = y) || decide (x ∈ oth y xs) := List.filter_congr fun x hx => by
      have : x ∈ thr y xs ↔ (decide (x = y) || decide (x ∈ oth y xs)) = true := by
        unfold thr
        rw [List.mem_filter]
        exact ⟨fun z => z.2, fun z => ⟨hx, z⟩⟩
      by_cases q : x ∈ thr y xs
      · rw [decide_eq_true q, this.mp q]
      · rw [decide_eq_false q]
        cases h : (decide (x = y) || decide (x ∈ oth y xs)) with
        | false => rfl
        | true => exact absurd (this.mpr h) q
    rw [this]
    rfl
  have ho : ∀ x ∈ rst y xs, x ∉ thr y xs := fun x hx => by
    have := (List.mem_filter.mp hx).2
    simpa using this
  rw [show List.replicate (3 + k) (thr y xs) = List.replicate 3 (thr y xs) ++ List.replicate k (thr y xs) from by rw [List.replicate_append_replicate], run_app]
  generalize hv : runD (xs, u) (List.replicate 3 (thr y xs)) = v
  have hv1 : v.1 = rst y xs ++ thr y xs := by
    rw [← hv]
    unfold rst
    have h3 : ∀ T : List Str, T.length = 3 → (xs.filter fun x => decide (x ∈ T)) = T → T.Nodup → (runD (xs, u) (List.replicate 3 T)).1 = (xs.filter fun x => !decide (x ∈ T)) ++ T := fun T l eT nT => by
      match T, l with
      | [a, b, c], _ => exact three_days nd u eT nT
    exact h3 _ h.len e nT
  obtain ⟨v1, v2⟩ := v
  dsimp only at hv1
  subst hv1
  rcases h.cases with ⟨rfl, eT⟩ | ⟨rfl, eT⟩ | ⟨rfl, eT⟩
  · rw [eT]
    rfl
  · rw [eT] at ho ⊢
    show (stp (rst y xs ++ [t, y, s], v2) [t, y, s]).1 = _
    rw [stp_tail ho (by simp) (by simp) (fun z => ho _ z (by simp)) (by simp [n2.symm, n3.symm])]
    show rst y xs ++ [y, s] ++ [t] = _
    rw [List.append_assoc]
    rfl
  · rw [eT] at ho ⊢
    show (stp (stp (rst y xs ++ [s, t, y], v2) [s, t, y]) [s, t, y]).1 = _
    rw [stp_tail ho (by simp) (by simp) (fun z => ho _ z (by simp)) (by simp [n1.symm, n3])]
    show (stp (rst y xs ++ [t, y] ++ [s], _) [s, t, y]).1 = _
    rw [show rst y xs ++ [t, y] ++ [s] = rst y xs ++ t :: [y, s] from by rw [List.append_assoc]; rfl]
    rw [stp_tail ho (by simp) (by simp) (fun z => ho _ z (by simp)) (by simp [n2.symm, n3.symm])]
    show rst y xs ++ [y, s] ++ [t] = _
    rw [List.append_assoc]
    rfl
/-- the round -/
def rnd (y s t : Str) (ow : Bool) : List (List Str) := if ow then [[y, s], [s, t], [s, t]] else [[y, s], [y, s], [y, t]]
def gn (ow : Bool) : Int := if ow then 420 else -420
theorem nx2 {a b d : Str} {c : Str → Int} {x : Str} : nxt [a, b] d c x = c x - (if x ∈ [a, b] then 420 else 0) + (if x = d then 840 else 0) := by
  unfold nxt
  have e : (840 : Int).fdiv (([a, b] : List Str).length : Int) = 420 := by
    show (840 : Int).fdiv ((2 : Nat) : Int) = 420
    decide
  rw [e]
theorem again {xs : List Str} {y s t : Str} {k : Nat} (h : Tri xs y s t k) (c : Str → Int) (ow : Bool) :
    (runD (rst y xs ++ [y, s, t], c) (rnd y s t ow)).1 = rst y xs ++ [y, s, t] ∧ (runD (rst y xs ++ [y, s, t], c) (rnd y s t ow)).2 y = c y + gn ow := by
  obtain ⟨n1, n2, n3, _, _, _⟩ := h.ne
  have ho : ∀ x ∈ rst y xs, x ≠ y ∧ x ≠ s ∧ x ≠ t := fun x hx => by
    have q : x ∉ thr y xs := by
      have := (List.mem_filter.mp hx).2
      simpa using this
    rcases h.cases with ⟨_, e⟩ | ⟨_, e⟩ | ⟨_, e⟩ <;> rw [e] at q <;> simp at q <;> refine ⟨?_, ?_, ?_⟩ <;> intro z <;> subst z <;> simp at q
  have oy : y ∉ rst y xs := fun z => (ho _ z).1 rfl
  have os : s ∉ rst y xs := fun z => (ho _ z).2.1 rfl
  have ot : t ∉ rst y xs := fun z => (ho _ z).2.2 rfl
  have ap : ∀ a b d : Str, rst y xs ++ [a, b] ++ [d] = rst y xs ++ a :: [b, d] := fun a b d => by rw [List.append_assoc]; rfl
  cases ow with
  | true =>
    have r1 : stp (rst y xs ++ [y, s, t], c) [y, s] = (rst y xs ++ s :: [t, y], nxt [y, s] y c) := by
      rw [stp_tail (fun x hx => by simp [(ho x hx).1, (ho x hx).2.1]) (by simp) (by simp) oy (by simp [n1, n2]), ap]
    have r2 : stp (rst y xs ++ s :: [t, y], nxt [y, s] y c) [s, t] = (rst y xs ++ t :: [y, s], nxt [s, t] s (nxt [y, s] y c)) := by
      rw [stp_tail (fun x hx => by simp [(ho x hx).2.2, (ho x hx).2.1]) (by simp) (by simp) os (by simp [n1.symm, n3]), ap]
    have r3 : stp (rst y xs ++ t :: [y, s], nxt [s, t] s (nxt [y, s] y c)) [s, t] = (rst y xs ++ y :: [s, t], nxt [s, t] t (nxt [s, t] s (nxt [y, s] y c))) := by
      rw [stp_tail (fun x hx => by simp [(ho x hx).2.2, (ho x hx).2.1]) (by simp) (by simp) ot (by simp [n2.symm, n3.symm]), ap]
    have : runD (rst y xs ++ [y, s, t], c) (rnd y s t true) = (rst y xs ++ y :: [s, t], nxt [s, t] t (nxt [s, t] s (nxt [y, s] y c))) := by
      show stp (stp (stp _ _) _) _ = _
      rw [r1, r2, r3]
    rw [this]
    refine ⟨rfl, ?_⟩
    show nxt _ _ _ y = c y + 420
    rw [nx2, nx2, nx2]
    simp only [List.mem_cons, List.not_mem_nil, or_false, n1, n2, or_self, if_false, if_true, true_or]
    omega
  | false =>
    have r1 : stp (rst y xs ++ [y, s, t], c) [y, s] = (rst y xs ++ s :: [t, y], nxt [y, s] y c) := by
      rw [stp_tail (fun x hx => by simp [(ho x hx).1, (ho x hx).2.1]) (by simp) (by simp) oy (by simp [n1, n2]), ap]
    have r2 : stp (rst y xs ++ s :: [t, y], nxt [y, s] y c) [y, s] = (rst y xs ++ t :: [y, s], nxt [y, s] s (nxt [y, s] y c)) := by
      rw [stp_tail (fun x hx => by simp [(ho x hx).1, (ho x hx).2.1]) (by simp) (by simp) os (by simp [n1.symm, n3]), ap]
    have r3 : stp (rst y xs ++ t :: [y, s], nxt [y, s] s (nxt [y, s] y c)) [y, t] = (rst y xs ++ y :: [s, t], nxt [y, t] t (nxt [y, s] s (nxt [y, s] y c))) := by
      rw [stp_tail (fun x hx => by simp [(ho x hx).2.2, (ho x hx).1]) (by simp) (by simp) ot (by simp [n2.symm, n3.symm]), ap]
    have : runD (rst y xs ++ [y, s, t], c) (rnd y s t false) = (rst y xs ++ y :: [s, t], nxt [y, t] t (nxt [y, s] s (nxt [y, s] y c))) := by
      show stp (stp (stp _ _) _) _ = _
      rw [r1, r2, r3]
    rw [this]
    refine ⟨rfl, ?_⟩
    show nxt _ _ _ y = c y + -420
    rw [nx2, nx2, nx2]
    simp only [List.mem_cons, List.not_mem_nil, or_false, n1, n2, or_self, if_false, if_true, true_or]
    omega
/-! credits stay small -/
theorem fd_small {k : Int} (h1 : 1 ≤ k) (h8 : k ≤ 8) : 0 ≤ (840 : Int).fdiv k ∧ (840 : Int).fdiv k ≤ 840 := by
  rcases (show k = 1 ∨ k = 2 ∨ k = 3 ∨ k = 4 ∨ k = 5 ∨ k = 6 ∨ k = 7 ∨ k = 8 by omega) with rfl | rfl | rfl | rfl | rfl | rfl | rfl | rfl <;> decide
theorem nxt_small {R : List Str} {y : Str} {c : Str → Int} {i : Nat} (h1 : 1 ≤ R.length) (h8 : R.length ≤ 8) (x : Str) (h : (c x).natAbs ≤ 1000 * i) : (nxt R y c x).natAbs ≤ 1000 * (i + 1) := by
  obtain ⟨f0, f1⟩ := fd_small (k := (R.length : Int)) (by omega) (by omega)
  unfold nxt
  split <;> split <;> omega
theorem run_small {u : List Str × (Str → Int)} {x : Str} : ∀ {ds : List (List Str)} {i : Nat}, (∀ R ∈ ds, 1 ≤ R.length ∧ R.length ≤ 8) → (u.2 x).natAbs ≤ 1000 * i → ((runD u ds).2 x).natAbs ≤ 1000 * (i + ds.length) := by
  intro ds
  induction ds generalizing u with
  | nil => intro i _ h; exact h
  | cons R ds ih =>
    intro i hR h
    have := ih (u := stp u R) (i := i + 1) (fun S hS => hR S (List.mem_cons_of_mem _ hS)) (nxt_small (hR R List.mem_cons_self).1 (hR R List.mem_cons_self).2 x h)
    rw [List.length_cons]
    rw [show i + (ds.length + 1) = i + 1 + ds.length from by omega]
    exact this
/-! credits as shares -/
def hf (ow : Bool) : Rat := Rat.divInt (if ow then 1 else -1) 2
theorem rt_gn (c : Int) (ow : Bool) : rt c + hf ow = rt (c + gn ow) := by
  unfold rt hf gn
  rw [Rat.divInt_add_divInt _ _ (by decide) (by decide)]
  rw [Rat.divInt_eq_divInt_iff (by decide) (by decide)]
  cases ow <;> simp <;> omega
theorem sz_rt {c : Int} {n : Nat} (h : c.natAbs < 2 ^ n) (hn : 10 ≤ n) : KM.Sz n (rt c) := KM.sz_of_low (by decide) h (Nat.lt_of_lt_of_le (by decide : (840 : Int).natAbs < 2 ^ 10) (Nat.pow_le_pow_right (by decide) hn))
theorem S_inj {a b : List Nat} (h : S a = S b) : a = b := by
  have := congrArg (fun s : Str => s.cps.toList) h
  simpa [S] using this
theorem ord_of {zs : List (List Nat)} (h0 : 0 < zs.length) (h8 : zs.length ≤ 8) (ok : ∀ z ∈ zs, NM.ok z) (pw : zs.Pairwise (· ≠ ·)) : Ord (zs.map S) := by
  refine ⟨List.ne_nil_of_length_pos (by rw [List.length_map]; exact h0), by rw [List.length_map]; exact h8, ?_, fun x hx => ?_⟩
  · exact List.pairwise_map.mpr (pw.imp fun h e => h (S_inj e))
  · obtain ⟨z, hz, rfl⟩ := List.mem_map.mp hx
    exact ⟨z, rfl, ok z hz⟩
end K40
set_option Elab.async false
set_option linter.all false
set_option maxRecDepth 100000
set_option maxHeartbeats 4000000
namespace K40
open PySem PySem.Spec PyProof.Rows L2
open C8 (Cal Mak Met pe_c pe_mk pe_mt pe_mt0)
open KM (pr)
theorem cut_n {l : List V} {n : Nat} : cutV l none (some (n : Int)) = l.take n := by
  have z : ¬ ((n : Int) < 0) := by omega
  unfold cutV HT.sIx
  by_cases h : n ≤ l.length
  · have z2 : ((n : Int) ≤ (l.length : Int)) := by omega
    simp [z, z2, Nat.min_eq_left h]
  · have h2 : l.length ≤ n := by omega
    simp [z, Nat.min_eq_right h2, List.take_of_length_le h2]
theorem DaysL.same {H0 H H' : Hp} {t : Addr} {qs : List (Addr × List Str)} (d : DaysL H0 H t qs) (s : Same H H') : DaysL H0 H' t qs := ⟨s _ _ d.1, fun p hp => ⟨s _ _ (d.2.1 p hp).1, (d.2.1 p hp).2⟩, d.2.2⟩
theorem DaysL.back {H0 H1 H : Hp} {t : Addr} {qs : List (Addr × List Str)} (d : DaysL H1 H t qs) (s : Same H0 H1) : DaysL H0 H t qs := ⟨d.1, fun p hp => ⟨(d.2.1 p hp).1, s.free (d.2.1 p hp).2.1, (d.2.1 p hp).2.2⟩, d.2.2⟩
theorem DaysL.st {H0 H : Hp} {t : Addr} {qs : List (Addr × List Str)} (d : DaysL H0 H t qs) : ∀ x ∈ adr (t, qs), ∃ o, H x = some o := fun x hx => by
  rcases List.mem_cons.mp hx with e | e
  · exact ⟨_, by rw [e]; exact d.1⟩
  · obtain ⟨q, hq, rfl⟩ := List.mem_map.mp e
    exact ⟨_, (d.2.1 q hq).1⟩
theorem DaysL.nw {H0 H : Hp} {t : Addr} {qs : List (Addr × List Str)} (d : DaysL H0 H t qs) (f : H0 t = none) : ∀ x ∈ adr (t, qs), H0 x = none := fun x hx => by
  rcases List.mem_cons.mp hx with e | e
  · rw [e]; exact f
  · obtain ⟨q, hq, rfl⟩ := List.mem_map.mp e
    exact (d.2.1 q hq).2.1
/-- what runaway tells: f the tuple, a the days ahead, b the round, g the gain; new since H0 -/
structure Ran (C : Addr) (H0 H : Hp) (xs : List Str) (y : Str) (ow : Bool) (f : Addr) (a b : Row) (g : Addr) (s t : Str) (k : Nat) : Prop where
  ff : H f = some (.tup [.ref a.1, .ref b.1, .ref g])
  da : DaysL H0 H a.1 a.2
  db : DaysL H0 H b.1 b.2
  na : H0 a.1 = none
  nb : H0 b.1 = none
  dj : ∀ x ∈ adr a, x ∉ adr b
  gg : Sh C H g (pr (hf ow))
  tr : Tri xs y s t k
  qa : a.2.map (·.2) = List.replicate (3 + k) (thr y xs)
  qb : b.2.map (·.2) = rnd y s t ow
theorem pr_half (ow : Bool) : KM.low (if ow then 1 else -1) 2 = pr (hf ow) := by
  rw [KM.low_eq (by decide)]
  rfl
section
variable {P : Program} {w : World} {K : PySem.W.Frag} {mg : Str → Option Value} {base : Heap} {f C CT : Addr} {fd : FuncData}
def spCi : Sp := fun vs H Q _ => ∃ (ot : Addr) (xs : List Str) (y : Str), vs = [.ref ot, .str y] ∧ H ot = some (.tup (xs.map V.str)) ∧ y ∈ xs ∧ Q .non H
theorem ok_ci (F : Dn K d_check_in_order f fd) : FnOk P w K mg base CX0 1 f fd ["order", "name"] spCi := by
  refine F.ok sc_check_in_order (fun vs H Q E h => ?_) (fun cdv A outer s H vs Q E hr h => ?_)
  · obtain ⟨ot, xs, y, rfl, _⟩ := h
    rfl
  · obtain ⟨ot, xs, y, rfl, hot, hy, hQ⟩ := h
    refine ⟨_, PSs.nox (pss_one (ps_if (pt_cmpR op_notIn_seq (pv 1) (pv 0) (by rfl)) pss_never pss_nil)), ?_⟩
    refine ⟨_, rfl, _, rfl, ot, _, rfl, .inr (SqT.of hot), rfl, flat_strs xs, _, rfl, ?_⟩
    rw [inV_strs, decide_eq_true hy]
    exact iteF hQ
/-- three lists of two names, and the list of them -/
theorem three_lists {H : Hp} {l1 l2 l3 b : Addr} {r1 r2 r3 : List Str} {H0 : Hp} (s0 : Same H0 H) (f1 : H l1 = none) (f2 : (upd H l1 (.lst (r1.map V.str))) l2 = none) (f3 : (upd (upd H l1 (.lst (r1.map V.str))) l2 (.lst (r2.map V.str))) l3 = none)
    (fb : (upd (upd (upd H l1 (.lst (r1.map V.str))) l2 (.lst (r2.map V.str))) l3 (.lst (r3.map V.str))) b = none) :
    Same H (upd (upd (upd (upd H l1 (.lst (r1.map V.str))) l2 (.lst (r2.map V.str))) l3 (.lst (r3.map V.str))) b (.lst [.ref l1, .ref l2, .ref l3])) ∧
    DaysL H0 (upd (upd (upd (upd H l1 (.lst (r1.map V.str))) l2 (.lst (r2.map V.str))) l3 (.lst (r3.map V.str))) b (.lst [.ref l1, .ref l2, .ref l3])) b [(l1, r1), (l2, r2), (l3, r3)] ∧ H b = none ∧ H l1 = none ∧ H l2 = none ∧ H l3 = none := by
  have s1 := same_new (o := .lst (r1.map V.str)) f1
  have s2 := same_new (o := .lst (r2.map V.str)) f2
  have s3 := same_new (o := .lst (r3.map V.str)) f3
  have sb := same_new (o := .lst [.ref l1, .ref l2, .ref l3]) fb
  have e1 : (upd H l1 (.lst (r1.map V.str))) l1 = some (.lst (r1.map V.str)) := upd_same
  have e2 : (upd (upd H l1 (.lst (r1.map V.str))) l2 (.lst (r2.map V.str))) l2 = some (.lst (r2.map V.str)) := upd_same
  have e3 : (upd (upd (upd H l1 (.lst (r1.map V.str))) l2 (.lst (r2.map V.str))) l3 (.lst (r3.map V.str))) l3 = some (.lst (r3.map V.str)) := upd_same
  have g1 := s3 _ _ (s2 _ _ e1)
  have g2 := s3 _ _ e2
  have f2' : H l2 = none := s1.free f2
  have f3' : H l3 = none := (s1.trans s2).free f3
  have fb' : H b = none := ((s1.trans s2).trans s3).free fb
  have n12 : l1 ≠ l2 := ne_of_none e1 f2
  have n13 : l1 ≠ l3 := ne_of_none (s2 _ _ e1) f3
  have n23 : l2 ≠ l3 := ne_of_none e2 f3
  refine ⟨((s1.trans s2).trans s3).trans sb, ⟨upd_same, fun p hp => ?_, ?_⟩, fb', f1, f2', f3'⟩
  · simp only [List.mem_cons, List.not_mem_nil, or_false] at hp
    rcases hp with rfl | rfl | rfl
    · exact ⟨sb _ _ g1, s0.free f1, ne_of_none g1 fb⟩
    · exact ⟨sb _ _ g2, s0.free f2', ne_of_none g2 fb⟩
    · exact ⟨sb _ _ e3, s0.free f3', ne_of_none e3 fb⟩
  · show [l1, l2, l3].Nodup
    simp [n12, n13, n23]
def spRa (C : Addr) : Sp := fun vs H Q _ => ∃ (ot : Addr) (xs : List Str) (y : Str) (ow : Bool), vs = [.ref ot, .str y, .bl ow] ∧ H ot = some (.tup (xs.map V.str)) ∧ xs.length ≤ 8 ∧ xs.Nodup ∧ y ∈ xs ∧
  (xs.length < 3 → Q .non H) ∧ (3 ≤ xs.length → ∀ (f g : Addr) (a b : Row) (s t : Str) (k : Nat) (H' : Hp), Same H H' → Ran C H H' xs y ow f a b g s t k → Q (.ref f) H')
theorem ok_ra (F : Dn K d_runaway f fd) (b : Bl mg) (MS : MakS P w K mg base C) (cC : Cal P w K mg base 1 "check_in_order" spCi []) (cR : Cal P w K mg base 1 "row_of" spRo []) : FnOk P w K mg base CX0 4 f fd ["order", "name", "owed"] (spRa C) := by
  refine F.ok sc_runaway (fun vs H Q E h => ?_) (fun cdv A outer s H vs Q E hr h => ?_)
  · obtain ⟨ot, xs, y, ow, rfl, _⟩ := h
    rfl
  · obtain ⟨ot, xs, y, ow, rfl, hot, l8, nd, hy, hN, hQ⟩ := h
    refine ⟨_, PSs.nox (pss_cons (ps_expr (pe_c cC hr (by decide) rfl (pa_cons (pv 0) (pa_cons (pv 1) pa_nil))))
      (pss_cons (ps_if (pt_cmpR op_lt (pe_callB call_len_seq rfl b.len boot_len (pa_cons (pv 0) pa_nil)) pe_int (nomark _)) (pss_one (ps_ret pe_non)) pss_nil)
      (pss_cons (ps_set (i := 3) sc_runaway.nd rfl (.inr rfl) (pe_slice sl_list (pe_lc (own := [("one", 9)]) (g := gName 9) rfl sc_runaway.nd (pi_tup (pv 0)) (blkOk_by (N := N_runaway) (sc := defScope s_runaway) (by decide +kernel))
          (fun _ _ _ _ _ => pg_name (i := 9) sc_runaway.nd rfl (Or.inl rfl)) (fun _ _ _ _ _ => pts_one (pt_cmpR (r := rNe) op_ne (pv 9) (pv 1) (nomark _))) (fun _ _ _ _ _ => pv 9)) po_none (po_some pe_int)))
      (pss_cons (ps_set (i := 4) sc_runaway.nd rfl (.inr rfl) (pe_lc (own := [("one", 9)]) (g := gName 9) rfl sc_runaway.nd (pi_tup (pv 0)) (blkOk_by (N := N_runaway) (sc := defScope s_runaway) (by decide +kernel))
          (fun _ _ _ _ _ => pg_name (i := 9) sc_runaway.nd rfl (Or.inl rfl)) (fun _ _ _ _ _ => pts_one (PW.pt (pw_or (pt_cmpR (r := rEq) op_eq (pv 9) (pv 1) (nomark _)) (pw_or1 (pt_cmpR (r := rIn K false) op_in_seq (pv 9) (pv 3) (by rfl)))))) (fun _ _ _ _ _ => pv 9)))
      (pss_cons (ps_set (i := 5) sc_runaway.nd rfl (.inl rfl) (pe_bm PySem.F.plainAttrs_list PySem.F.slot_list_index PySem.F.type_list_index mt_index (pv 4) (pa_cons (pv 1) pa_nil)))
      (pss_cons (ps_set (i := 6) sc_runaway.nd rfl (.inl rfl) (pe_c cR hr (by decide) rfl (pa_cons (pe_lc (own := [("day", 10)]) (g := gName 10) (tt := tYes) rfl sc_runaway.nd (pi_range1 rfl b.range (pa_cons (pe_op op_add pe_int (pv 5)) pa_nil)) (blkOk_by (N := N_runaway) (sc := defScope s_runaway) (by decide +kernel))
          (fun _ _ _ _ _ => pg_name (i := 10) sc_runaway.nd rfl (Or.inl rfl)) (fun _ _ _ _ _ => pts_nil) (fun _ _ _ _ _ => pv 4)) pa_nil)))
      (pss_cons (ps_set (i := 7) sc_runaway.nd rfl (.inl rfl) (pe_ix ix_list (pv 4) (pe_op op_mod (pe_op op_add (pv 5) pe_int) pe_int) (fun _ _ => rfl)))
      (pss_cons (ps_set (i := 8) sc_runaway.nd rfl (.inl rfl) (pe_ix ix_list (pv 4) (pe_op op_mod (pe_op op_add (pv 5) pe_int) pe_int) (fun _ _ => rfl)))
      (pss_cons (ps_if (pt_val (pv 2)) (pss_one (ps_ret (pe_tup (pa_cons (pv 6) (pa_cons (pe_lst (pa_cons (pe_lst (pa_cons (pv 1) (pa_cons (pv 7) pa_nil))) (pa_cons (pe_lst (pa_cons (pv 7) (pa_cons (pv 8) pa_nil))) (pa_cons (pe_lst (pa_cons (pv 7) (pa_cons (pv 8) pa_nil))) pa_nil)))) (pa_cons (pe_mk MS hr (by decide) rfl (pa_cons pe_int (pa_cons pe_int pa_nil))) pa_nil)))))) pss_nil)
      (pss_one (ps_ret (pe_tup (pa_cons (pv 6) (pa_cons (pe_lst (pa_cons (pe_lst (pa_cons (pv 1) (pa_cons (pv 7) pa_nil))) (pa_cons (pe_lst (pa_cons (pv 1) (pa_cons (pv 7) pa_nil))) (pa_cons (pe_lst (pa_cons (pv 1) (pa_cons (pv 8) pa_nil))) pa_nil)))) (pa_cons (pe_mk MS hr (by decide) rfl (pa_cons (pe_un un_neg pe_int) (pa_cons pe_int pa_nil))) pa_nil))))))))))))))), ?_⟩
    refine ⟨_, rfl, _, rfl, ot, xs, y, rfl, hot, hy, ?_⟩
    refine ⟨_, rfl, ot, _, rfl, .inr (SqT.of hot), _, _, rfl, rfl, _, rfl, ?_⟩
    rw [List.length_map]
    by_cases l3 : xs.length < 3
    · rw [show decide ((xs.length : Int) < 3) = true from decide_eq_true (by omega)]
      exact iteT (hN l3)
    have l3 : 3 ≤ xs.length := by omega
    rw [show decide ((xs.length : Int) < 3) = false from decide_eq_false (by omega)]
    refine iteF ?_
    obtain ⟨s, t, k, T⟩ := tri nd hy l3
    -- the others
    refine ⟨_, rfl, ot, rfl, ⟨_, SqT.of hot⟩, fun D hD => lc_tup (fun i H2 => H2 D = some (.lst (((xs.take i).filter fun x => !decide (x = y)).map V.str)) ∧ Same H H2) ⟨upd_same, same_new hD⟩ (fun _ H2 _ z => SqT.of (z.2 _ _ hot)) ?_ ?_⟩
    · rintro i x H2 hx ⟨hd, sm⟩
      rw [List.getElem?_map] at hx
      obtain ⟨z, hz, rfl⟩ := Option.map_eq_some_iff.mp hx
      have hi' : i < xs.length := (List.getElem?_eq_some_iff.mp hz).1
      refine ⟨rfl, ?_⟩
      refine ⟨_, rfl, _, rfl, rfl, _, rfl, ?_⟩
      by_cases e : z = y
      · have z0 : (!decide (V.str z = V.str y)) = false := by simp [e]
        rw [z0]
        refine iteF ⟨?_, sm⟩
        rw [take_one hz, List.filter_append]
        simp [e, hd]
      · have z0 : (!decide (V.str z = V.str y)) = true := by simp [e]
        rw [z0]
        refine iteT ?_
        refine ⟨_, rfl, _, hd, ?_, ?_, fun a o e => ?_⟩
        · rw [List.length_map]
          have := List.length_filter_le (fun x => !decide (x = y)) (xs.take i)
          rw [List.length_take] at this
          exact line_lt (by omega)
        · rw [upd_same, take_one hz, List.filter_append, List.map_append]
          simp [e]
        · rw [upd_ne (ne_of_none e hD)]
          exact sm a o e
    rintro H2 ⟨hd, s2⟩
    rw [List.length_map, List.take_length] at hd
    have e1 : cutV ((xs.filter fun x => !decide (x = y)).map V.str) none (some 2) = (oth y xs).map V.str := by
      rw [show (some (2 : Int)) = some ((2 : Nat) : Int) from rfl, cut_n, ← List.map_take]
      rfl
    refine ⟨_, rfl, D, _, rfl, SqL.of hd, ?_⟩
    rw [e1]
    intro ol fol
    have so := same_new (o := .lst ((oth y xs).map V.str)) fol
    have hol : (upd H2 ol (.lst ((oth y xs).map V.str))) ol = some (.lst ((oth y xs).map V.str)) := upd_same
    generalize upd H2 ol (.lst ((oth y xs).map V.str)) = H3 at so hol
    have s3 := s2.trans so
    -- the three
    refine ⟨_, rfl, ot, rfl, ⟨_, SqT.of (s3 _ _ hot)⟩, fun E1 hE1 => lc_tup (fun i H4 => H4 E1 = some (.lst (((xs.take i).filter fun x => decide (x = y) || decide (x ∈ oth y xs)).map V.str)) ∧ Same H3 H4) ⟨upd_same, same_new hE1⟩ (fun _ H4 _ z => SqT.of (z.2 _ _ (s3 _ _ hot))) ?_ ?_⟩
    · rintro i x H4 hx ⟨hd4, sm⟩
      rw [List.getElem?_map] at hx
      obtain ⟨z, hz, rfl⟩ := Option.map_eq_some_iff.mp hx
      have hi' : i < xs.length := (List.getElem?_eq_some_iff.mp hz).1
      have yes : (decide (z = y) || decide (z ∈ oth y xs)) = true → ∃ zs, H4 E1 = some (.lst zs) ∧ zs.length < sizeLine ∧ ((upd H4 E1 (.lst (zs ++ [V.str z]))) E1 = some (.lst (((xs.take (i + 1)).filter fun x => decide (x = y) || decide (x ∈ oth y xs)).map V.str)) ∧ Same H3 (upd H4 E1 (.lst (zs ++ [V.str z])))) := fun e => by
        refine ⟨_, hd4, ?_, ?_, fun a o e => ?_⟩
        · rw [List.length_map]
          have := List.length_filter_le (fun x => decide (x = y) || decide (x ∈ oth y xs)) (xs.take i)
          rw [List.length_take] at this
          exact line_lt (by omega)
        · rw [upd_same, take_one hz, List.filter_append, List.map_append, show [z].filter (fun x => decide (x = y) || decide (x ∈ oth y xs)) = [z] from List.filter_cons_of_pos (p := fun x => decide (x = y) || decide (x ∈ oth y xs)) e]
          rfl
        · rw [upd_ne (ne_of_none e hE1)]
          exact sm a o e
      refine ⟨rfl, ?_⟩
      refine ⟨_, rfl, _, rfl, rfl, _, rfl, ?_⟩
      by_cases e : z = y
      · have z0 : decide (V.str z = V.str y) = true := by simp [e]
        rw [z0]
        exact iteT (iteT ⟨_, rfl, yes (by simp [e])⟩)
      · have z0 : decide (V.str z = V.str y) = false := by simp [e]
        rw [z0]
        refine iteF ?_
        refine ⟨_, rfl, _, rfl, ol, _, rfl, .inl (SqL.of (sm _ _ hol)), rfl, flat_strs _, _, rfl, ?_⟩
        simp only [Bool.false_eq_true, if_false]
        rw [inV_strs]
        refine ite2 (fun hm => ⟨_, rfl, yes (by simp [of_decide_eq_true hm])⟩) (fun hm => ⟨?_, sm⟩)
        have nm : ¬ z ∈ oth y xs := fun q => hm (decide_eq_true q)
        rw [take_one hz, List.filter_append, List.filter_cons_of_neg (by simp [e, nm]), List.filter_nil, List.append_nil]
        exact hd4
    rintro H4 ⟨hd4, s4⟩
    rw [List.length_map, List.take_length] at hd4
    have hT : H4 E1 = some (.lst ((thr y xs).map V.str)) := hd4
    have s04 := s3.trans s4
    have k2 := T.k2
    have kl : k < (thr y xs).length := by rw [T.len]; omega
    -- its place
    refine ⟨_, rfl, .inl ⟨rfl, _, SqL.of hT⟩, _, rfl, E1, _, .str y, k, .str y, rfl, rfl, SqL.of hT, rfl, flat_strs _, by rw [List.getElem?_map, T.y0]; rfl, by simp [eqV], fun m z' hm hz' => ?_, ?_⟩
    · rw [List.getElem?_map] at hz'
      obtain ⟨z, hz, rfl⟩ := Option.map_eq_some_iff.mp hz'
      have ne : z ≠ y := fun e => by
        subst e
        have := (List.getElem?_inj (by omega) T.nd).mp (hz.trans T.y0.symm)
        omega
      simp [eqV, ne]
    -- the days ahead
    refine ⟨_, rfl, _, _, rfl, rfl, _, rfl, by omega, by omega, ?_⟩
    have em : ((3 : Int) + (k : Nat)).toNat = 3 + k := by omega
    rw [em]
    intro D2 hD2
    refine lc_range (n := 3 + k) (fun j H5 => H5 D2 = some (.lst (List.replicate j (.ref E1))) ∧ Same H4 H5) ⟨upd_same, same_new hD2⟩ ?_ ?_
    · rintro j H5 hj ⟨hDj, s5⟩
      refine ⟨rfl, ?_⟩
      refine ⟨_, rfl, _, hDj, by rw [List.length_replicate]; exact line_lt (by omega), ?_, fun b o e => ?_⟩
      · rw [upd_same, List.replicate_succ']
      · rw [upd_ne (ne_of_none e hD2)]
        exact s5 _ _ e
    rintro H5 ⟨hD5, s5⟩
    have t8 : (thr y xs).length ≤ 8 := by rw [T.len]; omega
    refine ⟨D2, E1, _, 3 + k, rfl, hD5, s5 _ _ hT, t8, by omega, fun a H6 qa s6 fa da ea => ?_⟩
    have hT6 := s6 _ _ (s5 _ _ hT)
    have s06 := s04.trans (s5.trans s6)
    have fa0 : H a = none := (s04.trans s5).free fa
    have da0 := da.back (s04.trans s5)
    have ms : ((k : Nat) + 1 : Int) % 3 = (((k + 1) % 3 : Nat) : Int) := by omega
    have mt : ((k : Nat) + 2 : Int) % 3 = (((k + 2) % 3 : Nat) : Int) := by omega
    have hs : atI ((thr y xs).map V.str) (((k : Nat) + 1 : Int) % 3) = some (.str s) := by
      rw [ms]
      refine atI_nat ?_
      rw [List.getElem?_map, T.s0]
      rfl
    have ht : atI ((thr y xs).map V.str) (((k : Nat) + 2 : Int) % 3) = some (.str t) := by
      rw [mt]
      refine atI_nat ?_
      rw [List.getElem?_map, T.t0]
      rfl
    refine ⟨_, rfl, _, rfl, _, _, rfl, rfl, _, _, rfl, rfl, (by show (0 : Int) < 3; decide), E1, _, _, _, rfl, rfl, SqL.of hT6, hs, ?_⟩
    refine ⟨_, rfl, _, rfl, _, _, rfl, rfl, _, _, rfl, rfl, (by show (0 : Int) < 3; decide), E1, _, _, _, rfl, rfl, SqL.of hT6, ht, ?_⟩
    have st6 := da.st
    have fin : ∀ (o : Bool) (bb : Addr) (qb : List (Addr × List Str)) (H7 : Hp), qb.map (·.2) = rnd y s t o → Same H6 H7 → DaysL H H7 bb qb → H6 bb = none → (∀ x ∈ adr (bb, qb), H6 x = none) → ow = o →
        ∀ (x : Addr) (H8 : Hp) (u : Addr), Same H7 H8 → Sh C H8 x (pr (hf ow)) → H8 u = none → Q (.ref u) (upd H8 u (.tup [.ref a, .ref bb, .ref x])) := fun o bb qb H7 eb s67 db fb nb eo x H8 u s8 hq fu => by
      subst eo
      have su := same_new (o := .tup [.ref a, .ref bb, .ref x]) fu
      have s68 := s67.trans (s8.trans su)
      refine hQ l3 u x (a, qa) (bb, qb) s t k _ (s06.trans s68) ⟨upd_same, da0.same s68, db.same (s8.trans su), fa0, s06.free fb, fun z hz hz2 => ?_, hq.keep su, T, ea, eb⟩
      obtain ⟨o', e⟩ := st6 z hz
      rw [nb z hz2] at e
      cases e
    refine ⟨_, rfl, ow, rfl, ?_⟩
    cases ow with
    | true =>
      refine iteT ?_
      refine ⟨_, rfl, _, rfl, _, rfl, by show 2 ≤ sizeLine; decide, fun l1 f1 => ?_⟩
      refine ⟨_, rfl, _, rfl, by show 2 ≤ sizeLine; decide, fun l2 f2 => ?_⟩
      refine ⟨_, rfl, _, rfl, by show 2 ≤ sizeLine; decide, fun l3 f3 => ?_⟩
      refine ⟨by show 3 ≤ sizeLine; decide, fun bb fb => ?_⟩
      obtain ⟨s67, db, fb0, g1, g2, g3⟩ := three_lists (r1 := [y, s]) (r2 := [s, t]) (r3 := [s, t]) s06 f1 f2 f3 fb
      have nb : ∀ x ∈ adr (bb, [(l1, [y, s]), (l2, [s, t]), (l3, [s, t])]), H6 x = none := by rintro x hx; simp only [adr, List.map_cons, List.map_nil, List.mem_cons, List.not_mem_nil, or_false] at hx; rcases hx with rfl | rfl | rfl | rfl <;> assumption
      intro q dq nq ndq neq
      refine mk_in (n := 10) nq ndq (by decide) (by decide) (by decide) (by decide) fun H8 s8 hq => ⟨rfl, by show 3 ≤ sizeLine; decide, fun u fu => ?_⟩
      exact fin true bb _ _ rfl s67 db fb0 nb rfl q H8 u s8 hq fu
    | false =>
      refine iteF ?_
      refine ⟨_, rfl, _, rfl, _, rfl, by show 2 ≤ sizeLine; decide, fun l1 f1 => ?_⟩
      refine ⟨_, rfl, _, rfl, by show 2 ≤ sizeLine; decide, fun l2 f2 => ?_⟩
      refine ⟨_, rfl, _, rfl, by show 2 ≤ sizeLine; decide, fun l3 f3 => ?_⟩
      refine ⟨by show 3 ≤ sizeLine; decide, fun bb fb => ?_⟩
      obtain ⟨s67, db, fb0, g1, g2, g3⟩ := three_lists (r1 := [y, s]) (r2 := [y, s]) (r3 := [y, t]) s06 f1 f2 f3 fb
      have nb : ∀ x ∈ adr (bb, [(l1, [y, s]), (l2, [y, s]), (l3, [y, t])]), H6 x = none := by rintro x hx; simp only [adr, List.map_cons, List.map_nil, List.mem_cons, List.not_mem_nil, or_false] at hx; rcases hx with rfl | rfl | rfl | rfl <;> assumption
      refine ⟨_, rfl, ?_⟩
      intro q dq nq ndq neq
      refine mk_in (n := 10) nq ndq (by decide) (by decide) (by decide) (by decide) fun H8 s8 hq => ⟨rfl, by show 3 ≤ sizeLine; decide, fun u fu => ?_⟩
      exact fin false bb _ _ rfl s67 db fb0 nb rfl q H8 u s8 hq fu
end
end K40
set_option Elab.async false
set_option linter.all false
set_option maxRecDepth 100000
set_option maxHeartbeats 4000000
namespace K40
open PySem PySem.Spec PyProof.Rows L2
open C8 (Cal Mak Met pe_c pe_mk pe_mt pe_mt0)
open KM (pr)
/-- Turns by the line, so far gone -/
structure Rs (CT : Addr) (H : Hp) (tu ru ot ps : Addr) (xs : List Str) (u : List Str × (Str → Int)) (n : Nat) : Prop where
  go : ∃ hd kp past, Tr CT H tu ru hd kp ps ∧ LeastR H ru ot xs 0 ∧ Crd H hd xs u.2 ∧ H kp = some (.tup (u.1.map V.str)) ∧ H ps = some (.lst past) ∧ past.length = n
  pm : u.1.Perm xs
theorem stp_perm {xs R : List Str} {u : List Str × (Str → Int)} (ox : Ord xs) (pm : u.1.Perm xs) (dy : DayOk xs R) : (stp u R).1.Perm xs := by
  obtain ⟨y, hy⟩ := Drv.ex pm dy
  unfold stp
  rw [← drv_of hy]
  exact nl_perm pm ox.nd hy.mem.2
theorem run_perm {xs : List Str} (ox : Ord xs) : ∀ {ds : List (List Str)} {u : List Str × (Str → Int)}, (∀ R ∈ ds, DayOk xs R) → u.1.Perm xs → (runD u ds).1.Perm xs
  | [], _, _, h => h
  | R :: ds, u, hd, h => run_perm ox (ds := ds) (u := stp u R) (fun S hS => hd S (List.mem_cons_of_mem _ hS)) (stp_perm ox h (hd R List.mem_cons_self))
section
variable {P : Program} {w : World} {K : PySem.W.Frag} {mg : Str → Option Value} {base : Heap} {f C CT : Addr} {fd : FuncData}
theorem Rs.same {H H' : Hp} {tu ru ot ps : Addr} {xs : List Str} {u : List Str × (Str → Int)} {n : Nat} (r : Rs CT H tu ru ot ps xs u n) (s : Same H H') : Rs CT H' tu ru ot ps xs u n := by
  obtain ⟨⟨hd, kp, past, ⟨dx, tr⟩, lr, cd, ck, hp, pl⟩, pm⟩ := r
  exact ⟨⟨hd, kp, past, ⟨dx, s _ _ tr⟩, lr.same s, cd.same s, s _ _ ck, s _ _ hp, pl⟩, pm⟩
/-- a day more -/
theorem rs_next {H H1 : Hp} {tu ru ot ps hd kp hd' kp' : Addr} {xs R ln : List Str} {c : Str → Int} {n : Nat} {z : Str} {past : List V} (tr : Tr CT H tu ru hd kp ps) (lr : LeastR H ru ot xs 0) (hp : H ps = some (.lst past)) (pl : past.length = n) (pm : ln.Perm xs) (dy : DayOk xs R)
    (k1 : KpT tu ps H H1) (dr : Drv ln R z) (tr1 : Tr CT H1 tu ru hd' kp' ps) (cd1 : Crd H1 hd' xs (nxt R z c)) (ck1 : H1 kp' = some (.tup ((nl ln R z).map V.str))) (hp1 : H1 ps = some (.lst (past ++ [.str z]))) :
    (∀ {b : Addr} {ys : List V}, H b = some (.tup ys) → H1 b = some (.tup ys)) ∧ Rs CT H1 tu ru ot ps xs (stp (ln, c) R) (n + 1) := by
  obtain ⟨dx, htu⟩ := id tr
  have tk : ∀ {b : Addr} {ys : List V}, H b = some (.tup ys) → H1 b = some (.tup ys) := fun {b ys} e => k1 b _ e (fun z => by rw [z, htu] at e; cases e) (fun z => by rw [z, hp] at e; cases e)
  have ez := drv_of dr
  refine ⟨tk, ⟨hd', kp', _, tr1, lr.ext fun b ys e => tk e, ?_, ?_, hp1, by rw [List.length_append, pl]; rfl⟩, stp_perm (u := (ln, c)) lr.2.2.1 pm dy⟩
  · show Crd H1 hd' xs (nxt R (drv ln R) c)
    rw [← ez]
    exact cd1
  · show H1 kp' = some (.tup ((nl ln R (drv ln R)).map V.str))
    rw [← ez]
    exact ck1
theorem days_thr {xs : List Str} {y s t : Str} {k : Nat} (h : Tri xs y s t k) : DayOk xs (thr y xs) := ⟨fun z => (by have := h.len; rw [z] at this; cases this), h.nd, h.sub, List.length_filter_le _ _⟩
theorem days_rnd {xs : List Str} {y s t : Str} {k : Nat} {ow : Bool} (h : Tri xs y s t k) (l3 : 3 ≤ xs.length) : ∀ R ∈ rnd y s t ow, DayOk xs R ∧ R.length = 2 := by
  obtain ⟨n1, n2, n3, h1, h2, h3⟩ := h.ne
  have two : ∀ a b : Str, a ≠ b → a ∈ xs → b ∈ xs → DayOk xs [a, b] ∧ [a, b].length = 2 := fun a b ne ha hb => ⟨⟨by simp, by simp [ne], fun z hz => by
    simp only [List.mem_cons, List.not_mem_nil, or_false] at hz
    rcases hz with rfl | rfl <;> assumption, by show 2 ≤ xs.length; omega⟩, rfl⟩
  intro R hR
  unfold rnd at hR
  cases ow <;> simp only [if_true, Bool.false_eq_true, if_false, List.mem_cons, List.not_mem_nil, or_false] at hR <;> rcases hR with rfl | rfl | rfl
  · exact two _ _ n1 h1 h2
  · exact two _ _ n1 h1 h2
  · exact two _ _ n2 h1 h3
  · exact two _ _ n1 h1 h2
  · exact two _ _ n3 h2 h3
  · exact two _ _ n3 h2 h3
theorem rnd_len (y s t : Str) (ow : Bool) : (rnd y s t ow).length = 3 := by cases ow <;> rfl
theorem hf_t : decide (0 < (pr (hf true)).1) = true := by decide +kernel
theorem hf_f : decide ((pr (hf false)).1 < 0) = true := by decide +kernel
theorem sz_hf (ow : Bool) : KM.Sz 52 (hf ow) := KM.sz_of_low (by decide) (by cases ow <;> decide) (by decide)
def pD (u : Int × Int) : PyData := .tuple [.int u.1, .int u.2]
theorem p_dp {H : Hp} {p : Addr} {u : Int × Int} (hp : H p = some (tupP u)) : Dp K H (.ref p) (pD u) := Dp.tup (SqT.of hp) (.cons (.int _) (.cons (.int _) .nil))
theorem p_same (u : Int × Int) : (!PyData.eqv (pD u) (pD u)) = false := by simp [pD, PyData.eqv, PyData.eqvAll]
theorem p_sh (u : Int × Int) : SeqAt.shaped (pD u) = true := by rfl
theorem dp_strs {H : Hp} : ∀ xs : List Str, DpAll K H (xs.map V.str) (xs.map PyData.str)
  | [] => .nil
  | x :: xs => .cons (.str x) (dp_strs xs)
theorem sh_strs0 : ∀ xs : List Str, (∀ x ∈ xs, PyData.strOk x = true) → PyData.canLayAll0 (xs.map PyData.str) = true ∧ PyData.depthAll (xs.map PyData.str) = 0
  | [], _ => ⟨by simp [PyData.canLayAll0], by simp [PyData.depthAll]⟩
  | x :: xs, h => by
    obtain ⟨a, b⟩ := sh_strs0 xs fun y hy => h y (List.mem_cons_of_mem _ hy)
    have := h x List.mem_cons_self
    exact ⟨by simp [PyData.canLayAll0, PyData.canLay0, a, this], by simp [PyData.depthAll, PyData.depth, b]⟩
theorem sh_strs (xs : List Str) (h : ∀ x ∈ xs, PyData.strOk x = true) : SeqAt.shaped (.tuple (xs.map PyData.str)) = true := by
  obtain ⟨a, b⟩ := sh_strs0 xs h
  simp [SeqAt.shaped, PyData.canLay0, PyData.depth, a, b]
theorem strs_same (xs : List Str) : (!PyData.eqv (.tuple (xs.map PyData.str)) (.tuple (xs.map PyData.str))) = false := by
  have h : ∀ xs : List Str, PyData.eqvAll (xs.map PyData.str) (xs.map PyData.str) = true := fun xs => by
    induction xs with
    | nil => simp [PyData.eqvAll]
    | cons x xs ih =>
      rw [List.map_cons, PySem.W.eqv_all_cons, ih]
      simp [PyData.eqv]
  rw [show ∀ a b : List PyData, PyData.eqv (.tuple a) (.tuple b) = PyData.eqvAll a b from fun a b => by rw [PyData.eqv], h]
  rfl
theorem strOk_S {l : List Nat} (h : NM.ok l) : PyData.strOk (SX.S l) = true := by
  unfold PyData.strOk
  rw [← Array.all_toList, List.all_eq_true]
  intro x hx
  have := h.2.2 x hx
  exact decide_eq_true (by omega)
theorem Ord.sok {xs : List Str} (o : Ord xs) : ∀ x ∈ xs, PyData.strOk x = true := fun x hx => by
  obtain ⟨l, rfl, hl⟩ := o.nm x hx
  exact strOk_S hl
def lD (qs : List (Addr × List Str)) : PyData := .list (qs.map fun q => .list (q.2.map .str))
theorem dp_days {H : Hp} : ∀ {qs : List (Addr × List Str)}, (∀ q ∈ qs, H q.1 = some (.lst (q.2.map V.str))) → DpAll K H (qs.map fun p => V.ref p.1) (qs.map fun q => .list (q.2.map .str))
  | [], _ => .nil
  | q :: qs, h => .cons (Dp.lst (SqL.of (h q List.mem_cons_self)) (dp_strs _)) (dp_days fun r hr => h r (List.mem_cons_of_mem _ hr))
theorem sh_days {xs : List Str} (o : Ord xs) : ∀ {qs : List (Addr × List Str)}, (∀ q ∈ qs, ∀ x ∈ q.2, x ∈ xs) → PyData.canLayAll0 (qs.map fun q => PyData.list (q.2.map .str)) = true ∧ PyData.depthAll (qs.map fun q => PyData.list (q.2.map .str)) ≤ 1
  | [], _ => ⟨by simp [PyData.canLayAll0], by simp [PyData.depthAll]⟩
  | q :: qs, h => by
    obtain ⟨a, b⟩ := sh_days o (qs := qs) fun r hr => h r (List.mem_cons_of_mem _ hr)
    obtain ⟨c, d⟩ := sh_strs0 q.2 fun x hx => o.sok x (h q List.mem_cons_self x hx)
    exact ⟨by simp [PyData.canLayAll0, PyData.canLay0, a, c], by simp [PyData.depthAll, PyData.depth, d]; omega⟩
def spRi (C : Addr) : Sp := fun vs H Q _ => ∃ (ot f g : Addr) (xs : List Str) (y s t : Str) (ow : Bool) (H0 : Hp) (a b : Row) (k : Nat), vs = [.ref ot, .str y, .ref f, .bl ow] ∧ H ot = some (.tup (xs.map V.str)) ∧ Ord xs ∧ y ∈ xs ∧ 3 ≤ xs.length ∧ Ran C H0 H xs y ow f a b g s t k ∧
  ∀ H', (∀ c o, H c = some o → c ∉ adr a → c ∉ adr b → H' c = some o) → Q (.bl true) H'
theorem ok_ri (F : Dn K d_l_right f fd) (bl : Bl mg) (btup : mg "tuple" = none) (TC : Cl K mg C) (MT : Mak P w K mg base 4 "Turns" CT (spTi CT) []) (mR : Met P w K mg base 4 CT "ride" (spRide CT) []) (mS : Met P w K mg base 4 CT "stands" (spSt C CT) []) (mM : Met P w K mg base 1 CT "memory" (spMem CT) [])
    (cP : Cal P w K mg base 1 "_law_pair" (spPair C) []) (cA : Cal P w K mg base 1 "_law_are_days" spAD []) (cAd : Cal P w K mg base 2 "_law_add" spAdd []) (cAp : Cal P w K mg base 1 "_law_apart" spAp []) :
    FnOk P w K mg base CX0 6 f fd ["_law_order", "_law_name", "_law_found", "_law_way"] (spRi C) := by
  refine F.ok sc_l_right (fun vs H Q E h => ?_) (fun cdv A outer s H vs Q E hr h => ?_)
  · obtain ⟨ot, f, g, xs, y, s, t, ow, H0, a, b, k, rfl, _⟩ := h
    rfl
  · obtain ⟨ot, fo, g, xs, y, s0, t0, ow, H0, a, b, k, rfl, hot, ox, hy, l3, R, hQ⟩ := h
    have hu := hu_of hr
    have hu64 : (A.deeper (envOfC d_l_right.qual d_l_right.scope s.heap.objs.size f cdv)).units + 64 < cLine := by have := hr.un; omega
    refine ⟨_, PSs.nox (pss_cons (ps_if (PW.pt (pw_or (pt_not (pt_val (pe_callB call_isi rfl bl.isi boot_isinstance (pa_cons (pv 2) (pa_cons (pe_bltn (v := .ty "tuple") rfl btup boot_tuple rfl) pa_nil)))))
        (pw_or (pt_cmpR op_ne (pe_callB call_len_seq rfl bl.len boot_len (pa_cons (pv 2) pa_nil)) pe_int (nomark _))
        (pw_or1 (pt_cmpR op_isN1 (pe_c cP hr (by decide) rfl (pa_cons (pe_ix ix_tup (pv 2) pe_int (fun _ _ => rfl)) pa_nil)) pe_non (nomark _)))))) pss_never pss_nil)
      (pss_cons (ps_asg (pv 2) (pg_tup rfl (pgs_cons (pg_name (i := 4) sc_l_right.nd rfl (.inl rfl)) (pgs_cons (pg_name (i := 5) sc_l_right.nd rfl (.inl rfl)) (pgs_cons (pg_name (i := 6) sc_l_right.nd rfl (.inl rfl)) pgs_nil)))))
      (pss_cons (ps_if (PW.pt (pw_or (pt_not (pt_val (pe_c cA hr (by decide) rfl (pa_cons (pv 0) (pa_cons (pv 4) pa_nil)))))
        (pw_or (pt_not (pt_val (pe_c cA hr (by decide) rfl (pa_cons (pv 0) (pa_cons (pv 5) pa_nil)))))
        (pw_or1 (pt_cmpR (op_eqD hu64) (pv 5) (pe_lst pa_nil) (nomark _)))))) pss_never pss_nil)
      (pss_cons (ps_set (i := 7) sc_l_right.nd rfl (.inl rfl) (pe_mk MT hr (by decide) rfl (pa_cons (pe_tup (pa_cons pe_str (pa_cons (pv 0) pa_nil))) pa_nil)))
      (pss_cons (ps_for PassesOwn.never rfl (pi_list (pv 4)) (pg_name (i := 8) sc_l_right.nd rfl (.inl rfl)) (pss_one (ps_expr (pe_mt mR hr (by decide) (pv 7) (pa_cons (pv 8) pa_nil)))))
      (pss_cons (ps_par (i := 9) (j := 10) rfl sc_l_right.nd rfl rfl (by decide) rfl rfl (pa_cons (pe_mt0 mM hr (by decide) (pv 7)) (pa_cons (pe_c cP hr (by decide) rfl (pa_cons (pe_dget hu (pe_mt0 mS hr (by decide) (pv 7)) (pv 1) (fun _ _ => rfl)) pa_nil)) pa_nil)) rfl)
      (C8.pss_cut (ps_for PassesOwn.never rfl (pi_range1 rfl bl.range (pa_cons pe_int pa_nil)) (pg_name (i := 11) sc_l_right.nd rfl (.inl rfl))
        (C8.pss_cut (ps_for PassesOwn.never rfl (pi_list (pv 5)) (pg_name (i := 8) sc_l_right.nd rfl (.inl rfl)) (pss_one (ps_expr (pe_mt mR hr (by decide) (pv 7) (pa_cons (pv 8) pa_nil)))))
        (pss_cons (ps_set (i := 10) sc_l_right.nd rfl (.inl rfl) (pe_c cAd hr (by decide) rfl (pa_cons (pv 10) (pa_cons (pe_c cP hr (by decide) rfl (pa_cons (pv 6) pa_nil)) pa_nil))))
        (pss_one (ps_if (PW.pt (pw_or (pt_cmpR (op_neD hu64) (pe_mt0 mM hr (by decide) (pv 7)) (pv 9) (nomark _))
          (pw_or1 (pt_cmpR (op_neD hu64) (pe_c cP hr (by decide) rfl (pa_cons (pe_dget hu (pe_mt0 mS hr (by decide) (pv 7)) (pv 1) (fun _ _ => rfl)) pa_nil)) (pv 10) (nomark _))))) pss_never pss_nil)))))
      (pss_cons (ps_if (pt_not (pt_val (pe_c cAp hr (by decide) rfl (pa_cons (pe_lst (pa_cons (pv 4) (pa_cons (pv 5) pa_nil))) pa_nil)))) pss_never pss_nil)
      (pss_one (ps_ret (pe_ifExp (pt_val (pv 3)) (pe_cmpR op_gt (pe_fld (pv 6) rfl) pe_int (nomark _)) (pe_cmpR op_lt (pe_fld (pv 6) rfl) pe_int (nomark _))))))))))))), ?_⟩
    obtain ⟨ff, da, db, na, nb, dj, gg, T, qa, qb⟩ := R
    have dA : ∀ q ∈ a.2, DayOk xs q.2 := fun q hq => by
      have : q.2 ∈ a.2.map (·.2) := List.mem_map.mpr ⟨q, hq, rfl⟩
      rw [qa] at this
      rw [List.eq_of_mem_replicate this]
      exact days_thr T
    have dB : ∀ q ∈ b.2, DayOk xs q.2 ∧ q.2.length = 2 := fun q hq => by
      have : q.2 ∈ b.2.map (·.2) := List.mem_map.mpr ⟨q, hq, rfl⟩
      rw [qb] at this
      exact days_rnd T l3 _ this
    have k2 := T.k2
    have lA : a.2.length = 3 + k := by
      have := congrArg List.length qa
      rwa [List.length_map, List.length_replicate] at this
    have lB : b.2.length = 3 := by
      have := congrArg List.length qb
      rwa [List.length_map, rnd_len] at this
    have l8 := ox.l8
    refine ⟨_, rfl, _, _, _, _, true, rfl, ClsV.ty _, TyX.base (TyOf.tup ff), kit_ty (by decide +kernel), true, rfl, iteF ?_⟩
    refine ⟨_, rfl, fo, _, rfl, .inr (SqT.of ff), rfl, _, rfl, ?_⟩
    rw [show (!decide (V.int ((([V.ref a.1, V.ref b.1, V.ref g] : List V).length : Nat) : Int) = V.int 3)) = false from by show (!decide (V.int ((3 : Nat) : Int) = V.int 3)) = false; decide]
    refine iteF ?_
    refine ⟨_, rfl, fo, _, _, _, rfl, rfl, SqT.of ff, atI_nat (j := 2) rfl, g, _, rfl, gg, fun r1 H1 s1 fr1 hr1 => ⟨rfl, _, rfl, iteF ?_⟩⟩
    have ff1 := s1 _ _ ff
    refine ⟨_, rfl, fo, _, rfl, SqT.of ff1, rfl, _, _, rfl, _, _, rfl, _, _, rfl, rfl, ?_⟩
    refine ⟨_, rfl, _, rfl, ot, a.1, xs, a.2, rfl, s1 _ _ hot, ⟨s1 _ _ da.1, fun p hp => s1 _ _ (da.2.1 p hp).1⟩, fun q hq z hz => (dA q hq).sub z hz, by omega, fun H2 s2 => ⟨true, rfl, iteF ?_⟩⟩
    have s02 := s1.trans s2
    refine ⟨_, rfl, _, rfl, ot, b.1, xs, b.2, rfl, s02 _ _ hot, ⟨s02 _ _ db.1, fun p hp => s02 _ _ (db.2.1 p hp).1⟩, fun q hq z hz => (dB q hq).1.sub z hz, by omega, fun H3 s3 => ⟨true, rfl, iteF ?_⟩⟩
    have s03 := s02.trans s3
    refine ⟨_, rfl, by show 0 ≤ sizeLine; decide, fun e fe => ?_⟩
    have se := same_new (o := .lst []) fe
    have s04 := s03.trans se
    obtain ⟨shb, shd⟩ := sh_days ox (qs := b.2) fun q hq z hz => (dB q hq).1.sub z hz
    refine ⟨lD b.2, .list [], Dp.lst (SqL.of (s04 _ _ db.1)) (dp_days fun q hq => s04 _ _ (db.2.1 q hq).1), Dp.lst (SqL.of upd_same) .nil, by simp [lD, SeqAt.shaped, PyData.canLay0, PyData.depth, shb]; omega, by decide, _, rfl, ?_⟩
    have ne : PyData.eqv (lD b.2) (.list []) = false := by
      unfold lD
      rw [show ∀ a b : List PyData, PyData.eqv (.list a) (.list b) = PyData.eqvAll a b from fun a b => by rw [PyData.eqv]]
      match b.2, lB with
      | q :: qs, _ => simp [PyData.eqvAll]
    rw [ne]
    refine iteF ?_
    generalize upd H3 e (.lst []) = H4 at s04
    clear s1 s2 s02 s3 s03 se
    -- the Turns
    refine ⟨_, rfl, by show 2 ≤ sizeLine; decide, fun ru fru => ?_⟩
    have sr := same_new (o := .tup [.str "longest", .ref ot]) fru
    have rl : LeastR (upd H4 ru (.tup [.str "longest", .ref ot])) ru ot xs 0 := ⟨upd_same, sr _ _ (s04 _ _ hot), ox, by decide, by decide⟩
    generalize upd H4 ru (.tup [.str "longest", .ref ot]) = H5 at rl sr
    have s05 := s04.trans sr
    intro tu dx ntu ndx nne
    have lift : ∀ b o, H5 b = some o → (upd (upd H5 dx (.own tu)) tu (.ins CT dx [])) b = some o := fun b o e => by
      rw [upd_ne (ne_of_none e ntu), upd_ne (ne_of_none e ndx)]
      exact e
    refine ⟨tu, dx, ru, ot, xs, 0, rfl, upd_same, rl.ext fun b ys e => lift _ _ e, fun H6 hd ps back fps htu hcd hps => ⟨rfl, ?_⟩⟩
    have s56 : Same H5 H6 := fun b o e => back b o (ne_of_none e ntu) (lift b o e)
    have fps' : H5 ps = none := by
      cases e : H5 ps with
      | none => rfl
      | some o => rw [lift ps o e] at fps; cases fps
    have s06 := s05.trans s56
    have ntu0 : H tu = none := s05.free ntu
    have nps0 : H ps = none := s05.free fps'
    have R6 : Rs CT H6 tu ru ot ps xs (xs, fun _ => 0) 0 := ⟨⟨hd, ot, [], ⟨dx, htu⟩, rl.same s56, hcd, (rl.same s56).2.1, hps, rfl⟩, List.Perm.refl _⟩
    -- the days ahead
    refine ⟨_, rfl, a.1, rfl, ⟨_, SqL.of (s06 _ _ da.1)⟩, for_list (K := K) (xs := a.2.map fun p => V.ref p.1) (fun i σ H' => ∃ (v8 : Option V), σ = [some (.ref ot), some (.str y), some (.ref fo), some (.bl ow), some (.ref a.1), some (.ref b.1), some (.ref g), some (.ref tu), v8, none, none, none] ∧ Same H H' ∧ Rs CT H' tu ru ot ps xs (runD (xs, fun _ => 0) ((a.2.take i).map (·.2))) i)
      ⟨none, rfl, s06, R6⟩ (fun i σ H' _ z => by obtain ⟨_, _, sm, _⟩ := z; exact SqL.of (sm _ _ da.1)) ?_ ?_⟩
    · rintro i v σ H7 hi ⟨v8, rfl, s7, R7⟩
      rw [List.getElem?_map] at hi
      obtain ⟨q, hq, rfl⟩ := Option.map_eq_some_iff.mp hi
      have hqm := List.mem_of_getElem? hq
      have hil : i < a.2.length := (List.getElem?_eq_some_iff.mp hq).1
      obtain ⟨⟨hd7, kp7, past7, tr7, rl7, cd7, ck7, hp7, pl7⟩, pm7⟩ := R7
      obtain ⟨dx7, htu7⟩ := id tr7
      refine ⟨_, rfl, tu, dx7, _, rfl, htu7, tr_no _ _ _ _ (by decide +kernel) (by decide +kernel) (by decide +kernel) (by decide +kernel), _, rfl, tu, q.1, ru, ot, hd7, kp7, ps, xs, _, q.2, 0, _, past7, rfl, tr7, rl7, cd7, ck7, pm7, s7 _ _ (da.2.1 q hqm).1, dA q hqm, hp7, by omega, ne_of_none (da.2.1 q hqm).1 nps0, fun H8 hd8 kp8 z k8 dr tr8 cd8 ck8 hp8 => ?_⟩
      obtain ⟨tk, R8⟩ := rs_next tr7 rl7 hp7 pl7 pm7 (dA q hqm) k8 dr tr8 cd8 ck8 hp8
      refine ⟨_, rfl, fun c o e => k8 c o (s7 _ _ e) (ne_of_none e ntu0) (ne_of_none e nps0), ?_⟩
      rw [take_one hq, List.map_append]
      show Rs CT H8 tu ru ot ps xs (runD _ (_ ++ [q.2])) (i + 1)
      rw [run_snoc]
      exact R8
    rintro σ H7 ⟨v8, rfl, s7, R7⟩
    rw [List.length_map, List.take_length, lA, qa] at R7
    have ln7 := lead ox.nd T (fun _ => 0)
    have sm7 : ((runD (xs, fun _ => (0 : Int)) (List.replicate (3 + k) (thr y xs))).2 y).natAbs ≤ 1000 * 5 := by
      have := run_small (u := (xs, fun _ => (0 : Int))) (x := y) (ds := List.replicate (3 + k) (thr y xs)) (i := 0) (fun R hR => by rw [List.eq_of_mem_replicate hR, T.len]; omega) (by show (0 : Int).natAbs ≤ 0; decide)
      rw [List.length_replicate] at this
      omega
    generalize runD (xs, fun _ => (0 : Int)) (List.replicate (3 + k) (thr y xs)) = u7 at R7 ln7 sm7
    obtain ⟨u71, c7⟩ := u7
    dsimp only at ln7 sm7
    subst ln7
    -- what stands behind them
    obtain ⟨⟨hd7, kp7, past7, tr7, rl7, cd7, ck7, hp7, pl7⟩, pm7⟩ := id R7
    obtain ⟨dx7, htu7⟩ := id tr7
    refine ⟨_, rfl, tu, dx7, _, rfl, htu7, tr_no _ _ _ _ (by decide +kernel) (by decide +kernel) (by decide +kernel) (by decide +kernel), tu, ru, ot, hd7, kp7, ps, xs, 0, rfl, tr7, rl7, ?_⟩
    refine ⟨_, rfl, tu, dx7, _, rfl, htu7, tr_no _ _ _ _ (by decide +kernel) (by decide +kernel) (by decide +kernel) (by decide +kernel), tu, ru, ot, hd7, kp7, ps, xs, 0, _, rfl, tr7, rl7, cd7, fun SD H8 ad s8 fSD hSD hval => ?_⟩
    have dg : DGet H8 SD (.str y) (some (.ref (ad y))) := by
      have := DGet.k (k := Sum.inr y) hSD
      rw [DQ.val_map (fun x => V.ref (ad x)) hy] at this
      exact this
    refine ⟨_, rfl, SD, _, rfl, dg, ad y, _, rfl, hval y hy, fun cr H9 s9 fcr hcr => ?_⟩
    refine ⟨_, _, rfl, ?_⟩
    have s710 := s8.trans s9
    have hcr10 := hcr
    have s10 := s7.trans s710
    have ck10 := s710 _ _ ck7
    have R10 := R7.same s710
    -- the goings of the round
    refine ⟨fun σ' H' => ∃ v8 v10 v11, σ' = [some (.ref ot), some (.str y), some (.ref fo), some (.bl ow), some (.ref a.1), some (.ref b.1), some (.ref g), some (.ref tu), v8, some (.ref kp7), v10, v11] ∧ Same H H', ?_, ?_⟩
    · refine ⟨_, rfl, by decide, by decide, ?_⟩
      refine for_range (n := 3) (fun i σ H' => ∃ (v8 v11 : Option V) (cr : Addr) (c : Str → Int), σ = [some (.ref ot), some (.str y), some (.ref fo), some (.bl ow), some (.ref a.1), some (.ref b.1), some (.ref g), some (.ref tu), v8, some (.ref kp7), some (.ref cr), v11] ∧ Same H H' ∧ Rs CT H' tu ru ot ps xs (rst y xs ++ [y, s0, t0], c) (3 + k + 3 * i) ∧
          (c y).natAbs ≤ 1000 * (5 + 3 * i) ∧ H' kp7 = some (.tup ((rst y xs ++ [y, s0, t0]).map V.str)) ∧ H' cr = some (tupP (pr (rt (c y)))))
        ⟨_, _, cr, c7, rfl, s10, R10, sm7, ck10, hcr10⟩ ?_ ?_
      · rintro i σ H11 hi ⟨v8, v11, cr, c, rfl, s11, R11, sm11, ck11, hcr11⟩
        have ag := again T c ow
        refine ⟨fun σ' H' => ∃ v8, σ' = [some (.ref ot), some (.str y), some (.ref fo), some (.bl ow), some (.ref a.1), some (.ref b.1), some (.ref g), some (.ref tu), v8, some (.ref kp7), some (.ref cr), some (.int (0 + (i : Nat)))] ∧ Same H H' ∧ Rs CT H' tu ru ot ps xs (runD (rst y xs ++ [y, s0, t0], c) (rnd y s0 t0 ow)) (3 + k + 3 * i + 3) ∧ H' kp7 = some (.tup ((rst y xs ++ [y, s0, t0]).map V.str)) ∧ H' cr = some (tupP (pr (rt (c y)))), ?_, ?_⟩
        · refine ⟨_, rfl, b.1, rfl, ⟨_, SqL.of (s11 _ _ db.1)⟩, for_list (K := K) (xs := b.2.map fun p => V.ref p.1) (fun j σ H' => ∃ (v8 : Option V), σ = [some (.ref ot), some (.str y), some (.ref fo), some (.bl ow), some (.ref a.1), some (.ref b.1), some (.ref g), some (.ref tu), v8, some (.ref kp7), some (.ref cr), some (.int (0 + (i : Nat)))] ∧ Same H H' ∧ Rs CT H' tu ru ot ps xs (runD (rst y xs ++ [y, s0, t0], c) ((b.2.take j).map (·.2))) (3 + k + 3 * i + j) ∧ H' kp7 = some (.tup ((rst y xs ++ [y, s0, t0]).map V.str)) ∧ H' cr = some (tupP (pr (rt (c y)))))
            ⟨v8, rfl, s11, R11, ck11, hcr11⟩ (fun j σ H' _ z => by obtain ⟨_, _, sm, _⟩ := z; exact SqL.of (sm _ _ db.1)) ?_ ?_⟩
          · rintro j v σ H12 hj ⟨v8, rfl, s12, R12, ck12, hcr12⟩
            rw [List.getElem?_map] at hj
            obtain ⟨q, hq, rfl⟩ := Option.map_eq_some_iff.mp hj
            have hqm := List.mem_of_getElem? hq
            have hjl : j < b.2.length := (List.getElem?_eq_some_iff.mp hq).1
            obtain ⟨⟨hd12, kp12, past12, tr12, rl12, cd12, kk12, hp12, pl12⟩, pm12⟩ := R12
            obtain ⟨dx12, htu12⟩ := id tr12
            refine ⟨_, rfl, tu, dx12, _, rfl, htu12, tr_no _ _ _ _ (by decide +kernel) (by decide +kernel) (by decide +kernel) (by decide +kernel), _, rfl, tu, q.1, ru, ot, hd12, kp12, ps, xs, _, q.2, 0, _, past12, rfl, tr12, rl12, cd12, kk12, pm12, s12 _ _ (db.2.1 q hqm).1, (dB q hqm).1, hp12, by omega, ne_of_none (db.2.1 q hqm).1 nps0, fun H13 hd13 kp13 z k13 dr tr13 cd13 ck13 hp13 => ?_⟩
            obtain ⟨tk, R13⟩ := rs_next tr12 rl12 hp12 pl12 pm12 (dB q hqm).1 k13 dr tr13 cd13 ck13 hp13
            refine ⟨_, rfl, fun c o e => k13 c o (s12 _ _ e) (ne_of_none e ntu0) (ne_of_none e nps0), ?_, tk ck12, tk hcr12⟩
            rw [take_one hq, List.map_append]
            show Rs CT H13 tu ru ot ps xs (runD _ (_ ++ [q.2])) (3 + k + 3 * i + (j + 1))
            rw [run_snoc]
            exact R13
          · rintro σ H12 ⟨v8, rfl, s12, R12, ck12, hcr12⟩
            rw [List.length_map, List.take_length, lB, qb] at R12
            exact ⟨_, rfl, s12, R12, ck12, hcr12⟩
        rintro σ' H12 ⟨v8, rfl, s12, R12, ck12, hcr12⟩
        have sm12 : ((runD (rst y xs ++ [y, s0, t0], c) (rnd y s0 t0 ow)).2 y).natAbs ≤ 1000 * (5 + 3 * (i + 1)) := by
          have := run_small (u := (rst y xs ++ [y, s0, t0], c)) (x := y) (ds := rnd y s0 t0 ow) (i := 5 + 3 * i) (fun R hR => by have := (days_rnd T l3 R hR).2; omega) sm11
          rw [rnd_len] at this
          omega
        obtain ⟨ag1, ag2⟩ := ag
        generalize runD (rst y xs ++ [y, s0, t0], c) (rnd y s0 t0 ow) = u2 at R12 sm12 ag1 ag2
        obtain ⟨u21, c2⟩ := u2
        dsimp only at ag1 ag2 sm12
        subst ag1
        refine ⟨_, rfl, _, rfl, g, _, rfl, gg.keep s12, fun r2 H13 s13 fr2 hr2 => ?_⟩
        refine ⟨cr, r2, _, _, 52, rfl, s13 _ _ hcr12, hr2, ⟨bd_of (sz_rt (Nat.lt_of_le_of_lt sm11 (by omega)) (by decide)), bd_of (sz_hf ow), by decide, by decide⟩, fun r3 fr3 => ?_⟩
        rw [KM.pr_plus, rt_gn, ← ag2]
        have sr3 := same_new (o := tupP (pr (rt (c2 y)))) fr3
        have hr3 : (upd H13 r3 (tupP (pr (rt (c2 y))))) r3 = some (tupP (pr (rt (c2 y)))) := upd_same
        have s1214 := s13.trans sr3
        generalize upd H13 r3 (tupP (pr (rt (c2 y)))) = H14 at hr3 s1214
        have R14 := R12.same s1214
        have ck14 := s1214 _ _ ck12
        obtain ⟨⟨hd14, kp14, past14, tr14, rl14, cd14, kk14, hp14, pl14⟩, pm14⟩ := id R14
        obtain ⟨dx14, htu14⟩ := id tr14
        refine ⟨_, rfl, tu, dx14, _, rfl, htu14, tr_no _ _ _ _ (by decide +kernel) (by decide +kernel) (by decide +kernel) (by decide +kernel), tu, ru, ot, hd14, kp14, ps, xs, 0, rfl, tr14, rl14, ?_⟩
        have okl : ∀ x ∈ rst y xs ++ [y, s0, t0], PyData.strOk x = true := fun x hx => ox.sok x (pm14.mem_iff.mp hx)
        refine ⟨_, rfl, .tuple _, .tuple _, Dp.tup (SqT.of kk14) (dp_strs _), Dp.tup (SqT.of ck14) (dp_strs _), sh_strs _ okl, sh_strs _ okl, _, rfl, ?_⟩
        rw [strs_same]
        refine iteF ?_
        refine ⟨_, rfl, tu, dx14, _, rfl, htu14, tr_no _ _ _ _ (by decide +kernel) (by decide +kernel) (by decide +kernel) (by decide +kernel), tu, ru, ot, hd14, kp14, ps, xs, 0, _, rfl, tr14, rl14, cd14, fun SD H15 ad s15 fSD hSD hval => ?_⟩
        have dg : DGet H15 SD (.str y) (some (.ref (ad y))) := by
          have := DGet.k (k := Sum.inr y) hSD
          rw [DQ.val_map (fun x => V.ref (ad x)) hy] at this
          exact this
        refine ⟨_, rfl, SD, _, rfl, dg, ad y, _, rfl, hval y hy, fun cr2 H16 s16 fcr hcr16 => ?_⟩
        have s1416 := s15.trans s16
        refine ⟨_, rfl, pD (pr (rt (c2 y))), pD (pr (rt (c2 y))), p_dp hcr16, p_dp (s1416 _ _ hr3), p_sh _, p_sh _, _, rfl, ?_⟩
        rw [p_same]
        exact iteF ⟨_, _, r3, c2, rfl, s12.trans (s1214.trans s1416), R14.same s1416, sm12, s1416 _ _ ck14, s1416 _ _ hr3⟩
      · rintro σ H11 ⟨v8, v11, cr, c, rfl, s11, _⟩
        exact ⟨_, _, _, rfl, s11⟩
    rintro σ' H11 ⟨v8, v10, v11, rfl, s11⟩
    refine ⟨_, rfl, _, rfl, by show 2 ≤ sizeLine; decide, fun ls fls => ?_⟩
    have sls := same_new (o := .lst [.ref a.1, .ref b.1]) fls
    have hls : (upd H11 ls (.lst [.ref a.1, .ref b.1])) ls = some (.lst [.ref a.1, .ref b.1]) := upd_same
    have fls0 : H ls = none := s11.free fls
    generalize upd H11 ls (.lst [.ref a.1, .ref b.1]) = H12 at sls hls
    have s12 := s11.trans sls
    have sta : ∀ x ∈ adr a, ∃ o, H x = some o := da.st
    have stb : ∀ x ∈ adr b, ∃ o, H x = some o := db.st
    have ndA : (adr a).Nodup := List.nodup_cons.mpr ⟨fun h => by
      obtain ⟨q, hq, e⟩ := List.mem_map.mp h
      exact (da.2.1 q hq).2.2 e, da.2.2⟩
    have ndB : (adr b).Nodup := List.nodup_cons.mpr ⟨fun h => by
      obtain ⟨q, hq, e⟩ := List.mem_map.mp h
      exact (db.2.1 q hq).2.2 e, db.2.2⟩
    have two : ∀ r ∈ ([a, b] : List Row), r = a ∨ r = b := fun r hr => by simpa using hr
    refine ⟨ls, [a, b], rfl, hls, by show 2 ≤ 100; decide, ⟨fun r hr => ?_, fun r hr => ?_, fun i j r r' ne hi hj x hx hx2 => ?_, fun r hr => ?_, fun r hr q hq => ?_⟩, fun r hr hx => ?_, fun H13 kp => ⟨true, rfl, iteF ?_⟩⟩
    · rcases two r hr with rfl | rfl
      · exact ⟨s12 _ _ da.1, fun q hq => s12 _ _ (da.2.1 q hq).1⟩
      · exact ⟨s12 _ _ db.1, fun q hq => s12 _ _ (db.2.1 q hq).1⟩
    · rcases two r hr with rfl | rfl
      · exact ndA
      · exact ndB
    · match i, j, hi, hj with
      | 0, 0, _, _ => exact ne rfl
      | 1, 1, _, _ => exact ne rfl
      | 0, 1, hi, hj => cases hi; cases hj; exact dj x hx hx2
      | 1, 0, hi, hj => cases hi; cases hj; exact dj x hx2 hx
      | 0, j + 2, _, hj => simp at hj
      | 1, j + 2, _, hj => simp at hj
      | i + 2, _, hi, _ => simp at hi
    · rcases two r hr with rfl | rfl <;> omega
    · rcases two r hr with rfl | rfl
      · exact Nat.le_trans (dA q hq).ln l8
      · exact Nat.le_trans (dB q hq).1.ln l8
    · have : ∃ o, H ls = some o := by
        rcases two r hr with rfl | rfl
        · exact sta _ hx
        · exact stb _ hx
      obtain ⟨o, e⟩ := this
      rw [fls0] at e
      cases e
    have keep : ∀ c o, H c = some o → c ∉ adr a → c ∉ adr b → H13 c = some o := fun c o e n1 n2 => kp c o (s12 _ _ e) fun r hr => by
      rcases two r hr with rfl | rfl <;> assumption
    have lists : ∀ x, x ∈ adr a ∨ x ∈ adr b → ∃ ys, H x = some (.lst ys) := fun x hx => by
      rcases hx with hx | hx
      · rcases List.mem_cons.mp hx with e | e
        · exact ⟨_, by rw [e]; exact da.1⟩
        · obtain ⟨q, hq, rfl⟩ := List.mem_map.mp e
          exact ⟨_, (da.2.1 q hq).1⟩
      · rcases List.mem_cons.mp hx with e | e
        · exact ⟨_, by rw [e]; exact db.1⟩
        · obtain ⟨q, hq, rfl⟩ := List.mem_map.mp e
          exact ⟨_, (db.2.1 q hq).1⟩
    obtain ⟨dg, hg⟩ := gg
    have hg13 := keep g _ hg (fun z => by obtain ⟨ys, e⟩ := lists g (.inl z); rw [hg] at e; cases e) (fun z => by obtain ⟨ys, e⟩ := lists g (.inr z); rw [hg] at e; cases e)
    refine ⟨_, rfl, ow, rfl, ?_⟩
    cases ow with
    | true =>
      refine iteT ⟨_, rfl, g, C, dg, _, _, rfl, hg13, TC.cl, TC.nt, shF_top _, _, _, rfl, rfl, ?_⟩
      show Q (V.bl (decide (0 < (pr (hf true)).1))) H13
      rw [hf_t]
      exact hQ H13 keep
    | false =>
      refine iteF ⟨_, rfl, g, C, dg, _, _, rfl, hg13, TC.cl, TC.nt, shF_top _, _, _, rfl, rfl, ?_⟩
      show Q (V.bl (decide ((pr (hf false)).1 < 0))) H13
      rw [hf_f]
      exact hQ H13 keep
end
end K40
set_option Elab.async false
set_option linter.all false
set_option maxRecDepth 100000
set_option maxHeartbeats 4000000
/-! a call that may raise, of a def with defaults, within a try -/
namespace CSD
open PySem PySem.Spec PyProof.Rows L2
section
variable {X : Cx} {CX : CXT} {k : Nat} {f : Addr} {fd : FuncData} {ps : List Str} {ds : List Value} {dvs : List V} {sp : Sp} {E : L2.St → XK} {x : Str} {p pos : Pos} {e : Expr} {es : List Expr} {t : TA}
theorem pe_callSD (F : FnOk X.prog X.w X.K X.mg X.base CX k f fd ps sp) (hr : Room k X.A) (hg : Gl X x) (hm : X.mg x = some (.ref f)) (hk : PySem.W.keepIn X.K (.ref f) = true) (hb : Binds X.K fd ps ds) (hd : Vals dvs ds) (hx : ∀ σ, PassesAt CX X σ (E σ)) (ha : PA X (e :: es) t)
    (hdb : (x == ("__debug__" : Str)) = false := by decide) (he : starEach (e :: es) X.env = (false, eval e X.env) :: starEach es X.env := by rfl) (hpl : (backTo pos (starEach es X.env)).any (·.1) = false := by rfl) :
    PE X (.Call (.Name x p) (e :: es) [] pos) (fun σ H Q => t σ H fun vs H1 => sp (vs ++ dvs) H1 Q (E σ)) := by
  refine ⟨fun pins s σ H Q I h => wpAny_Call_Name_kw (ld_glob I hg hm (PySem.W.callWith_K (h₀ := X.base) I.ok.mod.kin hk (thn (ha.run pos pins s σ H _ I h) fun us s1 ⟨vs, H1, I1, r, q⟩ => ⟨I1.kIn, ?_⟩) he hpl) hdb)⟩
  have r2 := r.append hd
  refine wpAny_call (codeAny_mono (F.run X.A X.stack s1 H1 ⟨us, []⟩ (us ++ ds) (vs ++ dvs) Q (E σ) hr I1.env0 (hb s1 us I1.kIn (r2.length.symm.trans (F.len _ _ _ _ q))) r2 q) fun r s' hq => ?_)
  match r, hq with
  | .error er, hq => exact hx σ pins H1 s1 er s' I1 hq
  | .ok (.ret u), hq => exact I1.after hq
  | .ok .next, hq => exact hq.elim
  | .ok .brk, hq => exact hq.elim
  | .ok .cont, hq => exact hq.elim
end
end CSD
set_option Elab.async false
set_option linter.all false
set_option maxRecDepth 100000
set_option maxHeartbeats 4000000
namespace K40
open PySem PySem.Spec PyProof.Rows L2
open C8 (Cal Mak Met pe_c pe_mk pe_mt pe_mt0)
open EXV (Xc)
open EXW (Dct)
/-- what is known of NoName -/
structure Ke (K : PySem.W.Frag) (mg : Str → Option Value) (N fN : Addr) : Prop where
  gx : GX.Gx K N GXK.keT "LookupError.__new__"
  iC : PySem.W.findIn K (.ref N) "__init__" = some (some (.ref fN))
  tI : PySem.W.typeIn K (.ref fN) = some (.type "function")
  vV : PySem.W.findCls K (.type "KeyError") (.type "type") "__init__" = some (.val (.builtin "KeyError.__init__"))
  no : PySem.W.findIn K (.ref N) "name" = some none
  g : mg "NoName" = some (.ref N)
  zb : mg "KeyError" = none
  xf : XfC K N
  te : PySem.W.exmOne K (.ref N) (.ref N) = some true
/-- what is no name of an order -/
def Odd (K : PySem.W.Frag) (H : Hp) (xs : List Str) (v : V) : Prop := (∀ x ∈ xs, PyData.strOk x = true) ∧ ∃ d, Dp K H v d ∧ SeqAt.shaped d = true ∧ ((xs.map PyData.str).any fun z => PyData.eqv z d) = false
section
variable {P : Program} {w : World} {K : PySem.W.Frag} {mg : Str → Option Value} {base : Heap} {f C N fN : Addr} {fd fdN : FuncData} {ow : Str → Bool} {ab : String → Bool}
def spNN (N : Addr) : Sp := fun vs H Q _ => ∃ (a : Addr) (v : V), vs = [.ref a, v] ∧ H a = some (exo a N none) ∧ ∀ dx, H dx = none → dx ≠ a → Q .non (upd (upd H dx (exd dx [("name", v)])) a (exo a N (some dx)))
theorem ok_NN (F : Dn K d_NoName_init f fd) (T : Ke K mg N fN) : FnOk P w K mg base CX0 1 f fd ["self", "name"] (spNN N) := by
  refine F.ok sc_NoName_init (fun vs H Q E h => ?_) (fun cdv A outer s H vs Q E hr h => ?_)
  · obtain ⟨a, v, rfl, _⟩ := h
    rfl
  · obtain ⟨a, v, rfl, ha, hQ⟩ := h
    refine ⟨_, PSs.nox (pss_cons (ps_expr (GXK.pe_bi (nid := "LookupError.__new__") GXK.initKE rfl T.zb PyProof.Rows.Boot.«KeyError» GXK.typKE T.vV (by decide +kernel) (by decide +kernel) (pa_cons (pv 0) (pa_cons pe_str pa_nil))))
      (pss_one (GX.ps_pf GXK.storeKE (nid := "LookupError.__new__") (pv 0) (pv 1)))), ?_⟩
    refine ⟨_, rfl, a, N, _, rfl, by show 1 ≤ 1000; decide, T.gx, ha, ?_⟩
    exact ⟨_, rfl, _, rfl, a, N, rfl, T.gx, T.no, ha, hQ⟩
/-- a name that is none of the order -/
def spCiX (K : PySem.W.Frag) (N : Addr) : Sp := fun vs H _ E => ∃ (ot : Addr) (xs : List Str) (v : V), vs = [.ref ot, v] ∧ H ot = some (.tup (xs.map V.str)) ∧ Odd K H xs v ∧
  ∀ d H', Same H H' → H d = none → H' d = some (.xd [("name", v)]) → E (.ref N) (some d) H'
theorem ok_ciX (F : Dn K d_check_in_order f fd) (T : Ke K mg N fN) (FN : FnOk P w K mg base CX0 1 fN fdN ["self", "name"] (spNN N)) (bN : Binds K fdN ["self", "name"] []) : FnOk P w K mg base (L2.CX P w) 3 f fd ["order", "name"] (spCiX K N) := by
  refine F.ok sc_check_in_order (fun vs H Q E h => ?_) (fun cdv A outer s H vs Q E hr h => ?_)
  · obtain ⟨ot, xs, v, rfl, _⟩ := h
    rfl
  · obtain ⟨ot, xs, v, rfl, hot, od, hE⟩ := h
    have hu65 : (A.deeper (envOfC d_check_in_order.qual d_check_in_order.scope s.heap.objs.size f cdv)).units + 65 < cLine := by have := hr.un; omega
    obtain ⟨oks, dd, hdp, hsh, hno⟩ := od
    refine ⟨_, pss_one (ps_if (pt_cmpR (op_notInT hu65) (pv 1) (pv 0) (by rfl)) (pss_one (ps_raise rfl (takes_of rfl rfl rfl rfl) (GXK.pmk GXK.newKE T.gx T.iC T.tI FN hr bN .nil pass0 rfl T.g (pa_cons (pv 1) pa_nil)))) pss_nil), ?_⟩
    refine ⟨_, rfl, _, rfl, dd, xs.map .str, hdp, Dp.tup (SqT.of hot) (dp_strs xs), hsh, sh_strs xs oks, _, rfl, ?_⟩
    rw [hno]
    refine iteT ?_
    refine ⟨_, rfl, by show 1 ≤ 1000; decide, fun a ha => ⟨a, _, rfl, upd_same, fun d hd ne => ⟨rfl, d, _, upd_same, (by rw [upd_ne ne]; exact upd_same), ?_, ?_⟩⟩⟩
    · rw [upd_ne ne] at hd
      exact hd
    · have hd0 : H d = none := by
        rw [upd_ne ne] at hd
        exact hd
      refine hE d _ (fun b o e => ?_) hd0 upd_same
      have b1 : b ≠ d := ne_of_none e hd0
      have b2 : b ≠ a := ne_of_none e ha
      rw [upd_ne b1, del_ne b2, upd_ne b2, upd_ne b1, upd_ne b2]
      exact e
def spRaX (K : PySem.W.Frag) (N : Addr) : Sp := fun vs H _ E => ∃ (ot : Addr) (xs : List Str) (v : V) (ob : Bool), vs = [.ref ot, v, .bl ob] ∧ H ot = some (.tup (xs.map V.str)) ∧ Odd K H xs v ∧
  ∀ d H', Same H H' → H d = none → H' d = some (.xd [("name", v)]) → E (.ref N) (some d) H'
theorem ok_raX {fI : Addr} {fdI : FuncData} (F : Dn K d_runaway f fd) (gI : mg "check_in_order" = some (.ref fI)) (kI : PySem.W.keepIn K (.ref fI) = true) (FI : FnOk P w K mg base (L2.CX P w) 3 fI fdI ["order", "name"] (spCiX K N)) (bI : Binds K fdI ["order", "name"] []) :
    FnOk P w K mg base (L2.CX P w) 5 f fd ["order", "name", "owed"] (spRaX K N) := by
  refine F.ok sc_runaway (fun vs H Q E h => ?_) (fun cdv A outer s H vs Q E hr h => ?_)
  · obtain ⟨ot, xs, v, ob, rfl, _⟩ := h
    rfl
  · obtain ⟨ot, xs, v, ob, rfl, hot, od, hE⟩ := h
    refine ⟨_, pss_cons (ps_expr (pe_callS (E := fun σ cls d H => E cls d H) FI (hr.mono (by decide)) rfl gI kI bI (fun σ => passAt (takes_of rfl rfl rfl rfl) σ) (pa_cons (pv 0) (pa_cons (pv 1) pa_nil)))) pss_never, ?_⟩
    exact ⟨_, rfl, _, rfl, ot, xs, v, rfl, hot, od, hE⟩
theorem dp_bls {H : Hp} : ∀ bs : List Bool, DpAll K H (bs.map V.bl) (bs.map .bool)
  | [] => .nil
  | b :: bs => .cons (.bl b) (dp_bls bs)
theorem bls_same : ∀ bs : List Bool, PyData.eqvAll (bs.map .bool) (bs.map .bool) = true
  | [] => by simp [PyData.eqvAll]
  | b :: bs => by
    rw [List.map_cons, PySem.W.eqv_all_cons, bls_same bs]
    cases b <;> simp [PyData.eqv]
/-- the refusal, told: its words, its field, whether all above it stands right -/
def spRf (K : PySem.W.Frag) (wd : Str) : Sp := fun vs H Q _ => ∃ (ot : Addr) (xs : List Str) (v : V), vs = [.ref ot, v] ∧ H ot = some (.tup (xs.map V.str)) ∧ Odd K H xs v ∧
  ∀ (t l : Addr) (H' : Hp), Same H H' → H' t = some (.tup [.ref l, v, .bl true]) → H' l = some (.lst [.str wd]) → Q (.ref t) H'
theorem ok_rf {fR : Addr} {fdR : FuncData} {pl : List Int} {dR : List Value} (F : Dn K d_l_refused f fd) (T : Ke K mg N fN) (gR : mg "runaway" = some (.ref fR)) (kR : PySem.W.keepIn K (.ref fR) = true) (FR : FnOk P w K mg base (L2.CX P w) 5 fR fdR ["order", "name", "owed"] (spRaX K N)) (bR : Binds K fdR ["order", "name", "owed"] dR) (vR : Vals [.bl true] dR)
    (cK : Cal P w K mg base 1 "_law_kinds" (spKi N ow ab) []) (cB : Cal P w K mg base 1 "_law_bases" spBa []) (hf : fnd ow = [("name" : Str)]) (hp : (("name" : Str), pl) ∈ plc) (ha : (ex10.map fun x => ab x) = (List.range 10).map (abv pl)) :
    FnOk P w K mg base CX0 6 f fd ["_law_order", "_law_name"] (spRf K "name") := by
  refine F.ok sc_l_refused (fun vs H Q E h => ?_) (fun cdv A outer s H vs Q E hr h => ?_)
  · obtain ⟨ot, xs, v, rfl, _⟩ := h
    rfl
  · obtain ⟨ot, xs, v, rfl, hot, od, hQ⟩ := h
    have hu64 : (A.deeper (envOfC d_l_refused.qual d_l_refused.scope s.heap.objs.size f cdv)).units + 64 < cLine := by have := hr.un; omega
    refine ⟨_, PSs.nox (pss_cons (ps_set (i := 2) sc_l_refused.nd rfl (.inl rfl) pe_non)
      (pss_cons (EXV.ps_try_keep (i := 3) rfl rfl sc_l_refused.nd rfl rfl ⟨rfl, by decide, .inl T.g⟩ takes0
          (fun W pn xe tk _ => pss_one (ps_expr (CSD.pe_callSD (E := fun σ cls d H => W cls d σ H) FR (hr.mono (by decide)) rfl gR kR bR vR (fun σ => passAt tk σ) (pa_cons (pv 0) (pa_cons (pv 1) pa_nil)))))
          (fun a cls d pn => pss_one (ps_set (i := 2) sc_l_refused.nd rfl (.inl rfl) (pv 3))))
      (pss_cons (ps_if (pt_cmpR op_isN1 (pv 2) pe_non (nomark _)) pss_never pss_nil)
      (pss_cons (ps_asg (pe_c cK hr (by decide) rfl (pa_cons (pv 2) pa_nil)) (pg_tup rfl (pgs_cons (pg_name (i := 4) sc_l_refused.nd rfl (.inl rfl)) (pgs_cons (pg_name (i := 5) sc_l_refused.nd rfl (.inl rfl)) pgs_nil))))
      (pss_one (ps_ret (pe_tup (pa_cons (pv 4) (pa_cons (EXW.pe_xk (pv 2)) (pa_cons (pe_cmpR (op_eqD hu64) (pv 5) (pe_c cB hr (by decide) rfl (pa_cons pe_str pa_nil)) (nomark _)) pa_nil)))))))))), ?_⟩
    refine ⟨_, rfl, _, rfl, ot, xs, v, true, rfl, hot, od, fun d H1 s1 fd1 hd1 => ?_⟩
    refine ⟨true, T.te, fun _ a ha1 => ?_, fun z => nomatch z⟩
    refine ⟨_, rfl, ?_⟩
    have nda : d ≠ a := ne_of_none hd1 ha1
    have sx := same_new (o := Xc (.ref N) (some d) a) ha1
    have hx : (upd H1 a (Xc (.ref N) (some d) a)) a = some (Xc (.ref N) (some d) a) := upd_same
    have hd2 := sx _ _ hd1
    have s2 := s1.trans sx
    generalize upd H1 a (Xc (.ref N) (some d) a) = H2 at s2 hx hd2
    refine ⟨_, rfl, rfl, _, rfl, iteF ?_⟩
    refine ⟨_, rfl, a, some d, rfl, hx, .inr ⟨d, _, rfl, hd2⟩, fun t l m H3 s3 ft ht hl hm => ?_⟩
    refine ⟨t, _, rfl, SqT.of ht, rfl, _, _, rfl, _, _, rfl, rfl, ?_⟩
    refine ⟨_, rfl, _, rfl, a, N, d, _, v, rfl, s3 _ _ hx, s3 _ _ hd2, T.xf, T.no, rfl, ?_⟩
    refine ⟨_, rfl, "name", pl, rfl, hp, fun q H4 s4 fq hq => ?_⟩
    have e1 : (ex10.map fun x => V.bl (ab x)) = ((List.range 10).map (abv pl)).map V.bl := by
      rw [← ha, List.map_map]
      rfl
    have e2 : ((List.range 10).map fun i => V.bl (abv pl i)) = ((List.range 10).map (abv pl)).map V.bl := by
      rw [List.map_map]
      rfl
    rw [e1] at hm
    rw [e2] at hq
    have shp : SeqAt.shaped (.list (((List.range 10).map (abv pl)).map .bool)) = true := by rfl
    refine ⟨.list (((List.range 10).map (abv pl)).map .bool), .list (((List.range 10).map (abv pl)).map .bool), Dp.lst (SqL.of (s4 _ _ hm)) (dp_bls _), Dp.lst (SqL.of hq) (dp_bls _), shp, shp, ?_⟩
    have ev : PyData.eqv (.list (((List.range 10).map (abv pl)).map .bool)) (.list (((List.range 10).map (abv pl)).map .bool)) = true := by
      rw [show ∀ a b : List PyData, PyData.eqv (.list a) (.list b) = PyData.eqvAll a b from fun a b => by rw [PyData.eqv]]
      exact bls_same _
    rw [ev]
    refine ⟨by show 3 ≤ sizeLine; decide, fun u fu => ?_⟩
    have su := same_new (o := .tup [.ref l, v, .bl true]) fu
    refine hQ u l _ (((s2.trans s3).trans s4).trans su) upd_same (su _ _ (s4 _ _ ?_))
    rw [hl, hf]
    rfl
end
end K40
set_option Elab.async false
set_option linter.all false
set_option maxRecDepth 100000
set_option maxHeartbeats 4000000
/-! GE: a law's end by a promise that is asked only where no repr is under way. -/
namespace GL
open PySem PySem.Spec PyProof.Rows L2
theorem lawG {P : Program} {w : World} {K : PySem.W.Frag} {mg mb : Str → Option Value} {k : Nat} {fa a : Addr} {fd : FuncData} {x : Str} {sp : Sp} {s₁ : Shared} {vs : List Value} {ns : List Int}
    (KX : K.In s₁.heap) (hns : s₁.heap.Ns mainGlobals mg) (hb : s₁.heap.Ns builtinsNs mb) (hbb : ∀ x : Str, x ≠ "__name__" → mb x = bootBuiltins x) (hlim : s₁.heap.NoLimit) (hg : s₁.gens = #[])
    (ha : s₁.heap.get? a = some { cls := .type "list", data := .seq vs.toArray }) (hi : IntsAre vs ns) (hl : ns.length ≤ sizeLine) (hr : Room k callerA)
    (F : ∀ base : Heap, K.In base → base.Ns mainGlobals mg → FnG P w K mg base k fa fd [x] sp) (hbind : ∀ (s : Shared) (u : Value), BindsTo s fd ⟨[u], []⟩ [(x, u)])
    (hsp : ∀ H : Hp, SqL K H a (ns.map V.int) → sp [.ref a] H (fun v _ => v = .bl true) fun _ _ _ => False) :
    codeAny (model P w) callerA (.call (.ref fa) ⟨[.ref a], []⟩) (fun r s' => r = .ok (.ret (.bool true)) ∧ OldK s₁.heap s'.heap ∧ s'.os = s₁.os ∧ AllBare s'.gens) s₁ := by
  -- the script alone is tracked, as it is, or nothing
  have from_ : ∀ H : Hp, SqL K H a (ns.map V.int) → HOk P w H s₁.heap → (∀ b u, H b = some u → b = a ∧ K.lookup a = none ∧ ∃ o xs, u = .frz o (.lst xs)) →
      codeAny (model P w) callerA (.call (.ref fa) ⟨[.ref a], []⟩) (fun r s' => r = .ok (.ret (.bool true)) ∧ OldK s₁.heap s'.heap ∧ s'.os = s₁.os ∧ AllBare s'.gens) s₁ := by
    intro H hS hok hA
    have off : ∀ b, (b = a → K.lookup a ≠ none) → H b = none := fun b n => by
      cases q : H b with
      | none => rfl
      | some u => exact absurd (hA b u q).2.1 (n (hA b u q).1)
    have nsK : ∀ {b : Addr} {m : Str → Option Value}, s₁.heap.Ns b m → (hidT s₁.heap H).Ns b m := by
      rintro b m ⟨o, es, ep, e, d, r⟩
      refine ⟨o, es, ep, hidT_get e (off b fun z => ?_), d, r⟩
      subst z
      rw [ha] at e
      cases e
      cases d
    have inK : K.In (hidT s₁.heap H) := fun b o e => hidT_get (KX b o e) (off b fun z => by rw [← z, e]; simp)
    have hM : Mod K mg (hidT s₁.heap H) := ⟨inK, nsK hns, ⟨mb, nsK hb, hbb⟩, by obtain ⟨mc, h1, h2⟩ := hlim; exact ⟨mc, nsK h1, h2⟩⟩
    have nofr : ∀ b : Addr, b ∉ frs ([] : List Env) := fun b z => nomatch z
    have e0 : Env0 P w K mg (hidT s₁.heap H) callerA [] s₁ H := ⟨rfl, hM, fun b o e => of_hidT e, Nat.le_of_eq (hidT_size _ _), trivial, fun b z => absurd z (nofr b), hok, .of_eq hg⟩
    refine codeAny_mono ((F _ inK (nsK hns)).run callerA [] s₁ H ⟨[.ref a], []⟩ [.ref a] [.ref a] _ _ rfl hr e0 (hbind s₁ (.ref a)) (.cons rfl .nil) (hsp H hS)) fun r s' h => ?_
    match r, h with
    | .error e, h => exact False.elim h
    | .ok .next, h => exact False.elim h
    | .ok .brk, h => exact False.elim h
    | .ok .cont, h => exact False.elim h
    | .ok (.ret u), ⟨v, H', os, bare, un, hok', r', q⟩ =>
      cases (show v = .bl true from q)
      cases (show u = Value.bool true from r')
      refine ⟨rfl, OldK.of_keep fun b o e => ?_, os, bare⟩
      cases q : H b with
      | none => exact un.keep b o e q (nofr b) (by simp)
      | some u =>
        obtain ⟨_, _, ob, xs, rfl⟩ := hA b u q
        have e1 := (hok b _ q).1
        have e2 := (hok' b _ (un.frzs b ob _ q)).1
        rw [e] at e1
        cases e1
        exact e2
  have rv := vals_ints hi
  cases hk : K.lookup a with
  | some o =>
    have e := KX a o hk
    rw [ha] at e
    cases e
    exact from_ (fun _ => none) (.inr ⟨_, vs.toArray, _, hk, rfl, rfl, rfl, by rw [List.size_toArray, hi.length]; exact hl, by simpa using rv⟩) (fun b u z => nomatch z) (fun b u z => nomatch z)
  | none =>
    have at_ : ∀ (b : Addr) (u : HO), (if b = a then some (HO.frz { cls := .type "list", data := .seq vs.toArray } (.lst (ns.map V.int))) else none) = some u → b = a ∧ u = HO.frz { cls := .type "list", data := .seq vs.toArray } (.lst (ns.map V.int)) := fun b u z => by
      by_cases h : b = a
      · rw [if_pos h] at z
        exact ⟨h, (Option.some.inj z).symm⟩
      · rw [if_neg h] at z
        cases z
    refine from_ (fun b => if b = a then some (.frz { cls := .type "list", data := .seq vs.toArray } (.lst (ns.map V.int))) else none) (.inl (.inr ⟨{ cls := .type "list", data := .seq vs.toArray }, if_pos rfl⟩)) (fun b u z => ?_) (fun b u z => ?_)
    · obtain ⟨rfl, rfl⟩ := at_ b u z
      exact ⟨ha, by rw [List.length_map]; exact hl, vs, _, rv, ha⟩
    · obtain ⟨rfl, rfl⟩ := at_ b u z
      exact ⟨rfl, hk, _, _, rfl⟩
/-- a law: F gives the written part, the function object, the promise over every base -/
theorem walkG {l : PySem.W.OpenLaw} {n k : Nat} {q : Program} {loose : List Str} {XP : (Str → Option Value) → Heap → Prop} {YP : World → Heap → Prop} {d : DefRec} {x : Str} (hn : l.most = some n) (hn2 : n ≤ sizeLine) (hdf : d.params.defaults = []) (hr : Room k callerA)
    (F : ∀ (w : World) (mg : Str → Option Value) (fa : Addr) (h : Heap), YP w h → h.Ns mainGlobals mg → mg d.name = some (.ref fa) →
      ∃ (K : PySem.W.Frag) (fd : FuncData) (sp : Sp), K.In h ∧ (∀ (s : Shared) (u : Value), BindsTo s fd ⟨[u], []⟩ [(x, u)]) ∧
        (∀ (H : Hp) (a : Addr) (ns : List Int), ns.length ≤ n → SqL K H a (ns.map V.int) → sp [.ref a] H (fun v _ => v = .bl true) fun _ _ _ => False) ∧
        ∀ base : Heap, K.In base → base.Ns mainGlobals mg → FnG l.prog w K mg base k fa fd [x] sp) : PySem.W.WalkO q loose XP YP l.row.toRowW d [] (fun f vs => PySem.call f vs) := by
  refine Att.attach_call hn hdf fun w s₀ s₁ mg mb fa o pm cd doc a vs ns G Y ho hd hcd hmg hobj hints hlen hg => ?_
  obtain ⟨K, fd, sp, KX, hb, hsp, hF⟩ := F w mg fa _ Y G.T.g hmg
  exact lawG KX G.T.g G.T.b G.T.builtins G.T.nolimit hg hobj hints (Nat.le_trans hlen hn2) hr hF hb fun H hS => hsp H a ns hlen hS
end GL
set_option Elab.async false
set_option linter.all false
set_option maxRecDepth 100000
set_option maxHeartbeats 4000000
namespace K40
open PySem PySem.Spec PyProof.Rows L2
open C8 (Cal Mak Met pe_c pe_mk pe_mt pe_mt0)
open KM (pr)
open SX (S)
theorem sm_bl (b : Bool) : SD.Sm 5 0 (.bool b) := ⟨by simp only [PyData.showable], by simp only [PyData.hasDict], by simp only [PyData.depth]; omega, by simp only [PyData.leavesShort], by simp only [PyData.weight]; omega, by simp only [PyData.canLay0]⟩
theorem sm_non : SD.Sm 5 0 .none := ⟨by simp only [PyData.showable], by simp only [PyData.hasDict], by simp only [PyData.depth]; omega, by simp only [PyData.leavesShort], by simp only [PyData.weight]; omega, by simp only [PyData.canLay0]⟩
theorem rp_rf {x : Str} {d : PyData} {n k : Nat} (hx : SD.Sm 10 1 (.list [.str x])) (hs : SD.Sm n k d) (n1 : n ≤ 1000) (k1 : k ≤ 10) : (PyData.tuple [.list [.str x], d, .bool true]).showable = true ∧ (PyData.tuple [.list [.str x], d, .bool true]).hasDict = false ∧ (PyData.tuple [.list [.str x], d, .bool true]).depth ≤ 60 ∧ (PyData.tuple [.list [.str x], d, .bool true]).shown.length ≤ sizeLine := by
  have a := SD.Sm.tup (SD.SmA.cons (hx.mono (Nat.le_refl _) (by decide : 1 ≤ 10)) (SD.SmA.cons (hs.mono n1 k1) (SD.SmA.cons ((sm_bl true).mono (Nat.le_refl _) (by decide : 0 ≤ 10)) SD.SmA.nil)))
  exact a.four (by have := sizeLine_eq; omega) (by decide)
theorem smN : SD.Sm 10 1 (.list [.str "name"]) := (SD.Sm.lst (SD.SmA.cons (SD.Sm.str (x := "name") (n := 4) (by decide +kernel) (by decide +kernel)) SD.SmA.nil)).mono (by decide) (Nat.le_refl _)
theorem ne_same (v : V) : (!decide (v = v)) = false := by simp
/-- what is odd, and small to show -/
def OddS (K : PySem.W.Frag) (xs : List Str) (ot : Addr) (v : V) : Prop := ∃ d n k, (∀ H : Hp, H ot = some (.tup (xs.map V.str)) → Dp K H v d) ∧ SD.Sm n k d ∧ n ≤ 1000 ∧ k ≤ 10 ∧ ((xs.map PyData.str).any fun z => PyData.eqv z d) = false
theorem OddS.odd {K : PySem.W.Frag} {H : Hp} {xs : List Str} {ot : Addr} {v : V} (h : OddS K xs ot v) (hot : H ot = some (.tup (xs.map V.str))) (ok : ∀ x ∈ xs, PyData.strOk x = true) : Odd K H xs v := by
  obtain ⟨d, n, k, a, b, _, c, e⟩ := h
  exact ⟨ok, d, a H hot, b.shaped (by omega), e⟩
theorem odd_str {K : PySem.W.Frag} {ot : Addr} {xs : List Str} (nm : ∀ x ∈ xs, ∃ l, x = S l ∧ NM.ok l) : OddS K xs ot (.str "none9") := by
  refine ⟨.str "none9", 5, 0, fun _ _ => .str _, SD.Sm.str (x := "none9") (n := 5) (by decide +kernel) (by decide +kernel), by decide, by decide, ?_⟩
  rw [List.any_eq_false]
  intro z hz
  obtain ⟨x, hx, rfl⟩ := List.mem_map.mp hz
  obtain ⟨l, rfl, okl⟩ := nm x hx
  have ne : S l ≠ "none9" := fun e => by
    have e9 : ("none9" : Str) = S [110, 111, 110, 101, 57] := by decide +kernel
    have e2 := S_inj (e.trans e9)
    have := okl.2.2 57 (by rw [e2]; decide)
    omega
  simp [PyData.eqv, ne]
theorem odd_non {K : PySem.W.Frag} {ot : Addr} {xs : List Str} : OddS K xs ot .non := by
  refine ⟨.none, 5, 0, fun _ _ => .non, sm_non, by decide, by decide, ?_⟩
  rw [List.any_eq_false]
  intro z hz
  obtain ⟨x, hx, rfl⟩ := List.mem_map.mp hz
  simp [PyData.eqv]
theorem odd_tup {K : PySem.W.Frag} {xs : List Str} {ot : Addr} (ox : Ord xs) : OddS K xs ot (.ref ot) := by
  have a : SD.SmA ((8 + 1) * xs.length) 0 (xs.map PyData.str) := SD.SmA.map (n := 8) (k := 0) (g := PyData.str) fun x hx => by
    obtain ⟨l, rfl, hl⟩ := ox.nm x hx
    exact SD.Sm.str (strOk_S hl) (by rw [SX.S_len]; exact hl.2.1)
  have l8 := ox.l8
  refine ⟨.tuple (xs.map .str), _, 1, fun H hot => Dp.tup (SqT.of hot) (dp_strs xs), SD.Sm.tup a, by omega, by decide, ?_⟩
  rw [List.any_eq_false]
  intro z hz
  obtain ⟨x, hx, rfl⟩ := List.mem_map.mp hz
  simp [PyData.eqv]
theorem odds {K : PySem.W.Frag} {xs : List Str} {ot : Addr} {v : V} (h : v = .str "none9" ∨ v = .non ∨ v = .ref ot) (ox : Ord xs) : OddS K xs ot v := by
  rcases h with rfl | rfl | rfl
  · exact odd_str ox.nm
  · exact odd_non
  · exact odd_tup ox
/-- a told one: the tuple, what was found, the way; of an order of three or more -/
structure Td (C : Addr) (H0 H : Hp) (xs : List Str) (y : Str) (u f : Addr) (a b : Row) (ow : Bool) : Prop where
  hu : H u = some (.tup [.ref f, .bl ow])
  rn : ∃ g s t k, Ran C H0 H xs y ow f a b g s t k
theorem Ran.keep {C : Addr} {H0 H H' : Hp} {xs : List Str} {y : Str} {ow : Bool} {f : Addr} {a b : Row} {g : Addr} {s t : Str} {k : Nat} (r : Ran C H0 H xs y ow f a b g s t k) (m : ∀ c o, H c = some o → (∀ ys, o = .lst ys → c ∈ adr a ∨ c ∈ adr b) → H' c = some o) : Ran C H0 H' xs y ow f a b g s t k := by
  obtain ⟨ff, da, db, na, nb, dj, ⟨dg, gg⟩, tr, qa, qb⟩ := r
  refine ⟨m _ _ ff (fun ys e => by cases e), ⟨m _ _ da.1 fun _ _ => .inl List.mem_cons_self, fun p hp => ⟨m _ _ (da.2.1 p hp).1 fun _ _ => .inl (List.mem_cons_of_mem _ (List.mem_map.mpr ⟨p, hp, rfl⟩)), (da.2.1 p hp).2⟩, da.2.2⟩,
    ⟨m _ _ db.1 fun _ _ => .inr List.mem_cons_self, fun p hp => ⟨m _ _ (db.2.1 p hp).1 fun _ _ => .inr (List.mem_cons_of_mem _ (List.mem_map.mpr ⟨p, hp, rfl⟩)), (db.2.1 p hp).2⟩, db.2.2⟩, na, nb, dj, ⟨dg, m _ _ gg (fun ys e => by cases e)⟩, tr, qa, qb⟩
theorem Td.keep {C : Addr} {H0 H H' : Hp} {xs : List Str} {y : Str} {u f : Addr} {a b : Row} {ow : Bool} (r : Td C H0 H xs y u f a b ow) (m : ∀ c o, H c = some o → (∀ ys, o = .lst ys → c ∈ adr a ∨ c ∈ adr b) → H' c = some o) : Td C H0 H' xs y u f a b ow := by
  obtain ⟨hu, g, s, t, k, rn⟩ := r
  exact ⟨m _ _ hu (fun ys e => by cases e), g, s, t, k, rn.keep m⟩
theorem Td.same {C : Addr} {H0 H H' : Hp} {xs : List Str} {y : Str} {u f : Addr} {a b : Row} {ow : Bool} (r : Td C H0 H xs y u f a b ow) (s : Same H H') : Td C H0 H' xs y u f a b ow := r.keep fun c o e _ => s c o e
theorem Td.new {C : Addr} {H0 H : Hp} {xs : List Str} {y : Str} {u f : Addr} {a b : Row} {ow : Bool} (r : Td C H0 H xs y u f a b ow) : ∀ x, x ∈ adr a ∨ x ∈ adr b → H0 x = none ∧ ∃ ys, H x = some (.lst ys) := fun x hx => by
  obtain ⟨_, g, s, t, k, ff, da, db, na, nb, dj, gg, tr, qa, qb⟩ := r
  rcases hx with hx | hx
  · refine ⟨da.nw na x hx, ?_⟩
    rcases List.mem_cons.mp hx with e | e
    · exact ⟨_, by rw [e]; exact da.1⟩
    · obtain ⟨q, hq, rfl⟩ := List.mem_map.mp e
      exact ⟨_, (da.2.1 q hq).1⟩
  · refine ⟨db.nw nb x hx, ?_⟩
    rcases List.mem_cons.mp hx with e | e
    · exact ⟨_, by rw [e]; exact db.1⟩
    · obtain ⟨q, hq, rfl⟩ := List.mem_map.mp e
      exact ⟨_, (db.2.1 q hq).1⟩
section
variable {P : Program} {w : World} {K : PySem.W.Frag} {mg : Str → Option Value} {base : Heap} {f C fR : Addr} {fd fdR : FuncData}
def spLaw (K : PySem.W.Frag) : Sp := fun vs H Q _ => ∃ (a : Addr) (ns : List Int), vs = [.ref a] ∧ SqL K H a (ns.map V.int) ∧ ns.length ≤ 63 ∧ ∀ H', Q (.bl true) H'
theorem ok_law (F : Dn K d_law f fd) (bl : Bl mg) (btup : mg "tuple" = none) (brep : mg "repr" = none) (cH : Cal P w K mg base 1 "_law_held" (spHeld K) []) (cD : CalD P w K mg base) (cNm : Cal P w K mg base 2 "_law_names" spNames [])
    (cRi : Cal P w K mg base 6 "_law_right" (spRi C) []) (cRf : Cal P w K mg base 6 "_law_refused" (spRf K "name") [])
    (cR2 : Cal P w K mg base 4 "runaway" (spRa C) [.bl true]) (cR3 : Cal P w K mg base 4 "runaway" (spRa C) [])
    (FR : FnOk P w K mg base CX0 4 fR fdR ["order", "name", "owed"] (spRa C)) (gR : mg "runaway" = some (.ref fR)) (kR : PySem.W.keepIn K (.ref fR) = true) (k1 : KBn K fdR ["order", "name", "owed"] 2 ["owed"] (fun us ws => us ++ ws) (fun vs zs => vs ++ zs)) :
    GL.FnG P w K mg base 7 f fd ["_law_script"] (spLaw K) := by
  refine GL.okG F sc_law (fun vs H Q E h => ?_) (fun cdv A outer s H vs Q E hgd hr h => ?_)
  · obtain ⟨a, ns, rfl, _⟩ := h
    rfl
  · obtain ⟨s0, ns, rfl, hS, hlen, hQ⟩ := h
    have hu64 : (A.deeper (envOfC d_law.qual d_law.scope s.heap.objs.size f cdv)).units + 64 < cLine := by have := hr.un; omega
    refine ⟨_, PSs.nox (pss_cons (ps_set (i := 1) sc_law.nd rfl (.inl rfl) (pe_c cH hr (by decide) rfl (pa_cons (pv 0) pa_nil)))
      (pss_cons (ps_set (i := 2) sc_law.nd rfl (.inl rfl) (pe_c cNm hr (by decide) rfl (pa_cons (pv 1) (pa_cons pe_int pa_nil))))
      (C8.pss_cut (ps_set (i := 3) sc_law.nd rfl (.inl rfl) (pe_callTy call_tuple_of rfl btup boot_tuple (pa_cons (pe_slice sl_list (pv 2) po_none (po_some (pe_ix ix_list (pe_lst (pa_cons (pe_op op_add pe_int (pe_c cD hr (by decide) rfl (pa_cons (pv 1) (pa_cons pe_int pa_nil)))) (pa_cons (pe_op op_add pe_int (pe_c cD hr (by decide) rfl (pa_cons (pv 1) (pa_cons pe_int pa_nil)))) pa_nil))) (pe_c cD hr (by decide) rfl (pa_cons (pv 1) (pa_cons pe_int pa_nil))) (fun _ _ => rfl)))) pa_nil)))
      (C8.pss_cut (ps_for PassesOwn.never rfl (pi_tup (pv 3)) (pg_name (i := 4) sc_law.nd rfl (.inl rfl))
        (pss_cons (ps_set (i := 5) sc_law.nd rfl (.inl rfl) (pe_lst (pa_cons (pe_tup (pa_cons (pe_c cR2 hr (by decide) rfl (pa_cons (pv 3) (pa_cons (pv 4) pa_nil))) (pa_cons pe_bl pa_nil))) (pa_cons (pe_tup (pa_cons (pe_c cR3 hr (by decide) rfl (pa_cons (pv 3) (pa_cons (pv 4) (pa_cons pe_bl pa_nil)))) (pa_cons pe_bl pa_nil))) pa_nil))))
        (pss_one (ps_for PassesOwn.never rfl (pi_list (pe_op op_cat (pv 5) (pe_lst (pa_cons (pe_tup (pa_cons (pe_callN (E := E0) FR (hr.mono (by decide)) rfl gR kR k1 (fun _ _ _ _ _ _ _ h => False.elim h) (pa_cons (pv 3) (pa_cons (pv 4) pa_nil)) (pk_cons pe_bl pk_nil)) (pa_cons pe_bl pa_nil))) pa_nil)))) (pg_tup rfl (pgs_cons (pg_name (i := 6) sc_law.nd rfl (.inl rfl)) (pgs_cons (pg_name (i := 7) sc_law.nd rfl (.inl rfl)) pgs_nil)))
          (pss_one (ps_if (PW.pt (pw_or (PW.pt (pw_and (pt_cmpR op_lt (pe_callB call_len_seq rfl bl.len boot_len (pa_cons (pv 3) pa_nil)) pe_int (nomark _)) (pw_and1 (pt_cmpR op_notN1 (pv 6) pe_non (nomark _)))))
            (pw_or1 (PW.pt (pw_and (pt_cmpR op_gt (pe_callB call_len_seq rfl bl.len boot_len (pa_cons (pv 3) pa_nil)) pe_int (nomark _)) (pw_and1 (pt_not (pt_val (pe_c cRi hr (by decide) rfl (pa_cons (pv 3) (pa_cons (pv 4) (pa_cons (pv 6) (pa_cons (pv 7) pa_nil)))))))))))) ) pss_never pss_nil))))))
      (pss_cons (ps_for PassesOwn.never rfl (pi_list (pe_lst (pa_cons pe_str (pa_cons pe_non (pa_cons (pv 3) pa_nil))))) (pg_name (i := 8) sc_law.nd rfl (.inl rfl))
        (pss_one (ps_if (pt_cmpR op_ne (pe_callB (GL.call_reprD hgd hu64) rfl brep boot_repr (pa_cons (pe_c cRf hr (by decide) rfl (pa_cons (pv 3) (pa_cons (pv 8) pa_nil))) pa_nil)) (pe_callB (GL.call_reprD hgd hu64) rfl brep boot_repr (pa_cons (pe_tup (pa_cons (pe_lst (pa_cons pe_str pa_nil)) (pa_cons (pv 8) (pa_cons pe_bl pa_nil)))) pa_nil)) (nomark _)) pss_never pss_nil)))
      (pss_one (ps_ret pe_bl))))))), ?_⟩
    refine ⟨_, rfl, s0, ns, rfl, hS, hlen, fun h H1 s1 f1 held1 => ?_⟩
    refine ⟨_, rfl, h, 800000041, 8, rfl, held1.weak (by decide), by decide, fun o zs H2 held2 k2 fo ho zl zok zpw => ?_⟩
    have noh : o ≠ h := held1.ne_new fo
    -- the order
    refine ⟨fun σ' H' => ∃ (ot : Addr) (xs : List Str), σ' = [some (.ref s0), some (.ref h), some (.ref o), some (.ref ot), none, none, none, none, none] ∧ H' ot = some (.tup (xs.map V.str)) ∧ Ord xs, ?_, ?_⟩
    · refine ⟨_, rfl, _, rfl, h, 800000003, 3, rfl, held2.weak (by decide), by decide, by decide, fun m1 H3 m10 m11 held3 k3 => ⟨_, _, rfl, rfl, ?_⟩⟩
      obtain ⟨n1, rfl⟩ : ∃ n : Nat, m1 = n := ⟨m1.toNat, by omega⟩
      refine ⟨_, rfl, h, 800000002, 8, rfl, held3.weak (by decide), by decide, by decide, fun m2 H4 m20 m21 held4 k4 => ⟨_, _, rfl, rfl, ?_⟩⟩
      obtain ⟨n2, rfl⟩ : ∃ n : Nat, m2 = n := ⟨m2.toNat, by omega⟩
      refine ⟨by show 2 ≤ sizeLine; decide, fun L fL => ?_⟩
      have sL := same_new (o := .lst [.int (1 + (n1 : Int)), .int (1 + (n2 : Int))]) fL
      have held5 := held4.same sL
      refine ⟨_, rfl, h, 800000001, 2, rfl, held5.weak (by decide), by decide, by decide, fun r H6 r0 r1 held6 k6 => ?_⟩
      have hL6 := k6.1 _ _ (upd_same : (upd H4 L (.lst [.int (1 + (n1 : Int)), .int (1 + (n2 : Int))])) L = _) (held4.ne_new fL)
      obtain ⟨n, hn, n0, n8⟩ : ∃ n : Nat, atI [V.int (1 + (n1 : Int)), V.int (1 + (n2 : Int))] r = some (.int ((n : Nat) : Int)) ∧ 1 ≤ n ∧ n ≤ 8 := by
        rcases (show r = 0 ∨ r = 1 by omega) with rfl | rfl
        · exact ⟨1 + n1, by show some (V.int (1 + (n1 : Int))) = _; push_cast; rfl, by omega, by omega⟩
        · exact ⟨1 + n2, by show some (V.int (1 + (n2 : Int))) = _; push_cast; rfl, by omega, by omega⟩
      have ho6 := k6.1 _ _ (sL _ _ (k4.1 _ _ (k3.1 _ _ ho noh) noh)) noh
      refine ⟨L, _, _, _, rfl, rfl, SqL.of hL6, hn, ?_⟩
      have e1 : cutV (zs.map fun l => V.str (S l)) none (some ((n : Nat) : Int)) = (zs.take n).map fun l => V.str (S l) := by
        rw [cut_n, List.map_take]
      refine ⟨_, rfl, o, _, rfl, SqL.of ho6, ?_⟩
      rw [e1]
      intro sl fsl
      have ss := same_new (o := .lst ((zs.take n).map fun l => V.str (S l))) fsl
      refine ⟨sl, _, rfl, .inl ⟨SqL.of upd_same, fun ot fot => ?_⟩⟩
      have tl : (zs.take n).length = n := by rw [List.length_take]; omega
      refine ⟨ot, (zs.take n).map S, rfl, ?_, ord_of (by omega) (by omega) (fun z hz => zok z (List.mem_of_mem_take hz)) (zpw.sublist (List.take_sublist _ _))⟩
      rw [upd_same, List.map_map]
      rfl
    rintro σ' H3 ⟨ot, xs, rfl, hot, ox⟩
    have l8 := ox.l8
    -- each name
    refine ⟨fun σ' H' => ∃ v4 v5 v6 v7, σ' = [some (.ref s0), some (.ref h), some (.ref o), some (.ref ot), v4, v5, v6, v7, none] ∧ Same H3 H', ?_, ?_⟩
    · refine ⟨_, rfl, ot, rfl, ⟨_, SqT.of hot⟩, for_tup (K := K) (xs := xs.map V.str) (fun i σ H' => ∃ v4 v5 v6 v7, σ = [some (.ref s0), some (.ref h), some (.ref o), some (.ref ot), v4, v5, v6, v7, none] ∧ Same H3 H') ⟨_, _, _, _, rfl, Same.refl _⟩ (fun i σ H' _ z => by obtain ⟨_, _, _, _, _, sm⟩ := z; exact SqT.of (sm _ _ hot)) ?_ ?_⟩
      · rintro i v σ H4 hi ⟨v4, v5, v6, v7, rfl, s4⟩
        rw [List.getElem?_map] at hi
        obtain ⟨y, hy0, rfl⟩ := Option.map_eq_some_iff.mp hi
        have hy := List.mem_of_getElem? hy0
        have hot4 := s4 _ _ hot
        by_cases l3 : xs.length < 3
        · -- nothing told
          have no3 : ¬ 3 ≤ xs.length := by omega
          refine ⟨_, rfl, _, rfl, ot, xs, y, true, rfl, hot4, l8, ox.nd, hy, fun _ => ?_, fun q => absurd q no3⟩
          refine ⟨by show 2 ≤ sizeLine; decide, fun u1 f1 => ?_⟩
          have s5 := same_new (o := .tup [.non, .bl true]) f1
          have h1 : (upd H4 u1 (.tup [.non, .bl true])) u1 = some (.tup [.non, .bl true]) := upd_same
          generalize upd H4 u1 (.tup [.non, .bl true]) = H5 at s5 h1
          refine ⟨_, rfl, _, rfl, ot, xs, y, true, rfl, s5 _ _ hot4, l8, ox.nd, hy, fun _ => ?_, fun q => absurd q no3⟩
          refine ⟨by show 2 ≤ sizeLine; decide, fun u2 f2 => ?_⟩
          have s6 := same_new (o := .tup [.non, .bl true]) f2
          have h2 : (upd H5 u2 (.tup [.non, .bl true])) u2 = some (.tup [.non, .bl true]) := upd_same
          generalize upd H5 u2 (.tup [.non, .bl true]) = H6 at s6 h2
          refine ⟨by show 2 ≤ sizeLine; decide, fun tl ftl => ?_⟩
          have s7 := same_new (o := .lst [.ref u1, .ref u2]) ftl
          have htl : (upd H6 tl (.lst [.ref u1, .ref u2])) tl = some (.lst [.ref u1, .ref u2]) := upd_same
          generalize upd H6 tl (.lst [.ref u1, .ref u2]) = H7 at s7 htl
          have s57 := s6.trans s7
          refine ⟨_, rfl, _, rfl, _, rfl, rfl, rfl, ot, xs, y, false, rfl, s57 _ _ (s5 _ _ hot4), l8, ox.nd, hy, fun _ => ?_, fun q => absurd q no3⟩
          refine ⟨by show 2 ≤ sizeLine; decide, fun u3 f3 => ?_⟩
          have s8 := same_new (o := .tup [.non, .bl false]) f3
          have h3 : (upd H7 u3 (.tup [.non, .bl false])) u3 = some (.tup [.non, .bl false]) := upd_same
          generalize upd H7 u3 (.tup [.non, .bl false]) = H8 at s8 h3
          refine ⟨by show 1 ≤ sizeLine; decide, fun l1 fl1 => ?_⟩
          have s9 := same_new (o := .lst [.ref u3]) fl1
          have hl1 : (upd H8 l1 (.lst [.ref u3])) l1 = some (.lst [.ref u3]) := upd_same
          generalize upd H8 l1 (.lst [.ref u3]) = H9 at s9 hl1
          refine ⟨tl, l1, _, _, rfl, rfl, (s8.trans s9) _ _ htl, hl1, by show 3 ≤ sizeLine; decide, fun l2 fl2 => ?_⟩
          have s10 := same_new (o := .lst [.ref u1, .ref u2, .ref u3]) fl2
          have s510 := (s57.trans (s8.trans s9)).trans s10
          have g1 := s510 _ _ h1
          have g2 := ((s7.trans (s8.trans s9)).trans s10) _ _ h2
          have g3 := (s9.trans s10) _ _ h3
          have hl2 : (upd H9 l2 (.lst [.ref u1, .ref u2, .ref u3])) l2 = some (.lst [.ref u1, .ref u2, .ref u3]) := upd_same
          have s410 := s5.trans s510
          refine ⟨l2, rfl, ⟨_, SqL.of hl2⟩, for_list (K := K) (xs := [.ref u1, .ref u2, .ref u3]) (fun j σ H' => ∃ v6 v7, σ = [some (.ref s0), some (.ref h), some (.ref o), some (.ref ot), some (.str y), some (.ref tl), v6, v7, none] ∧ Same (upd H9 l2 (.lst [.ref u1, .ref u2, .ref u3])) H') ⟨_, _, rfl, Same.refl _⟩ (fun j σ H' _ z => by obtain ⟨_, _, _, sm⟩ := z; exact SqL.of (sm _ _ hl2)) ?_ ?_⟩
          · rintro j v σ H11 hj ⟨v6, v7, rfl, s11⟩
            obtain ⟨u, b, rfl, hu⟩ : ∃ u b, v = .ref u ∧ H11 u = some (.tup [.non, .bl b]) := by
              have := List.mem_of_getElem? hj
              simp only [List.mem_cons, List.not_mem_nil, or_false] at this
              rcases this with rfl | rfl | rfl
              · exact ⟨_, _, rfl, s11 _ _ g1⟩
              · exact ⟨_, _, rfl, s11 _ _ g2⟩
              · exact ⟨_, _, rfl, s11 _ _ g3⟩
            refine ⟨u, _, rfl, SqT.of hu, rfl, _, _, rfl, _, _, rfl, rfl, ?_⟩
            refine ⟨_, rfl, ot, _, rfl, .inr (SqT.of (s11 _ _ (s410 _ _ hot4))), _, _, rfl, rfl, _, rfl, ?_⟩
            rw [List.length_map, show decide ((xs.length : Int) < 3) = true from decide_eq_true (by omega)]
            refine iteT ?_
            refine ⟨_, rfl, rfl, _, rfl, iteF ?_⟩
            refine ⟨_, rfl, ot, _, rfl, .inr (SqT.of (s11 _ _ (s410 _ _ hot4))), _, _, rfl, rfl, _, rfl, ?_⟩
            rw [List.length_map, show decide ((2 : Int) < (xs.length : Int)) = false from decide_eq_false (by omega)]
            exact iteF (iteF ⟨_, _, rfl, s11⟩)
          · rintro σ H11 ⟨v6, v7, rfl, s11⟩
            exact ⟨_, _, _, _, rfl, s4.trans (s410.trans s11)⟩
        · have l3 : 3 ≤ xs.length := by omega
          have no3 : ¬ xs.length < 3 := by omega
          refine ⟨_, rfl, _, rfl, ot, xs, y, true, rfl, hot4, l8, ox.nd, hy, fun q => absurd q no3, fun _ f1 g1 a1 b1 t1 p1 k1 H5 s5 R1 => ?_⟩
          refine ⟨by show 2 ≤ sizeLine; decide, fun u1 fu1 => ?_⟩
          have su1 := same_new (o := .tup [.ref f1, .bl true]) fu1
          have T1 : Td C H4 (upd H5 u1 (.tup [.ref f1, .bl true])) xs y u1 f1 a1 b1 true := ⟨upd_same, _, _, _, _, R1.keep fun c o e _ => su1 c o e⟩
          have s46 := s5.trans su1
          generalize upd H5 u1 (.tup [.ref f1, .bl true]) = H6 at s46 T1
          refine ⟨_, rfl, _, rfl, ot, xs, y, true, rfl, s46 _ _ hot4, l8, ox.nd, hy, fun q => absurd q no3, fun _ f2 g2 a2 b2 t2 p2 k2 H7 s7 R2 => ?_⟩
          refine ⟨by show 2 ≤ sizeLine; decide, fun u2 fu2 => ?_⟩
          have su2 := same_new (o := .tup [.ref f2, .bl true]) fu2
          have T2 : Td C H6 (upd H7 u2 (.tup [.ref f2, .bl true])) xs y u2 f2 a2 b2 true := ⟨upd_same, _, _, _, _, R2.keep fun c o e _ => su2 c o e⟩
          have s68 := s7.trans su2
          generalize upd H7 u2 (.tup [.ref f2, .bl true]) = H8 at s68 T2
          refine ⟨by show 2 ≤ sizeLine; decide, fun tl ftl => ?_⟩
          have stl := same_new (o := .lst [.ref u1, .ref u2]) ftl
          have htl : (upd H8 tl (.lst [.ref u1, .ref u2])) tl = some (.lst [.ref u1, .ref u2]) := upd_same
          generalize upd H8 tl (.lst [.ref u1, .ref u2]) = H9 at stl htl
          have s49 := s46.trans (s68.trans stl)
          refine ⟨_, rfl, _, rfl, _, rfl, rfl, rfl, ot, xs, y, false, rfl, s49 _ _ hot4, l8, ox.nd, hy, fun q => absurd q no3, fun _ f3 g3 a3 b3 t3 p3 k3 H10 s10 R3 => ?_⟩
          refine ⟨by show 2 ≤ sizeLine; decide, fun u3 fu3 => ?_⟩
          have su3 := same_new (o := .tup [.ref f3, .bl false]) fu3
          have T3 : Td C H9 (upd H10 u3 (.tup [.ref f3, .bl false])) xs y u3 f3 a3 b3 false := ⟨upd_same, _, _, _, _, R3.keep fun c o e _ => su3 c o e⟩
          have s911 := s10.trans su3
          generalize upd H10 u3 (.tup [.ref f3, .bl false]) = H11 at s911 T3
          refine ⟨by show 1 ≤ sizeLine; decide, fun l1 fl1 => ?_⟩
          have sl1 := same_new (o := .lst [.ref u3]) fl1
          have hl1 : (upd H11 l1 (.lst [.ref u3])) l1 = some (.lst [.ref u3]) := upd_same
          generalize upd H11 l1 (.lst [.ref u3]) = H12 at sl1 hl1
          refine ⟨tl, l1, _, _, rfl, rfl, (s911.trans sl1) _ _ htl, hl1, by show 3 ≤ sizeLine; decide, fun l2 fl2 => ?_⟩
          have sl2 := same_new (o := .lst [.ref u1, .ref u2, .ref u3]) fl2
          have hl2 : (upd H12 l2 (.lst [.ref u1, .ref u2, .ref u3])) l2 = some (.lst [.ref u1, .ref u2, .ref u3]) := upd_same
          have fl20 : H9 l2 = none := (s911.trans sl1).free fl2
          have s1113 := sl1.trans sl2
          have s913 := s911.trans s1113
          have s813 := stl.trans s913
          have s613 := s68.trans s813
          have s413 := s46.trans s613
          have N1 := T1.new
          have N2 := T2.new
          have N3 := T3.new
          have T1 := T1.same s613
          have T2 := T2.same s813
          have T3 := T3.same s1113
          have fl24 : H4 l2 = none := s49.free fl20
          -- the rows lie apart
          have d12 : ∀ x, x ∈ adr a1 ∨ x ∈ adr b1 → x ∈ adr a2 ∨ x ∈ adr b2 → False := fun x h1 h2 => by
            obtain ⟨_, ys, e⟩ := N1 x h1
            rw [(N2 x h2).1] at e
            cases e
          have d13 : ∀ x, x ∈ adr a1 ∨ x ∈ adr b1 → x ∈ adr a3 ∨ x ∈ adr b3 → False := fun x h1 h2 => by
            obtain ⟨_, ys, e⟩ := N1 x h1
            have := (s68.trans stl) _ _ e
            rw [(N3 x h2).1] at this
            cases this
          have d23 : ∀ x, x ∈ adr a2 ∨ x ∈ adr b2 → x ∈ adr a3 ∨ x ∈ adr b3 → False := fun x h1 h2 => by
            obtain ⟨_, ys, e⟩ := N2 x h1
            have := stl _ _ e
            rw [(N3 x h2).1] at this
            cases this
          have nl1 : ¬ (l2 ∈ adr a1 ∨ l2 ∈ adr b1) := fun z => by
            obtain ⟨_, ys, e⟩ := N1 _ z
            have := ((s68.trans stl).trans (s911.trans sl1)) _ _ e
            rw [fl2] at this
            cases this
          have nl2 : ¬ (l2 ∈ adr a2 ∨ l2 ∈ adr b2) := fun z => by
            obtain ⟨_, ys, e⟩ := N2 _ z
            have := (stl.trans (s911.trans sl1)) _ _ e
            rw [fl2] at this
            cases this
          have nl3 : ¬ (l2 ∈ adr a3 ∨ l2 ∈ adr b3) := fun z => by
            obtain ⟨_, ys, e⟩ := N3 _ z
            have := sl1 _ _ e
            rw [fl2] at this
            cases this
          have n1 : ∀ x, x ∈ adr a1 ∨ x ∈ adr b1 → H4 x = none := fun x hx => (N1 x hx).1
          have n2 : ∀ x, x ∈ adr a2 ∨ x ∈ adr b2 → H4 x = none := fun x hx => s46.free (N2 x hx).1
          have n3 : ∀ x, x ∈ adr a3 ∨ x ∈ adr b3 → H4 x = none := fun x hx => s49.free (N3 x hx).1
          clear N1 N2 N3
          refine ⟨l2, rfl, ⟨_, SqL.of hl2⟩, for_list (K := K) (xs := [.ref u1, .ref u2, .ref u3]) (fun j σ H' => ∃ v6 v7, σ = [some (.ref s0), some (.ref h), some (.ref o), some (.ref ot), some (.str y), some (.ref tl), v6, v7, none] ∧ Same H4 H' ∧ H' l2 = some (.lst [.ref u1, .ref u2, .ref u3]) ∧
              (j ≤ 0 → Td C H4 H' xs y u1 f1 a1 b1 true) ∧ (j ≤ 1 → Td C H6 H' xs y u2 f2 a2 b2 true) ∧ (j ≤ 2 → Td C H9 H' xs y u3 f3 a3 b3 false)) ⟨_, _, rfl, s413, hl2, fun _ => T1, fun _ => T2, fun _ => T3⟩ (fun j σ H' _ z => by obtain ⟨_, _, _, _, sm, _⟩ := z; exact SqL.of sm) ?_ ?_⟩
          · rintro j v σ H14 hj ⟨v6, v7, rfl, s14, hl14, i1, i2, i3⟩
            have away : ∀ {H0 H0' : Hp} {u f u' f' : Addr} {a b a' b' : Row} {ow ow' : Bool} {H' : Hp}, Td C H0 H14 xs y u f a b ow → Td C H0' H14 xs y u' f' a' b' ow' → (∀ x, x ∈ adr a ∨ x ∈ adr b → x ∈ adr a' ∨ x ∈ adr b' → False) → (∀ c o, H14 c = some o → c ∉ adr a → c ∉ adr b → H' c = some o) → Td C H0' H' xs y u' f' a' b' ow' := fun {H0 H0' u f u' f' a b a' b' ow ow' H'} T T' dj kp =>
              T'.keep fun c o e hc => kp c o e (fun z => by obtain ⟨_, ys, e2⟩ := T.new c (.inl z); rw [e] at e2; exact dj c (.inl z) (hc ys (Option.some.inj e2))) (fun z => by obtain ⟨_, ys, e2⟩ := T.new c (.inr z); rw [e] at e2; exact dj c (.inr z) (hc ys (Option.some.inj e2)))
            obtain ⟨u, fo, a, b, ow, H0, rfl, T, n4, nl, nx⟩ : ∃ u fo a b ow H0, v = .ref u ∧ Td C H0 H14 xs y u fo a b ow ∧ (∀ x, x ∈ adr a ∨ x ∈ adr b → H4 x = none) ∧ ¬ (l2 ∈ adr a ∨ l2 ∈ adr b) ∧ (∀ H', (∀ c o, H14 c = some o → c ∉ adr a → c ∉ adr b → H' c = some o) →
                (j + 1 ≤ 0 → Td C H4 H' xs y u1 f1 a1 b1 true) ∧ (j + 1 ≤ 1 → Td C H6 H' xs y u2 f2 a2 b2 true) ∧ (j + 1 ≤ 2 → Td C H9 H' xs y u3 f3 a3 b3 false)) := by
              match j, hj with
              | 0, hj =>
                cases hj
                exact ⟨u1, f1, a1, b1, true, H4, rfl, i1 (by omega), n1, nl1, fun H' kp => ⟨fun z => by omega, fun _ => away (i1 (by omega)) (i2 (by omega)) d12 kp, fun _ => away (i1 (by omega)) (i3 (by omega)) d13 kp⟩⟩
              | 1, hj =>
                cases hj
                exact ⟨u2, f2, a2, b2, true, H6, rfl, i2 (by omega), n2, nl2, fun H' kp => ⟨fun z => by omega, fun z => by omega, fun _ => away (i2 (by omega)) (i3 (by omega)) d23 kp⟩⟩
              | 2, hj =>
                cases hj
                exact ⟨u3, f3, a3, b3, false, H9, rfl, i3 (by omega), n3, nl3, fun H' kp => ⟨fun z => by omega, fun z => by omega, fun z => by omega⟩⟩
              | j + 3, hj => simp at hj
            have hot14 := s14 _ _ hot4
            obtain ⟨hu, g, sa, ta, k, R⟩ := id T
            refine ⟨u, _, rfl, SqT.of hu, rfl, _, _, rfl, _, _, rfl, rfl, ?_⟩
            refine ⟨_, rfl, ot, _, rfl, .inr (SqT.of hot14), _, _, rfl, rfl, _, rfl, ?_⟩
            rw [List.length_map, show decide ((xs.length : Int) < 3) = false from decide_eq_false (by omega)]
            refine iteF (iteF ?_)
            refine ⟨_, rfl, ot, _, rfl, .inr (SqT.of hot14), _, _, rfl, rfl, _, rfl, ?_⟩
            rw [List.length_map, show decide ((2 : Int) < (xs.length : Int)) = true from decide_eq_true (by omega)]
            refine iteT ?_
            refine ⟨_, rfl, _, rfl, _, rfl, _, rfl, ot, fo, g, xs, y, sa, ta, ow, H0, a, b, k, rfl, hot14, ox, hy, l3, R, fun H15 kp => ⟨true, rfl, iteF ?_⟩⟩
            refine ⟨_, _, rfl, fun c o e => kp c o (s14 _ _ e) (fun z => ?_) (fun z => ?_), kp _ _ hl14 (fun z => nl (.inl z)) (fun z => nl (.inr z)), nx H15 kp⟩
            · rw [n4 c (.inl z)] at e
              cases e
            · rw [n4 c (.inr z)] at e
              cases e
          · rintro σ H14 ⟨v6, v7, rfl, s14, _⟩
            exact ⟨_, _, _, _, rfl, s4.trans s14⟩
      · rintro σ H4 ⟨v4, v5, v6, v7, rfl, s4⟩
        exact ⟨_, _, _, _, rfl, s4⟩
    rintro σ' H4 ⟨v4, v5, v6, v7, rfl, s4⟩
    have hot4 := s4 _ _ hot
    -- what is no name
    refine ⟨_, rfl, by show 3 ≤ sizeLine; decide, fun D hD => ?_⟩
    have sD := same_new (o := .lst [.str "none9", .non, .ref ot]) hD
    have hDl : (upd H4 D (.lst [.str "none9", .non, .ref ot])) D = some (.lst [.str "none9", .non, .ref ot]) := upd_same
    generalize upd H4 D (.lst [.str "none9", .non, .ref ot]) = H5 at sD hDl
    have hot5 := sD _ _ hot4
    refine ⟨D, rfl, ⟨_, SqL.of hDl⟩, for_list (K := K) (xs := [.str "none9", .non, .ref ot]) (fun j σ H' => ∃ (v8 : Option V), σ = [some (.ref s0), some (.ref h), some (.ref o), some (.ref ot), v4, v5, v6, v7, v8] ∧ Same H5 H') ⟨_, rfl, Same.refl _⟩ (fun j σ H' _ z => by obtain ⟨_, _, sm⟩ := z; exact SqL.of (sm _ _ hDl)) ?_ ?_⟩
    · rintro j v σ H8 hj ⟨v8, rfl, s8⟩
      have hv : v = .str "none9" ∨ v = .non ∨ v = .ref ot := by
        have := List.mem_of_getElem? hj
        simpa using this
      have hot8 := s8 _ _ hot5
      refine ⟨_, rfl, _, rfl, ot, xs, v, rfl, hot8, (odds hv ox).odd hot8 ox.sok, fun t l H9 s9 ht hl => ?_⟩
      obtain ⟨d, n, k, dp, sm, n1, k1, _⟩ := odds (K := K) hv ox
      have hot9 := s9 _ _ hot8
      obtain ⟨r1, r2, r3, r4⟩ := rp_rf (x := "name") (d := d) smN sm n1 k1
      refine ⟨_, _, rfl, Dp.tup (SqT.of ht) (.cons (Dp.lst (SqL.of hl) (.cons (.str _) .nil)) (.cons (dp _ hot9) (.cons (.bl _) .nil))), r1, r2, r3, r4, ?_⟩
      refine ⟨by show 1 ≤ sizeLine; decide, fun l2 fl2 => ?_⟩
      have sl2 := same_new (o := .lst [.str "name"]) fl2
      refine ⟨_, rfl, by show 3 ≤ sizeLine; decide, fun t2 ft2 => ?_⟩
      have st2 := same_new (o := .tup [.ref l2, v, .bl true]) ft2
      refine ⟨_, _, rfl, Dp.tup (SqT.of upd_same) (.cons (Dp.lst (SqL.of (st2 _ _ upd_same)) (.cons (.str _) .nil)) (.cons (dp _ (st2 _ _ (sl2 _ _ hot9))) (.cons (.bl _) .nil))), r1, r2, r3, r4, rfl, _, rfl, ?_⟩
      rw [ne_same]
      exact iteF ⟨_, rfl, ((s8.trans s9).trans sl2).trans st2⟩
    rintro σ H8 ⟨v8, rfl, s8⟩
    exact hQ _
end
end K40
set_option Elab.async false
set_option linter.all false
set_option maxRecDepth 100000
set_option maxHeartbeats 4000000
namespace K40
open PySem PySem.Spec PyProof.Rows L2
/-! what the head asks of NoName -/
theorem isB_ok {K : PySem.W.Frag} {C : Addr} (h : GX.isB K C = true) : PySem.W.findIn K (.ref C) "__class__" = some (some (.builtin "object.__class__")) ∧ PySem.W.specialIn K (.builtin "object.__class__") "__get__" = some (some (.builtin "getset_descriptor.__get__")) ∧ PySem.W.takesIn K (.builtin "object.__class__") = some true ∧ PySem.W.mroIn K C (.type "object") = some true := by
  unfold GX.isB at h
  simp only [Bool.and_eq_true, decide_eq_true_eq] at h
  exact ⟨He.eqO_ok h.1, He.eqO_ok h.2.1, h.2.2.1, h.2.2.2⟩
theorem exc_of {K : PySem.W.Frag} {C : Addr} (h : GX.isB K C = true) (x : XfC K C) : ExcC K C := by
  obtain ⟨a, b, c, d⟩ := isB_ok h
  exact ⟨x.ga, x.gg, x.exC, x.hdC, a, b, c, d⟩
theorem xkC_ok {K : PySem.W.Frag} {C : Addr} {bs : List Value} {nid vi ty : String} {ow : Str → Bool} {ab : String → Bool} (h : xkC K C bs nid vi ty ow ab = true) : GX.Gx K C bs nid ∧ PySem.W.findCls K (.type ty) (.type "type") "__init__" = some (.val (.builtin vi)) ∧ XfC K C ∧
    PySem.W.exmOne K (.ref C) (.ref C) = some true ∧ ExcC K C ∧ (∀ x ∈ ex16, PySem.W.kitOne K (.ref C) (.ref (He.ga K x)) = some (ow x)) ∧ ∀ x ∈ ex10, PySem.W.kitOne K (.ref C) (.type x) = some (ab x) := by
  unfold xkC at h
  obtain ⟨h2, h⟩ := Bool.and_eq_true_iff.mp h
  obtain ⟨h3, h⟩ := Bool.and_eq_true_iff.mp h
  obtain ⟨h4, h⟩ := Bool.and_eq_true_iff.mp h
  obtain ⟨h5, h⟩ := Bool.and_eq_true_iff.mp h
  obtain ⟨h6, h⟩ := Bool.and_eq_true_iff.mp h
  obtain ⟨h7, h8⟩ := Bool.and_eq_true_iff.mp h
  exact ⟨GX.gxB_ok h2, GX.vvB_ok h3, xfB_ok h4, of_decide_eq_true h5, exc_of h6 (xfB_ok h4), fun x hx => of_decide_eq_true (List.all_eq_true.mp h7 x hx), fun x hx => of_decide_eq_true (List.all_eq_true.mp h8 x hx)⟩
theorem fndN : fnd owN = [("name" : Str)] := by decide +kernel
theorem abvN : (ex10.map fun x => abN x) = (List.range 10).map (abv [4, 5]) := by decide +kernel
theorem plcN : (("name" : Str), ([4, 5] : List Int)) ∈ plc := by decide +kernel
end K40
set_option Elab.async false
set_option linter.all false
set_option maxRecDepth 100000
set_option maxHeartbeats 0
namespace K40
open PySem PySem.Spec PyProof.Rows L2
abbrev hk : PySem.W.Hook := He.hookX 6 fa fn [] [] xk
def ob (s : PySem.W.SharedT) : He.AlX := He.obsX 6 fa fn [] [] xk (HandSHeadRun.getT s)
theorem ob_eq (s : PySem.W.SharedT) : ob s = hk.obs s.abs := He.obsX_eq (HandSHeadRun.getT_eq s)
theorem glue {α β γ δ : Type} {x : Option α} {f : α → β} {g : α → γ} {h : α → δ} {b : β} {c : γ} {d : δ} (e1 : x.map f = some b) (e2 : x.map g = some c) (e3 : x.map h = some d) : x.map (fun s => (f s, g s, h s)) = some (b, c, d) := by
  cases x with
  | none => cases e1
  | some z =>
    have a1 : f z = b := Option.some.inj e1
    have a2 : g z = c := Option.some.inj e2
    have a3 : h z = d := Option.some.inj e3
    show some (f z, g z, h z) = _
    rw [a1, a2, a3]
theorem ob_z (z : PySem.W.SharedT) : ob z = ((((fa.all fun f => f.ok (Kf z)) && (fn.all fun d => d.ok (Kf z)), fn.map fun d => He.fnW (Kf z) d.at_), []), xk (Kf z) && true) := by
  unfold ob He.obsX He.obsT He.obsD He.tabsB
  rw [List.map_nil, List.all_nil]
theorem runO (w : World) (os : PySem.OsState) : (eN w os).map ob = some (((true, fn.map He.DefD.val), []), true) := by
  have b := runB w os
  have c := runC w os
  revert b c
  generalize eN w os = x
  intro b c
  cases x with
  | none => exact absurd b (by simp)
  | some z =>
    rw [Option.map_some] at b c ⊢
    have b := Option.some.inj b
    have c := Option.some.inj c
    rw [Prod.mk.injEq, Prod.mk.injEq] at c
    rw [ob_z, b, c.1, c.2.1, c.2.2]
    rfl
theorem run_ (w : World) : HandSHeadRun.RunEq R (PySem.W.view R.prog [59]) hk ob 8000 loose w := by
  intro os
  have q := glue (runL w os) (runS w os) (runO w os)
  unfold eN at q
  exact q
end K40
set_option Elab.async false
set_option linter.all false
set_option maxRecDepth 100000
set_option maxHeartbeats 0
namespace K40
open PySem PySem.Spec PyProof.Rows L2
open C8 (Cal Mak Met pe_c pe_mk pe_mt pe_mt0)
theorem cal_of {P : Program} {w : World} {K : PySem.W.Frag} {mg : Str → Option Value} {base : Heap} {f : Addr} {fd : FuncData} {ps : List Str} {k : Nat} {x : Str} {sp : Sp} (F : FnOk P w K mg base CX0 k f fd ps sp) (g : mg x = some (.ref f)) (kp : PySem.W.keepIn K (.ref f) = true) (b : Binds K fd ps []) : Cal P w K mg base k x sp [] :=
  ⟨f, fd, ps, [], F, g, kp, b, .nil⟩
theorem met_of {P : Program} {w : World} {K : PySem.W.Frag} {mg : Str → Option Value} {base : Heap} {f C : Addr} {fd : FuncData} {ps : List Str} {k : Nat} {m : Str} {sp : Sp} (c : Cls K C) (h : Meth K C m f) (F : FnOk P w K mg base CX0 k f fd ps sp) (b : Binds K fd ps []) : Met P w K mg base k C m sp [] :=
  ⟨f, fd, ps, [], c, h, F, b, .nil⟩
theorem facts {P : Program} {w : World} {K : PySem.W.Frag} {h h0 : Heap} {mg : Str → Option Value} {f : Addr} (X : K.In h) (G : h.Ns mainGlobals mg) (hfa : mg ("law" : Str) = some (.ref f)) (c : He.SaysX fa fn [] [] xk w h0 K) :
    ∃ fd : FuncData, (∀ (s : Shared) (v : Value), BindsTo s fd ⟨[v], []⟩ [("_law_script", v)]) ∧ ∀ base : Heap, K.In base → base.Ns mainGlobals mg → GL.FnG P w K mg base 7 f fd ["_law_script"] (spLaw K) := by
  have d := c.t.d
  have x := c.more
  have gl : ∀ (i : Nat) (x : Str), fa[i]? = some (.glo x) → mg x = some (.ref (He.ga K x)) := fun i x e => He.glo_ok X G (d.fact i e)
  have fr : ∀ (i : Nat) (x : Str), fa[i]? = some (.free x) → mg x = none := fun i x e => He.free_ok X G (d.fact i e)
  have me : ∀ (i : Nat) (C m : Str), fa[i]? = some (.meth C m) → Meth K (He.ga K C) m (He.ma K (He.ga K C) m) := fun i C m e => He.meth_ok (d.fact i e)
  have gl_is_whole := gl 0 "is_whole" rfl
  have gl_is_name := gl 1 "is_name" rfl
  have gl_is_order := gl 2 "is_order" rfl
  have gl_is_rule := gl 3 "is_rule" rfl
  have gl_row_of := gl 4 "row_of" rfl
  have gl_common_part := gl 5 "common_part" rfl
  have gl_check_in_order := gl 6 "check_in_order" rfl
  have gl_runaway := gl 7 "runaway" rfl
  have gl_names_of := gl 8 "names_of" rfl
  have gl_first_memory := gl 9 "first_memory" rfl
  have gl_driver_by := gl 10 "driver_by" rfl
  have gl_parts_behind := gl 11 "parts_behind" rfl
  have gl_line_behind := gl 12 "line_behind" rfl
  have gl_memory_behind := gl 13 "memory_behind" rfl
  have gl__law_held := gl 14 "_law_held" rfl
  have gl__law_draw := gl 15 "_law_draw" rfl
  have gl__law_names := gl 16 "_law_names" rfl
  have gl__law_low := gl 17 "_law_low" rfl
  have gl__law_add := gl 18 "_law_add" rfl
  have gl__law_pair := gl 19 "_law_pair" rfl
  have gl__law_are_days := gl 20 "_law_are_days" rfl
  have gl__law_right := gl 21 "_law_right" rfl
  have gl__law_apart := gl 22 "_law_apart" rfl
  have gl__law_kinds := gl 23 "_law_kinds" rfl
  have gl__law_bases := gl 24 "_law_bases" rfl
  have gl__law_refused := gl 25 "_law_refused" rfl
  have gl_law := gl 26 "law" rfl
  have fr_isinstance := fr 27 "isinstance" rfl
  have fr_int := fr 28 "int" rfl
  have fr_bool := fr 29 "bool" rfl
  have fr_abs := fr 30 "abs" rfl
  have fr_list := fr 31 "list" rfl
  have fr_range := fr 32 "range" rfl
  have fr_len := fr 33 "len" rfl
  have fr_str := fr 34 "str" rfl
  have fr_all := fr 35 "all" rfl
  have fr_tuple := fr 36 "tuple" rfl
  have fr_set := fr 37 "set" rfl
  have fr_zip := fr 38 "zip" rfl
  have fr_min := fr 39 "min" rfl
  have fr_enumerate := fr 40 "enumerate" rfl
  have fr_sorted := fr 41 "sorted" rfl
  have fr_repr := fr 42 "repr" rfl
  have fr_TypeError := fr 43 "TypeError" rfl
  have fr_ZeroDivisionError := fr 44 "ZeroDivisionError" rfl
  have fr_ArithmeticError := fr 45 "ArithmeticError" rfl
  have fr_ValueError := fr 46 "ValueError" rfl
  have fr_KeyError := fr 47 "KeyError" rfl
  have fr_LookupError := fr 48 "LookupError" rfl
  have fr_IndexError := fr 49 "IndexError" rfl
  have fr_OverflowError := fr 50 "OverflowError" rfl
  have fr_RuntimeError := fr 51 "RuntimeError" rfl
  have fr_NotImplementedError := fr 52 "NotImplementedError" rfl
  have gl_Share := gl 53 "Share" rfl
  have cls_Share := He.cls_ok (d.fact 54 (f := .cls "Share") rfl)
  have mk_Share := He.mkr_ok (d.fact 55 (f := .mkr "Share") rfl)
  have gl_Turns := gl 56 "Turns" rfl
  have cls_Turns := He.cls_ok (d.fact 57 (f := .cls "Turns") rfl)
  have mk_Turns := He.mkr_ok (d.fact 58 (f := .mkr "Turns") rfl)
  have gl_NoKind := gl 59 "NoKind" rfl
  have gl_Nought := gl 60 "Nought" rfl
  have gl_NoShare := gl 61 "NoShare" rfl
  have gl_Uneven := gl 62 "Uneven" rfl
  have gl_BadName := gl 63 "BadName" rfl
  have gl_NoNumber := gl 64 "NoNumber" rfl
  have gl_NoRide := gl 65 "NoRide" rfl
  have gl_NoText := gl 66 "NoText" rfl
  have gl_NoName := gl 67 "NoName" rfl
  have gl_NoDay := gl 68 "NoDay" rfl
  have gl_NoSeats := gl 69 "NoSeats" rfl
  have gl_TooMany := gl 70 "TooMany" rfl
  have gl_Taken := gl 71 "Taken" rfl
  have gl_NoRule := gl 72 "NoRule" rfl
  have gl_NothingDone := gl 73 "NothingDone" rfl
  have gl_NoRow := gl 74 "NoRow" rfl
  have no_Share_top := He.noat_ok (d.fact 75 (f := .noat "Share" "top") rfl)
  have no_Share_bottom := He.noat_ok (d.fact 76 (f := .noat "Share" "bottom") rfl)
  have no_Turns_rule := He.noat_ok (d.fact 77 (f := .noat "Turns" "rule") rfl)
  have no_Turns_held := He.noat_ok (d.fact 78 (f := .noat "Turns" "held") rfl)
  have no_Turns_kept := He.noat_ok (d.fact 79 (f := .noat "Turns" "kept") rfl)
  have no_Turns_past := He.noat_ok (d.fact 80 (f := .noat "Turns" "past") rfl)
  have no_NoName_name := He.noat_ok (d.fact 81 (f := .noat "NoName" "name") rfl)
  have me_Turns_check_riders := me 82 "Turns" "check_riders" rfl
  have me_Turns_who := me 83 "Turns" "who" rfl
  have me_Turns_ride := me 84 "Turns" "ride" rfl
  have me_Turns_stands := me 85 "Turns" "stands" rfl
  have me_Turns_memory := me 86 "Turns" "memory" rfl
  have me_NoName_init := me 87 "NoName" "__init__" rfl
  have val_LONGEST_NAME := He.int_ok X G (d.fact 88 (f := .int "LONGEST_NAME" 8) rfl)
  have val_MOST_NAMES := He.int_ok X G (d.fact 89 (f := .int "MOST_NAMES" 8) rfl)
  have val_RIDE_PARTS := He.int_ok X G (d.fact 90 (f := .int "RIDE_PARTS" 840) rfl)
  obtain ⟨fd_NoName_init, D_NoName_init⟩ := d.def_ 9 (d := d_NoName_init) rfl
  obtain ⟨fd_is_whole, D_is_whole⟩ := d.def_ 17 (d := d_is_whole) rfl
  obtain ⟨fd_is_name, D_is_name⟩ := d.def_ 19 (d := d_is_name) rfl
  obtain ⟨fd_is_order, D_is_order⟩ := d.def_ 20 (d := d_is_order) rfl
  obtain ⟨fd_is_rule, D_is_rule⟩ := d.def_ 21 (d := d_is_rule) rfl
  obtain ⟨fd_row_of, D_row_of⟩ := d.def_ 22 (d := d_row_of) rfl
  obtain ⟨fd_common_part, D_common_part⟩ := d.def_ 23 (d := d_common_part) rfl
  obtain ⟨fd_Share_init, D_Share_init⟩ := d.def_ 24 (d := d_Share_init) rfl
  obtain ⟨fd_check_in_order, D_check_in_order⟩ := d.def_ 34 (d := d_check_in_order) rfl
  obtain ⟨fd_runaway, D_runaway⟩ := d.def_ 35 (d := d_runaway) rfl
  obtain ⟨fd_names_of, D_names_of⟩ := d.def_ 36 (d := d_names_of) rfl
  obtain ⟨fd_first_memory, D_first_memory⟩ := d.def_ 37 (d := d_first_memory) rfl
  obtain ⟨fd_driver_by, D_driver_by⟩ := d.def_ 39 (d := d_driver_by) rfl
  obtain ⟨fd_parts_behind, D_parts_behind⟩ := d.def_ 40 (d := d_parts_behind) rfl
  obtain ⟨fd_line_behind, D_line_behind⟩ := d.def_ 41 (d := d_line_behind) rfl
  obtain ⟨fd_memory_behind, D_memory_behind⟩ := d.def_ 43 (d := d_memory_behind) rfl
  obtain ⟨fd_Turns_init, D_Turns_init⟩ := d.def_ 44 (d := d_Turns_init) rfl
  obtain ⟨fd_Turns_check_riders, D_Turns_check_riders⟩ := d.def_ 47 (d := d_Turns_check_riders) rfl
  obtain ⟨fd_Turns_who, D_Turns_who⟩ := d.def_ 48 (d := d_Turns_who) rfl
  obtain ⟨fd_Turns_ride, D_Turns_ride⟩ := d.def_ 49 (d := d_Turns_ride) rfl
  obtain ⟨fd_Turns_stands, D_Turns_stands⟩ := d.def_ 50 (d := d_Turns_stands) rfl
  obtain ⟨fd_Turns_memory, D_Turns_memory⟩ := d.def_ 52 (d := d_Turns_memory) rfl
  obtain ⟨fd_l_held, D_l_held⟩ := d.def_ 53 (d := d_l_held) rfl
  obtain ⟨fd_l_draw, D_l_draw⟩ := d.def_ 54 (d := d_l_draw) rfl
  obtain ⟨fd_l_names, D_l_names⟩ := d.def_ 55 (d := d_l_names) rfl
  obtain ⟨fd_l_low, D_l_low⟩ := d.def_ 56 (d := d_l_low) rfl
  obtain ⟨fd_l_add, D_l_add⟩ := d.def_ 57 (d := d_l_add) rfl
  obtain ⟨fd_l_pair, D_l_pair⟩ := d.def_ 58 (d := d_l_pair) rfl
  obtain ⟨fd_l_are_days, D_l_are_days⟩ := d.def_ 61 (d := d_l_are_days) rfl
  obtain ⟨fd_l_right, D_l_right⟩ := d.def_ 62 (d := d_l_right) rfl
  obtain ⟨fd_l_apart, D_l_apart⟩ := d.def_ 64 (d := d_l_apart) rfl
  obtain ⟨fd_l_kinds, D_l_kinds⟩ := d.def_ 59 (d := d_l_kinds) rfl
  obtain ⟨fd_l_bases, D_l_bases⟩ := d.def_ 60 (d := d_l_bases) rfl
  obtain ⟨fd_l_refused, D_l_refused⟩ := d.def_ 63 (d := d_l_refused) rfl
  obtain ⟨fd_law, D_law⟩ := d.def_ 65 (d := d_law) rfl
  have e := hfa.symm.trans gl_law
  cases e
  have bL := FunD.bindsA (ps := ["_law_script"]) D_law fun _ _ _ _ _ _ us hl => match us, hl with | [_], _ => rfl
  refine ⟨fd_law, fun s v => bL s [v] rfl, fun base _ _ => ?_⟩
  have b_NoName_init : Binds K fd_NoName_init ["self", "name"] [] := D_NoName_init.bindsN fun _ _ _ _ _ _ us hl => match us, hl with | [_, _], _ => rfl
  have b_is_whole : Binds K fd_is_whole ["thing"] [] := D_is_whole.bindsN fun _ _ _ _ _ _ us hl => match us, hl with | [_], _ => rfl
  have b_is_name : Binds K fd_is_name ["thing"] [] := D_is_name.bindsN fun _ _ _ _ _ _ us hl => match us, hl with | [_], _ => rfl
  have b_is_order : Binds K fd_is_order ["thing"] [] := D_is_order.bindsN fun _ _ _ _ _ _ us hl => match us, hl with | [_], _ => rfl
  have b_is_rule : Binds K fd_is_rule ["thing"] [] := D_is_rule.bindsN fun _ _ _ _ _ _ us hl => match us, hl with | [_], _ => rfl
  have b_row_of : Binds K fd_row_of ["sets"] [] := D_row_of.bindsN fun _ _ _ _ _ _ us hl => match us, hl with | [_], _ => rfl
  have b_common_part : Binds K fd_common_part ["one", "other"] [] := D_common_part.bindsN fun _ _ _ _ _ _ us hl => match us, hl with | [_, _], _ => rfl
  have b_Share_init : Binds K fd_Share_init ["self", "top", "bottom"] [] := by
    obtain ⟨ds, h1, h2⟩ := D_Share_init.binds1 (ps := ["self", "top", "bottom"]) 3 1 (List.cons_ne_nil _ _) rfl (fun T kV doc pm an cdv ct us its hl h1 => match us, hl, its, h1 with | [_, _, _], _, [_], _ => ⟨_, rfl, rfl⟩)
    cases h1
    exact h2
  obtain ⟨ds1_Share_init, v1_Share_init, b1_Share_init⟩ := D_Share_init.binds1 (ps := ["self", "top", "bottom"]) 2 0 (List.cons_ne_nil _ _) rfl (fun T kV doc pm an cdv ct us its hl h1 => match us, hl, its, h1 with | [_, _], _, [_], _ => ⟨_, rfl, rfl⟩)
  have b_check_in_order : Binds K fd_check_in_order ["order", "name"] [] := D_check_in_order.bindsN fun _ _ _ _ _ _ us hl => match us, hl with | [_, _], _ => rfl
  have b_runaway : Binds K fd_runaway ["order", "name", "owed"] [] := by
    obtain ⟨ds, h1, h2⟩ := D_runaway.binds1 (ps := ["order", "name", "owed"]) 3 1 (List.cons_ne_nil _ _) rfl (fun T kV doc pm an cdv ct us its hl h1 => match us, hl, its, h1 with | [_, _, _], _, [_], _ => ⟨_, rfl, rfl⟩)
    cases h1
    exact h2
  obtain ⟨ds1_runaway, v1_runaway, b1_runaway⟩ := D_runaway.binds1 (ps := ["order", "name", "owed"]) 2 0 (List.cons_ne_nil _ _) rfl (fun T kV doc pm an cdv ct us its hl h1 => match us, hl, its, h1 with | [_, _], _, [_], _ => ⟨_, rfl, rfl⟩)
  have b_names_of : Binds K fd_names_of ["order", "riders"] [] := D_names_of.bindsN fun _ _ _ _ _ _ us hl => match us, hl with | [_, _], _ => rfl
  have b_first_memory : Binds K fd_first_memory ["rule"] [] := D_first_memory.bindsN fun _ _ _ _ _ _ us hl => match us, hl with | [_], _ => rfl
  have b_driver_by : Binds K fd_driver_by ["rule", "memory", "riders"] [] := D_driver_by.bindsN fun _ _ _ _ _ _ us hl => match us, hl with | [_, _, _], _ => rfl
  have b_parts_behind : Binds K fd_parts_behind ["order", "held", "riders", "driver"] [] := D_parts_behind.bindsN fun _ _ _ _ _ _ us hl => match us, hl with | [_, _, _, _], _ => rfl
  have b_line_behind : Binds K fd_line_behind ["line", "riders", "driver"] [] := D_line_behind.bindsN fun _ _ _ _ _ _ us hl => match us, hl with | [_, _, _], _ => rfl
  have b_memory_behind : Binds K fd_memory_behind ["rule", "memory", "riders"] [] := D_memory_behind.bindsN fun _ _ _ _ _ _ us hl => match us, hl with | [_, _, _], _ => rfl
  have b_Turns_init : Binds K fd_Turns_init ["self", "rule"] [] := D_Turns_init.bindsN fun _ _ _ _ _ _ us hl => match us, hl with | [_, _], _ => rfl
  have b_Turns_check_riders : Binds K fd_Turns_check_riders ["self", "riders"] [] := D_Turns_check_riders.bindsN fun _ _ _ _ _ _ us hl => match us, hl with | [_, _], _ => rfl
  have b_Turns_who : Binds K fd_Turns_who ["self", "riders"] [] := D_Turns_who.bindsN fun _ _ _ _ _ _ us hl => match us, hl with | [_, _], _ => rfl
  have b_Turns_ride : Binds K fd_Turns_ride ["self", "riders"] [] := D_Turns_ride.bindsN fun _ _ _ _ _ _ us hl => match us, hl with | [_, _], _ => rfl
  have b_Turns_stands : Binds K fd_Turns_stands ["self"] [] := D_Turns_stands.bindsN fun _ _ _ _ _ _ us hl => match us, hl with | [_], _ => rfl
  have b_Turns_memory : Binds K fd_Turns_memory ["self"] [] := D_Turns_memory.bindsN fun _ _ _ _ _ _ us hl => match us, hl with | [_], _ => rfl
  have b_l_held : Binds K fd_l_held ["_law_script"] [] := D_l_held.bindsN fun _ _ _ _ _ _ us hl => match us, hl with | [_], _ => rfl
  have b_l_draw : Binds K fd_l_draw ["_law_held_here", "_law_many"] [] := D_l_draw.bindsN fun _ _ _ _ _ _ us hl => match us, hl with | [_, _], _ => rfl
  have b_l_names : Binds K fd_l_names ["_law_held_here", "_law_many"] [] := D_l_names.bindsN fun _ _ _ _ _ _ us hl => match us, hl with | [_, _], _ => rfl
  have b_l_low : Binds K fd_l_low ["_law_top", "_law_bottom"] [] := D_l_low.bindsN fun _ _ _ _ _ _ us hl => match us, hl with | [_, _], _ => rfl
  have b_l_add : Binds K fd_l_add ["_law_one", "_law_other"] [] := D_l_add.bindsN fun _ _ _ _ _ _ us hl => match us, hl with | [_, _], _ => rfl
  have b_l_pair : Binds K fd_l_pair ["_law_share"] [] := D_l_pair.bindsN fun _ _ _ _ _ _ us hl => match us, hl with | [_], _ => rfl
  have b_l_are_days : Binds K fd_l_are_days ["_law_order", "_law_days"] [] := D_l_are_days.bindsN fun _ _ _ _ _ _ us hl => match us, hl with | [_, _], _ => rfl
  have b_l_right : Binds K fd_l_right ["_law_order", "_law_name", "_law_found", "_law_way"] [] := D_l_right.bindsN fun _ _ _ _ _ _ us hl => match us, hl with | [_, _, _, _], _ => rfl
  have b_l_apart : Binds K fd_l_apart ["_law_rows"] [] := D_l_apart.bindsN fun _ _ _ _ _ _ us hl => match us, hl with | [_], _ => rfl
  have b_l_kinds : Binds K fd_l_kinds ["_law_error"] [] := D_l_kinds.bindsN fun _ _ _ _ _ _ us hl => match us, hl with | [_], _ => rfl
  have b_l_bases : Binds K fd_l_bases ["_law_word"] [] := D_l_bases.bindsN fun _ _ _ _ _ _ us hl => match us, hl with | [_], _ => rfl
  have b_l_refused : Binds K fd_l_refused ["_law_order", "_law_name"] [] := D_l_refused.bindsN fun _ _ _ _ _ _ us hl => match us, hl with | [_, _], _ => rfl
  have b_law : Binds K fd_law ["_law_script"] [] := D_law.bindsN fun _ _ _ _ _ _ us hl => match us, hl with | [_], _ => rfl
  obtain ⟨y0, yN⟩ := Bool.and_eq_true_iff.mp (show (_ && _) = true from x)
  obtain ⟨xG, xV, xF, xE, xC, x16, x10⟩ := xkC_ok yN
  obtain ⟨y1, y2, y3, y4⟩ := isB_ok y0
  have IC : IsC K (He.ga K "Share") := ⟨y1, y2, y3, y4, by unfold PySem.W.kitOne; rw [if_pos (beq_self_eq_true _)]⟩
  have B : Bl mg := ⟨fr_isinstance, fr_int, fr_bool, fr_abs, fr_list, fr_range, fr_len⟩
  have B2 : Bl2 mg := ⟨fr_str, fr_all, fr_tuple, fr_set, fr_zip, fr_min, fr_enumerate⟩
  have T : Cl K mg (He.ga K "Share") := ⟨cls_Share, no_Share_top, no_Share_bottom, gl_Share⟩
  have TT : ClT K (He.ga K "Turns") := ⟨cls_Turns, no_Turns_rule, no_Turns_held, no_Turns_kept, no_Turns_past⟩
  have cW : CalW P w K mg base := cal_of (ok_whole D_is_whole B) gl_is_whole D_is_whole.kp b_is_whole
  have cNa : CalN P w K mg base := cal_of (ok_name D_is_name B B2 val_LONGEST_NAME) gl_is_name D_is_name.kp b_is_name
  have cOr := cal_of (ok_order D_is_order B B2 val_MOST_NAMES cNa) gl_is_order D_is_order.kp b_is_order
  have cRu := cal_of (ok_rule D_is_rule B B2 cOr) gl_is_rule D_is_rule.kp b_is_rule
  have cG : CalG P w K mg base := cal_of (ok_gcd D_common_part B) gl_common_part D_common_part.kp b_common_part
  have MS : MakS P w K mg base (He.ga K "Share") := ⟨_, _, _, _, mk_Share, ok_init D_Share_init cW cG T, T.g, b_Share_init, .nil⟩
  have cNo := cal_of (P := P) (w := w) (base := base) (ok_no D_names_of B2) gl_names_of D_names_of.kp b_names_of
  have cFm := cal_of (P := P) (w := w) (base := base) (mg := mg) (ok_fm D_first_memory) gl_first_memory D_first_memory.kp b_first_memory
  have cDb := cal_of (ok_db D_driver_by cNo) gl_driver_by D_driver_by.kp b_driver_by
  have cPb := cal_of (P := P) (w := w) (base := base) (ok_pb D_parts_behind B B2 val_RIDE_PARTS) gl_parts_behind D_parts_behind.kp b_parts_behind
  have cLn := cal_of (P := P) (w := w) (base := base) (ok_lb D_line_behind B B2) gl_line_behind D_line_behind.kp b_line_behind
  have cMb := cal_of (ok_mb D_memory_behind cDb cLn) gl_memory_behind D_memory_behind.kp b_memory_behind
  have MT : Mak P w K mg base 4 "Turns" (He.ga K "Turns") (spTi (He.ga K "Turns")) [] := ⟨_, _, _, _, mk_Turns, ok_ti D_Turns_init B2 TT cRu cFm, gl_Turns, b_Turns_init, .nil⟩
  have mC := met_of (P := P) (w := w) (base := base) TT.cl me_Turns_check_riders (ok_ck D_Turns_check_riders B B2 TT) b_Turns_check_riders
  have mW := met_of TT.cl me_Turns_who (ok_who D_Turns_who TT mC cDb) b_Turns_who
  have mR := met_of TT.cl me_Turns_ride (ok_ride D_Turns_ride TT mW cPb cMb) b_Turns_ride
  have mS := met_of TT.cl me_Turns_stands (ok_st D_Turns_stands B2 TT val_RIDE_PARTS MS) b_Turns_stands
  have cH := cal_of (P := P) (w := w) (base := base) (ok_held D_l_held B) gl__law_held D_l_held.kp b_l_held
  have cD : CalD P w K mg base := cal_of (ok_draw D_l_draw B) gl__law_draw D_l_draw.kp b_l_draw
  have cNm := cal_of (ok_names D_l_names B cD) gl__law_names D_l_names.kp b_l_names
  have cLo : CalL P w K mg base := cal_of (ok_low D_l_low B) gl__law_low D_l_low.kp b_l_low
  have cA := cal_of (ok_add D_l_add cLo) gl__law_add D_l_add.kp b_l_add
  have cP := cal_of (P := P) (w := w) (base := base) (ok_pair D_l_pair B T IC) gl__law_pair D_l_pair.kp b_l_pair
  have cRo := cal_of (P := P) (w := w) (base := base) (ok_ro D_row_of B) gl_row_of D_row_of.kp b_row_of
  have cCi := cal_of (P := P) (w := w) (base := base) (mg := mg) (ok_ci D_check_in_order) gl_check_in_order D_check_in_order.kp b_check_in_order
  have FRr := ok_ra D_runaway B MS cCi cRo
  have cR3 := cal_of FRr gl_runaway D_runaway.kp b_runaway
  have cR2 : Cal P w K mg base 4 "runaway" (spRa (He.ga K "Share")) [.bl true] := ⟨_, _, _, _, FRr, gl_runaway, D_runaway.kp, b1_runaway, v1_runaway⟩
  obtain ⟨i1, k1⟩ := KW.kb1 (ps := ["order", "name", "owed"]) D_runaway 2 ["owed"] (fun us its ws => us ++ ws) (List.cons_ne_nil _ _) (fun r _ s => r.append s) (fun T kV doc pm an cdv ct us its ws h1 h2 h3 => match us, h1, its, h2, ws, h3 with | [_, _], _, [_], _, [_], _ => ⟨_, rfl, rfl⟩)
  have mMe := met_of (mg := mg) (P := P) (w := w) (base := base) TT.cl me_Turns_memory (ok_mem D_Turns_memory TT) b_Turns_memory
  have cAD := cal_of (P := P) (w := w) (base := base) (ok_ad D_l_are_days B fr_list) gl__law_are_days D_l_are_days.kp b_l_are_days
  have cAp := cal_of (P := P) (w := w) (base := base) (ok_ap D_l_apart B) gl__law_apart D_l_apart.kp b_l_apart
  have cRi := cal_of (ok_ri D_l_right B fr_tuple T MT mR mS mMe cP cAD cA cAp) gl__law_right D_l_right.kp b_l_right
  have KE : Ke K mg (He.ga K "NoName") (He.ma K (He.ga K "NoName") "__init__") := ⟨xG, me_NoName_init.1, eq_of_beq me_NoName_init.2, xV, no_NoName_name, gl_NoName, fr_KeyError, xF, xE⟩
  have EG : ∀ x ∈ ex16, mg x = some (.ref (He.ga K x)) := fun x hx => by
    simp only [List.mem_cons, List.not_mem_nil, or_false] at hx
    rcases hx with rfl | rfl | rfl | rfl | rfl | rfl | rfl | rfl | rfl | rfl | rfl | rfl | rfl | rfl | rfl | rfl
    · exact gl_NoKind
    · exact gl_Nought
    · exact gl_NoShare
    · exact gl_Uneven
    · exact gl_BadName
    · exact gl_NoNumber
    · exact gl_NoRide
    · exact gl_NoText
    · exact gl_NoName
    · exact gl_NoDay
    · exact gl_NoSeats
    · exact gl_TooMany
    · exact gl_Taken
    · exact gl_NoRule
    · exact gl_NothingDone
    · exact gl_NoRow
  have ET : ∀ x ∈ ex10, mg (Str.ofString x) = none := fun x hx => by
    simp only [List.mem_cons, List.not_mem_nil, or_false] at hx
    rcases hx with rfl | rfl | rfl | rfl | rfl | rfl | rfl | rfl | rfl | rfl
    · exact fr_TypeError
    · exact fr_ZeroDivisionError
    · exact fr_ArithmeticError
    · exact fr_ValueError
    · exact fr_KeyError
    · exact fr_LookupError
    · exact fr_IndexError
    · exact fr_OverflowError
    · exact fr_RuntimeError
    · exact fr_NotImplementedError
  have EN : Ex K mg (He.ga K "NoName") owN abN := ⟨EG, ET, xC, x16, x10⟩
  have cKN := cal_of (P := P) (w := w) (base := base) (ok_ki D_l_kinds B fr_zip EN) gl__law_kinds D_l_kinds.kp b_l_kinds
  have cBa := cal_of (P := P) (w := w) (base := base) (ok_ba D_l_bases B) gl__law_bases D_l_bases.kp b_l_bases
  have FN := ok_NN (P := P) (w := w) (base := base) D_NoName_init KE
  have FX := ok_ciX (P := P) (w := w) (base := base) D_check_in_order KE FN b_NoName_init
  have FRX := ok_raX (P := P) (w := w) (base := base) D_runaway gl_check_in_order D_check_in_order.kp FX b_check_in_order
  have cRf := cal_of (P := P) (w := w) (base := base) (ok_rf D_l_refused KE gl_runaway D_runaway.kp FRX b1_runaway v1_runaway cKN cBa fndN plcN abvN) gl__law_refused D_l_refused.kp b_l_refused
  exact ok_law D_law B fr_tuple fr_repr cH cD cNm cRi cRf cR2 cR3 FRr gl_runaway D_runaway.kp k1
end K40
open PySem PySem.W PySem.Calls PyProof.Rows
set_option maxRecDepth 100000 in
set_option maxHeartbeats 0 in
theorem PySem.Challenge.cw_rideturns_k40_beyond_every_bound_by_the_holds : PySem.Challenge.rw_rideturns_k40_beyond_every_bound_by_the.Holds := by
  w_on; o_law
  refine HandSHeadRun.head_any (r := OpenLaw.row PySem.Challenge.rw_rideturns_k40_beyond_every_bound_by_the) (q := view (OpenLaw.row PySem.Challenge.rw_rideturns_k40_beyond_every_bound_by_the).prog [59]) (H := K40.hk) (ob := K40.ob) (M := 8000) (loose := K40.loose) (d := HandSHeadRun.topDef (OpenLaw.row PySem.Challenge.rw_rideturns_k40_beyond_every_bound_by_the).prog 59) (kwd := []) K40.ob_eq
    (by kernel_rfl) (fun s => by kernel_rfl) K40.run_ (by kernel_rfl) (by kernel_rfl) (by kernel_rfl) (by rfl) (by first | assumption | decide +kernel) (by decide +kernel) ⟨rfl, rfl, rfl, rfl, rfl, by decide +kernel⟩ ?hw ?hc
  case hw => w_witness2
  case hc =>
    refine GL.walkG (l := PySem.Challenge.rw_rideturns_k40_beyond_every_bound_by_the) (n := 63) (k := 7) (x := "_law_script") rfl (by decide) (by kernel_rfl) ⟨rfl, by decide, by decide⟩ ?F
    intro w mg fa h Y G hmg0
    obtain ⟨K, KX, c⟩ := Y
    have hmg : mg ("law" : PySem.Str) = some (.ref fa) := by
      have e : (HandSHeadRun.topDef (OpenLaw.row PySem.Challenge.rw_rideturns_k40_beyond_every_bound_by_the).prog 59).name = ("law" : PySem.Str) := by kernel_rfl
      rw [← e]
      exact hmg0
    obtain ⟨fd, hb, hF⟩ := K40.facts (P := (PySem.Challenge.rw_rideturns_k40_beyond_every_bound_by_the).prog) (w := w) KX G hmg c
    exact ⟨K, fd, K40.spLaw K, KX, hb, fun H a ns hl hS => ⟨a, ns, rfl, hS, hl, fun _ => rfl⟩, hF⟩
