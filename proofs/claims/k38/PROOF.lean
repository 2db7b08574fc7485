import PyProof.Rows.All
import Wide.All
import OpenK.AllK
import Wide.FinOn
import HandS.ForMost
import HandS.ForExc
import HandS.Defaults
import HandS.Codes
import HandS.IsInst
import HandS.Wide
import HandS.Flow
import HandS.Evl
import HandS.Steps
import HandS.ExcField
import HandS.Head0
import HandS.Head1
import HandS.Head2
import HandS.HeadEnd
import HandS.HeadHook1
import HandS.HeadHook2
import HandS.HeadHook3
import HandS.HeadHook4
import KE.KExcInit
import HandS.ExcInit
import KE.KEqSeq
import HandS.Words
import HandS.MakeKw
import HandS.MakeKwOnly
import HandS.Style
import HandS.Comp
import HandS.Text
import HandS.More
import PyProof.StrOps2
import HandS.Strs
import HandS.Walk
import HandS.StrMore
import HandS.Zip
import HandS.List
import HandS.Call
import KE.SortCalls
import KE.SortKeyed
import HandS.DictComp
import KE.LtData
import HandS.Dict
import HandS.Iter
import HandS.Deep
import HandS.SetFor
import HandS.TupAny
import KE.KIndexOf
import PySem.Challenge.RW_rideturns_k38_whole_nobody_beyond_by_rou
set_option Elab.async false
set_option linter.all false
set_option maxRecDepth 100000
set_option maxHeartbeats 4000000
namespace K38
open PySem PySem.Spec PyProof.Rows L2
def top (i : Nat) : Stmt := PySem.Challenge.pw_rideturns_k38_whole_nobody_beyond_by_rou.main.body.getD i (.Pass ⟨0, 0, 0, 0⟩)
abbrev s__wall : Stmt := top 0
abbrev N__wall : List Str := ["k"]
theorem sc__wall : FnScope N__wall ["k"] (defScope s__wall) := ⟨rfl, rfl, rfl, by decide +kernel, rfl, by decide +kernel, by decide +kernel⟩
def d__wall : He.DefD := ⟨("_wall", none), "_wall", "_wall", defArgs s__wall, defBody s__wall, defScope s__wall, [], []⟩
abbrev s_NoKind_init : Stmt := inClass (top 2) 0
abbrev N_NoKind_init : List Str := ["self", "thing"]
theorem sc_NoKind_init : FnScope N_NoKind_init ["self", "thing"] (defScope s_NoKind_init) := ⟨rfl, rfl, rfl, by decide +kernel, rfl, by decide +kernel, by decide +kernel⟩
def d_NoKind_init : He.DefD := ⟨("NoKind", some "__init__"), "__init__", "NoKind.__init__", defArgs s_NoKind_init, defBody s_NoKind_init, defScope s_NoKind_init, [], []⟩
abbrev s_Nought_init : Stmt := inClass (top 3) 0
abbrev N_Nought_init : List Str := ["self", "top"]
theorem sc_Nought_init : FnScope N_Nought_init ["self", "top"] (defScope s_Nought_init) := ⟨rfl, rfl, rfl, by decide +kernel, rfl, by decide +kernel, by decide +kernel⟩
def d_Nought_init : He.DefD := ⟨("Nought", some "__init__"), "__init__", "Nought.__init__", defArgs s_Nought_init, defBody s_Nought_init, defScope s_Nought_init, [], []⟩
abbrev s_NoName_init : Stmt := inClass (top 4) 0
abbrev N_NoName_init : List Str := ["self", "name"]
theorem sc_NoName_init : FnScope N_NoName_init ["self", "name"] (defScope s_NoName_init) := ⟨rfl, rfl, rfl, by decide +kernel, rfl, by decide +kernel, by decide +kernel⟩
def d_NoName_init : He.DefD := ⟨("NoName", some "__init__"), "__init__", "NoName.__init__", defArgs s_NoName_init, defBody s_NoName_init, defScope s_NoName_init, [], []⟩
abbrev s_TooMany_init : Stmt := inClass (top 5) 0
abbrev N_TooMany_init : List Str := ["self", "most"]
theorem sc_TooMany_init : FnScope N_TooMany_init ["self", "most"] (defScope s_TooMany_init) := ⟨rfl, rfl, rfl, by decide +kernel, rfl, by decide +kernel, by decide +kernel⟩
def d_TooMany_init : He.DefD := ⟨("TooMany", some "__init__"), "__init__", "TooMany.__init__", defArgs s_TooMany_init, defBody s_TooMany_init, defScope s_TooMany_init, [], []⟩
abbrev s_NoRule_init : Stmt := inClass (top 6) 0
abbrev N_NoRule_init : List Str := ["self", "thing"]
theorem sc_NoRule_init : FnScope N_NoRule_init ["self", "thing"] (defScope s_NoRule_init) := ⟨rfl, rfl, rfl, by decide +kernel, rfl, by decide +kernel, by decide +kernel⟩
def d_NoRule_init : He.DefD := ⟨("NoRule", some "__init__"), "__init__", "NoRule.__init__", defArgs s_NoRule_init, defBody s_NoRule_init, defScope s_NoRule_init, [], []⟩
abbrev s_is_whole : Stmt := top 9
abbrev N_is_whole : List Str := ["thing"]
theorem sc_is_whole : FnScope N_is_whole ["thing"] (defScope s_is_whole) := ⟨rfl, rfl, rfl, by decide +kernel, rfl, by decide +kernel, by decide +kernel⟩
def d_is_whole : He.DefD := ⟨("is_whole", none), "is_whole", "is_whole", defArgs s_is_whole, defBody s_is_whole, defScope s_is_whole, [], []⟩
abbrev s_is_between : Stmt := top 10
abbrev N_is_between : List Str := ["thing", "low", "high"]
theorem sc_is_between : FnScope N_is_between ["thing", "low", "high"] (defScope s_is_between) := ⟨rfl, rfl, rfl, by decide +kernel, rfl, by decide +kernel, by decide +kernel⟩
def d_is_between : He.DefD := ⟨("is_between", none), "is_between", "is_between", defArgs s_is_between, defBody s_is_between, defScope s_is_between, [], []⟩
abbrev s_is_name : Stmt := top 11
abbrev N_is_name : List Str := ["thing", "sign"]
theorem sc_is_name : FnScope N_is_name ["thing"] (defScope s_is_name) := ⟨rfl, rfl, rfl, by decide +kernel, rfl, by decide +kernel, by decide +kernel⟩
def d_is_name : He.DefD := ⟨("is_name", none), "is_name", "is_name", defArgs s_is_name, defBody s_is_name, defScope s_is_name, [], []⟩
abbrev s_is_order : Stmt := top 15
abbrev N_is_order : List Str := ["thing", "name"]
theorem sc_is_order : FnScope N_is_order ["thing"] (defScope s_is_order) := ⟨rfl, rfl, rfl, by decide +kernel, rfl, by decide +kernel, by decide +kernel⟩
def d_is_order : He.DefD := ⟨("is_order", none), "is_order", "is_order", defArgs s_is_order, defBody s_is_order, defScope s_is_order, [], []⟩
abbrev s_is_rule : Stmt := top 16
abbrev N_is_rule : List Str := ["thing"]
theorem sc_is_rule : FnScope N_is_rule ["thing"] (defScope s_is_rule) := ⟨rfl, rfl, rfl, by decide +kernel, rfl, by decide +kernel, by decide +kernel⟩
def d_is_rule : He.DefD := ⟨("is_rule", none), "is_rule", "is_rule", defArgs s_is_rule, defBody s_is_rule, defScope s_is_rule, [], []⟩
abbrev s_sets_of : Stmt := top 17
abbrev N_sets_of : List Str := ["order", "sets", "name", "names"]
theorem sc_sets_of : FnScope N_sets_of ["order"] (defScope s_sets_of) := ⟨rfl, rfl, rfl, by decide +kernel, rfl, by decide +kernel, by decide +kernel⟩
def d_sets_of : He.DefD := ⟨("sets_of", none), "sets_of", "sets_of", defArgs s_sets_of, defBody s_sets_of, defScope s_sets_of, [], []⟩
abbrev s_row_of : Stmt := top 18
abbrev N_row_of : List Str := ["sets", "names"]
theorem sc_row_of : FnScope N_row_of ["sets"] (defScope s_row_of) := ⟨rfl, rfl, rfl, by decide +kernel, rfl, by decide +kernel, by decide +kernel⟩
def d_row_of : He.DefD := ⟨("row_of", none), "row_of", "row_of", defArgs s_row_of, defBody s_row_of, defScope s_row_of, [], []⟩
abbrev s_common_part : Stmt := top 20
abbrev N_common_part : List Str := ["one", "other"]
theorem sc_common_part : FnScope N_common_part ["one", "other"] (defScope s_common_part) := ⟨rfl, rfl, rfl, by decide +kernel, rfl, by decide +kernel, by decide +kernel⟩
def d_common_part : He.DefD := ⟨("common_part", none), "common_part", "common_part", defArgs s_common_part, defBody s_common_part, defScope s_common_part, [], []⟩
abbrev s_Share_init : Stmt := inClass (top 21) 0
abbrev N_Share_init : List Str := ["self", "top", "bottom", "thing", "common"]
theorem sc_Share_init : FnScope N_Share_init ["self", "top", "bottom"] (defScope s_Share_init) := ⟨rfl, rfl, rfl, by decide +kernel, rfl, by decide +kernel, by decide +kernel⟩
def d_Share_init : He.DefD := ⟨("Share", some "__init__"), "__init__", "Share.__init__", defArgs s_Share_init, defBody s_Share_init, defScope s_Share_init, [.int 1], []⟩
abbrev s_Share_eq : Stmt := inClass (top 21) 1
abbrev N_Share_eq : List Str := ["self", "other"]
theorem sc_Share_eq : FnScope N_Share_eq ["self", "other"] (defScope s_Share_eq) := ⟨rfl, rfl, rfl, by decide +kernel, rfl, by decide +kernel, by decide +kernel⟩
def d_Share_eq : He.DefD := ⟨("Share", some "__eq__"), "__eq__", "Share.__eq__", defArgs s_Share_eq, defBody s_Share_eq, defScope s_Share_eq, [], []⟩
abbrev s_Share_str : Stmt := inClass (top 21) 2
abbrev N_Share_str : List Str := ["self"]
theorem sc_Share_str : FnScope N_Share_str ["self"] (defScope s_Share_str) := ⟨rfl, rfl, rfl, by decide +kernel, rfl, by decide +kernel, by decide +kernel⟩
def d_Share_str : He.DefD := ⟨("Share", some "__str__"), "__str__", "Share.__str__", defArgs s_Share_str, defBody s_Share_str, defScope s_Share_str, [], []⟩
abbrev s_Share_repr : Stmt := inClass (top 21) 3
abbrev N_Share_repr : List Str := ["self"]
theorem sc_Share_repr : FnScope N_Share_repr ["self"] (defScope s_Share_repr) := ⟨rfl, rfl, rfl, by decide +kernel, rfl, by decide +kernel, by decide +kernel⟩
def d_Share_repr : He.DefD := ⟨("Share", some "__repr__"), "__repr__", "Share.__repr__", defArgs s_Share_repr, defBody s_Share_repr, defScope s_Share_repr, [], []⟩
abbrev s_Share_plus : Stmt := inClass (top 21) 4
abbrev N_Share_plus : List Str := ["self", "other"]
theorem sc_Share_plus : FnScope N_Share_plus ["self", "other"] (defScope s_Share_plus) := ⟨rfl, rfl, rfl, by decide +kernel, rfl, by decide +kernel, by decide +kernel⟩
def d_Share_plus : He.DefD := ⟨("Share", some "plus"), "plus", "Share.plus", defArgs s_Share_plus, defBody s_Share_plus, defScope s_Share_plus, [], []⟩
abbrev s_Share_less : Stmt := inClass (top 21) 5
abbrev N_Share_less : List Str := ["self", "other"]
theorem sc_Share_less : FnScope N_Share_less ["self", "other"] (defScope s_Share_less) := ⟨rfl, rfl, rfl, by decide +kernel, rfl, by decide +kernel, by decide +kernel⟩
def d_Share_less : He.DefD := ⟨("Share", some "less"), "less", "Share.less", defArgs s_Share_less, defBody s_Share_less, defScope s_Share_less, [], []⟩
abbrev s_Share_times : Stmt := inClass (top 21) 6
abbrev N_Share_times : List Str := ["self", "many"]
theorem sc_Share_times : FnScope N_Share_times ["self", "many"] (defScope s_Share_times) := ⟨rfl, rfl, rfl, by decide +kernel, rfl, by decide +kernel, by decide +kernel⟩
def d_Share_times : He.DefD := ⟨("Share", some "times"), "times", "Share.times", defArgs s_Share_times, defBody s_Share_times, defScope s_Share_times, [], []⟩
abbrev s_Share_over : Stmt := inClass (top 21) 7
abbrev N_Share_over : List Str := ["self", "many"]
theorem sc_Share_over : FnScope N_Share_over ["self", "many"] (defScope s_Share_over) := ⟨rfl, rfl, rfl, by decide +kernel, rfl, by decide +kernel, by decide +kernel⟩
def d_Share_over : He.DefD := ⟨("Share", some "over"), "over", "Share.over", defArgs s_Share_over, defBody s_Share_over, defScope s_Share_over, [], []⟩
abbrev s_Share_below : Stmt := inClass (top 21) 8
abbrev N_Share_below : List Str := ["self", "other"]
theorem sc_Share_below : FnScope N_Share_below ["self", "other"] (defScope s_Share_below) := ⟨rfl, rfl, rfl, by decide +kernel, rfl, by decide +kernel, by decide +kernel⟩
def d_Share_below : He.DefD := ⟨("Share", some "below"), "below", "Share.below", defArgs s_Share_below, defBody s_Share_below, defScope s_Share_below, [], []⟩
abbrev s_Share_whole : Stmt := inClass (top 21) 9
abbrev N_Share_whole : List Str := ["self"]
theorem sc_Share_whole : FnScope N_Share_whole ["self"] (defScope s_Share_whole) := ⟨rfl, rfl, rfl, by decide +kernel, rfl, by decide +kernel, by decide +kernel⟩
def d_Share_whole : He.DefD := ⟨("Share", some "whole"), "whole", "Share.whole", defArgs s_Share_whole, defBody s_Share_whole, defScope s_Share_whole, [], []⟩
abbrev s_total : Stmt := top 22
abbrev N_total : List Str := ["shares", "start", "summed", "share"]
theorem sc_total : FnScope N_total ["shares", "start"] (defScope s_total) := ⟨rfl, rfl, rfl, by decide +kernel, rfl, by decide +kernel, by decide +kernel⟩
def d_total : He.DefD := ⟨("total", none), "total", "total", defArgs s_total, defBody s_total, defScope s_total, [.int 0], []⟩
abbrev s_check_in_order : Stmt := top 25
abbrev N_check_in_order : List Str := ["order", "name"]
theorem sc_check_in_order : FnScope N_check_in_order ["order", "name"] (defScope s_check_in_order) := ⟨rfl, rfl, rfl, by decide +kernel, rfl, by decide +kernel, by decide +kernel⟩
def d_check_in_order : He.DefD := ⟨("check_in_order", none), "check_in_order", "check_in_order", defArgs s_check_in_order, defBody s_check_in_order, defScope s_check_in_order, [], []⟩
abbrev s_sets_with : Stmt := top 26
abbrev N_sets_with : List Str := ["order", "name", "names"]
theorem sc_sets_with : FnScope N_sets_with ["order", "name"] (defScope s_sets_with) := ⟨rfl, rfl, rfl, by decide +kernel, rfl, by decide +kernel, by decide +kernel⟩
def d_sets_with : He.DefD := ⟨("sets_with", none), "sets_with", "sets_with", defArgs s_sets_with, defBody s_sets_with, defScope s_sets_with, [], []⟩
abbrev s_round_bound : Stmt := top 27
abbrev N_round_bound : List Str := ["order", "name", "owed", "owes", "names", "ahead"]
theorem sc_round_bound : FnScope N_round_bound ["order", "name"] (defScope s_round_bound) := ⟨rfl, rfl, rfl, by decide +kernel, rfl, by decide +kernel, by decide +kernel⟩
def d_round_bound : He.DefD := ⟨("round_bound", none), "round_bound", "round_bound", defArgs s_round_bound, defBody s_round_bound, defScope s_round_bound, [], []⟩
abbrev s_round_row : Stmt := top 28
abbrev N_round_row : List Str := ["order", "name", "owed", "row", "names", "many", "day"]
theorem sc_round_row : FnScope N_round_row ["order", "name", "owed"] (defScope s_round_row) := ⟨rfl, rfl, rfl, by decide +kernel, rfl, by decide +kernel, by decide +kernel⟩
def d_round_row : He.DefD := ⟨("round_row", none), "round_row", "round_row", defArgs s_round_row, defBody s_round_row, defScope s_round_row, [.bl true], []⟩
abbrev s_names_of : Stmt := top 31
abbrev N_names_of : List Str := ["order", "riders", "name"]
theorem sc_names_of : FnScope N_names_of ["order", "riders"] (defScope s_names_of) := ⟨rfl, rfl, rfl, by decide +kernel, rfl, by decide +kernel, by decide +kernel⟩
def d_names_of : He.DefD := ⟨("names_of", none), "names_of", "names_of", defArgs s_names_of, defBody s_names_of, defScope s_names_of, [], []⟩
abbrev s_first_memory : Stmt := top 32
abbrev N_first_memory : List Str := ["rule", "name"]
theorem sc_first_memory : FnScope N_first_memory ["rule"] (defScope s_first_memory) := ⟨rfl, rfl, rfl, by decide +kernel, rfl, by decide +kernel, by decide +kernel⟩
def d_first_memory : He.DefD := ⟨("first_memory", none), "first_memory", "first_memory", defArgs s_first_memory, defBody s_first_memory, defScope s_first_memory, [], []⟩
abbrev s_least_driver : Stmt := top 33
abbrev N_least_driver : List Str := ["rule", "held", "names", "grain", "name", "parts", "counts"]
theorem sc_least_driver : FnScope N_least_driver ["rule", "held", "names"] (defScope s_least_driver) := ⟨rfl, rfl, rfl, by decide +kernel, rfl, by decide +kernel, by decide +kernel⟩
def d_least_driver : He.DefD := ⟨("least_driver", none), "least_driver", "least_driver", defArgs s_least_driver, defBody s_least_driver, defScope s_least_driver, [], []⟩
abbrev s_driver_by : Stmt := top 34
abbrev N_driver_by : List Str := ["rule", "memory", "riders", "names", "gone", "same", "many"]
theorem sc_driver_by : FnScope N_driver_by ["rule", "memory", "riders"] (defScope s_driver_by) := ⟨rfl, rfl, rfl, by decide +kernel, rfl, by decide +kernel, by decide +kernel⟩
def d_driver_by : He.DefD := ⟨("driver_by", none), "driver_by", "driver_by", defArgs s_driver_by, defBody s_driver_by, defScope s_driver_by, [], []⟩
abbrev s_parts_behind : Stmt := top 35
abbrev N_parts_behind : List Str := ["order", "held", "riders", "driver", "behind", "name", "parts", "fare", "wage"]
theorem sc_parts_behind : FnScope N_parts_behind ["order", "held", "riders", "driver"] (defScope s_parts_behind) := ⟨rfl, rfl, rfl, by decide +kernel, rfl, by decide +kernel, by decide +kernel⟩
def d_parts_behind : He.DefD := ⟨("parts_behind", none), "parts_behind", "parts_behind", defArgs s_parts_behind, defBody s_parts_behind, defScope s_parts_behind, [], []⟩
abbrev s_line_behind : Stmt := top 36
abbrev N_line_behind : List Str := ["line", "riders", "driver", "name"]
theorem sc_line_behind : FnScope N_line_behind ["line", "riders", "driver"] (defScope s_line_behind) := ⟨rfl, rfl, rfl, by decide +kernel, rfl, by decide +kernel, by decide +kernel⟩
def d_line_behind : He.DefD := ⟨("line_behind", none), "line_behind", "line_behind", defArgs s_line_behind, defBody s_line_behind, defScope s_line_behind, [], []⟩
abbrev s_rounds_behind : Stmt := top 37
abbrev N_rounds_behind : List Str := ["order", "rounds", "riders", "names", "gone", "same", "many"]
theorem sc_rounds_behind : FnScope N_rounds_behind ["order", "rounds", "riders"] (defScope s_rounds_behind) := ⟨rfl, rfl, rfl, by decide +kernel, rfl, by decide +kernel, by decide +kernel⟩
def d_rounds_behind : He.DefD := ⟨("rounds_behind", none), "rounds_behind", "rounds_behind", defArgs s_rounds_behind, defBody s_rounds_behind, defScope s_rounds_behind, [], []⟩
abbrev s_memory_behind : Stmt := top 38
abbrev N_memory_behind : List Str := ["rule", "memory", "riders", "driver"]
theorem sc_memory_behind : FnScope N_memory_behind ["rule", "memory", "riders"] (defScope s_memory_behind) := ⟨rfl, rfl, rfl, by decide +kernel, rfl, by decide +kernel, by decide +kernel⟩
def d_memory_behind : He.DefD := ⟨("memory_behind", none), "memory_behind", "memory_behind", defArgs s_memory_behind, defBody s_memory_behind, defScope s_memory_behind, [], []⟩
abbrev s_Turns_init : Stmt := inClass (top 39) 0
abbrev N_Turns_init : List Str := ["self", "rule", "name"]
theorem sc_Turns_init : FnScope N_Turns_init ["self", "rule"] (defScope s_Turns_init) := ⟨rfl, rfl, rfl, by decide +kernel, rfl, by decide +kernel, by decide +kernel⟩
def d_Turns_init : He.DefD := ⟨("Turns", some "__init__"), "__init__", "Turns.__init__", defArgs s_Turns_init, defBody s_Turns_init, defScope s_Turns_init, [], []⟩
abbrev s_Turns_eq : Stmt := inClass (top 39) 1
abbrev N_Turns_eq : List Str := ["self", "other"]
theorem sc_Turns_eq : FnScope N_Turns_eq ["self", "other"] (defScope s_Turns_eq) := ⟨rfl, rfl, rfl, by decide +kernel, rfl, by decide +kernel, by decide +kernel⟩
def d_Turns_eq : He.DefD := ⟨("Turns", some "__eq__"), "__eq__", "Turns.__eq__", defArgs s_Turns_eq, defBody s_Turns_eq, defScope s_Turns_eq, [], []⟩
abbrev s_Turns_len : Stmt := inClass (top 39) 2
abbrev N_Turns_len : List Str := ["self"]
theorem sc_Turns_len : FnScope N_Turns_len ["self"] (defScope s_Turns_len) := ⟨rfl, rfl, rfl, by decide +kernel, rfl, by decide +kernel, by decide +kernel⟩
def d_Turns_len : He.DefD := ⟨("Turns", some "__len__"), "__len__", "Turns.__len__", defArgs s_Turns_len, defBody s_Turns_len, defScope s_Turns_len, [], []⟩
abbrev s_Turns_check_riders : Stmt := inClass (top 39) 3
abbrev N_Turns_check_riders : List Str := ["self", "riders", "at", "name"]
theorem sc_Turns_check_riders : FnScope N_Turns_check_riders ["self", "riders"] (defScope s_Turns_check_riders) := ⟨rfl, rfl, rfl, by decide +kernel, rfl, by decide +kernel, by decide +kernel⟩
def d_Turns_check_riders : He.DefD := ⟨("Turns", some "check_riders"), "check_riders", "Turns.check_riders", defArgs s_Turns_check_riders, defBody s_Turns_check_riders, defScope s_Turns_check_riders, [], []⟩
abbrev s_Turns_who : Stmt := inClass (top 39) 4
abbrev N_Turns_who : List Str := ["self", "riders"]
theorem sc_Turns_who : FnScope N_Turns_who ["self", "riders"] (defScope s_Turns_who) := ⟨rfl, rfl, rfl, by decide +kernel, rfl, by decide +kernel, by decide +kernel⟩
def d_Turns_who : He.DefD := ⟨("Turns", some "who"), "who", "Turns.who", defArgs s_Turns_who, defBody s_Turns_who, defScope s_Turns_who, [], []⟩
abbrev s_Turns_ride : Stmt := inClass (top 39) 5
abbrev N_Turns_ride : List Str := ["self", "riders", "driver"]
theorem sc_Turns_ride : FnScope N_Turns_ride ["self", "riders"] (defScope s_Turns_ride) := ⟨rfl, rfl, rfl, by decide +kernel, rfl, by decide +kernel, by decide +kernel⟩
def d_Turns_ride : He.DefD := ⟨("Turns", some "ride"), "ride", "Turns.ride", defArgs s_Turns_ride, defBody s_Turns_ride, defScope s_Turns_ride, [], []⟩
abbrev s_Turns_stands : Stmt := inClass (top 39) 6
abbrev N_Turns_stands : List Str := ["self", "name", "parts"]
theorem sc_Turns_stands : FnScope N_Turns_stands ["self"] (defScope s_Turns_stands) := ⟨rfl, rfl, rfl, by decide +kernel, rfl, by decide +kernel, by decide +kernel⟩
def d_Turns_stands : He.DefD := ⟨("Turns", some "stands"), "stands", "Turns.stands", defArgs s_Turns_stands, defBody s_Turns_stands, defScope s_Turns_stands, [], []⟩
abbrev s_Turns_drives : Stmt := inClass (top 39) 7
abbrev N_Turns_drives : List Str := ["self", "name"]
theorem sc_Turns_drives : FnScope N_Turns_drives ["self"] (defScope s_Turns_drives) := ⟨rfl, rfl, rfl, by decide +kernel, rfl, by decide +kernel, by decide +kernel⟩
def d_Turns_drives : He.DefD := ⟨("Turns", some "drives"), "drives", "Turns.drives", defArgs s_Turns_drives, defBody s_Turns_drives, defScope s_Turns_drives, [], []⟩
abbrev s_Turns_memory : Stmt := inClass (top 39) 8
abbrev N_Turns_memory : List Str := ["self", "parts"]
theorem sc_Turns_memory : FnScope N_Turns_memory ["self"] (defScope s_Turns_memory) := ⟨rfl, rfl, rfl, by decide +kernel, rfl, by decide +kernel, by decide +kernel⟩
def d_Turns_memory : He.DefD := ⟨("Turns", some "memory"), "memory", "Turns.memory", defArgs s_Turns_memory, defBody s_Turns_memory, defScope s_Turns_memory, [], []⟩
abbrev s_l_held : Stmt := top 41
abbrev N_l_held : List Str := ["_law_script"]
theorem sc_l_held : FnScope N_l_held ["_law_script"] (defScope s_l_held) := ⟨rfl, rfl, rfl, by decide +kernel, rfl, by decide +kernel, by decide +kernel⟩
def d_l_held : He.DefD := ⟨("_law_held", none), "_law_held", "_law_held", defArgs s_l_held, defBody s_l_held, defScope s_l_held, [], []⟩
abbrev s_l_draw : Stmt := top 42
abbrev N_l_draw : List Str := ["_law_held_here", "_law_many", "_law_found", "_law_at", "_law_cell", "_law_number"]
theorem sc_l_draw : FnScope N_l_draw ["_law_held_here", "_law_many"] (defScope s_l_draw) := ⟨rfl, rfl, rfl, by decide +kernel, rfl, by decide +kernel, by decide +kernel⟩
def d_l_draw : He.DefD := ⟨("_law_draw", none), "_law_draw", "_law_draw", defArgs s_l_draw, defBody s_l_draw, defScope s_l_draw, [], []⟩
abbrev s_l_names : Stmt := top 43
abbrev N_l_names : List Str := ["_law_held_here", "_law_many", "_law_letters", "_law_size", "_law_k", "_law_base", "_law_at", "_law_begin", "_law_step", "_law_lot", "_law_found", "_law_tail"]
theorem sc_l_names : FnScope N_l_names ["_law_held_here", "_law_many"] (defScope s_l_names) := ⟨rfl, rfl, rfl, by decide +kernel, rfl, by decide +kernel, by decide +kernel⟩
def d_l_names : He.DefD := ⟨("_law_names", none), "_law_names", "_law_names", defArgs s_l_names, defBody s_l_names, defScope s_l_names, [], []⟩
abbrev s_l_low : Stmt := top 44
abbrev N_l_low : List Str := ["_law_top", "_law_bottom", "_law_one", "_law_other"]
theorem sc_l_low : FnScope N_l_low ["_law_top", "_law_bottom"] (defScope s_l_low) := ⟨rfl, rfl, rfl, by decide +kernel, rfl, by decide +kernel, by decide +kernel⟩
def d_l_low : He.DefD := ⟨("_law_low", none), "_law_low", "_law_low", defArgs s_l_low, defBody s_l_low, defScope s_l_low, [], []⟩
abbrev s_l_add : Stmt := top 45
abbrev N_l_add : List Str := ["_law_one", "_law_other"]
theorem sc_l_add : FnScope N_l_add ["_law_one", "_law_other"] (defScope s_l_add) := ⟨rfl, rfl, rfl, by decide +kernel, rfl, by decide +kernel, by decide +kernel⟩
def d_l_add : He.DefD := ⟨("_law_add", none), "_law_add", "_law_add", defArgs s_l_add, defBody s_l_add, defScope s_l_add, [], []⟩
abbrev s_l_pair : Stmt := top 46
abbrev N_l_pair : List Str := ["_law_share", "_law_part"]
theorem sc_l_pair : FnScope N_l_pair ["_law_share"] (defScope s_l_pair) := ⟨rfl, rfl, rfl, by decide +kernel, rfl, by decide +kernel, by decide +kernel⟩
def d_l_pair : He.DefD := ⟨("_law_pair", none), "_law_pair", "_law_pair", defArgs s_l_pair, defBody s_l_pair, defScope s_l_pair, [], []⟩
abbrev s_l_day : Stmt := top 47
abbrev N_l_day : List Str := ["_law_held_here", "_law_order", "_law_many", "_law_left", "_law_found", "_law_turn"]
theorem sc_l_day : FnScope N_l_day ["_law_held_here", "_law_order"] (defScope s_l_day) := ⟨rfl, rfl, rfl, by decide +kernel, rfl, by decide +kernel, by decide +kernel⟩
def d_l_day : He.DefD := ⟨("_law_day", none), "_law_day", "_law_day", defArgs s_l_day, defBody s_l_day, defScope s_l_day, [], []⟩
abbrev s_l_in_bound : Stmt := top 48
abbrev N_l_in_bound : List Str := ["_law_pair_here", "_law_bound", "_law_owed", "_law_owes"]
theorem sc_l_in_bound : FnScope N_l_in_bound ["_law_pair_here", "_law_bound"] (defScope s_l_in_bound) := ⟨rfl, rfl, rfl, by decide +kernel, rfl, by decide +kernel, by decide +kernel⟩
def d_l_in_bound : He.DefD := ⟨("_law_in_bound", none), "_law_in_bound", "_law_in_bound", defArgs s_l_in_bound, defBody s_l_in_bound, defScope s_l_in_bound, [], []⟩
abbrev s_l_sets : Stmt := top 49
abbrev N_l_sets : List Str := ["_law_order", "_law_name", "_law_found", "_law_other", "_law_some"]
theorem sc_l_sets : FnScope N_l_sets ["_law_order", "_law_name"] (defScope s_l_sets) := ⟨rfl, rfl, rfl, by decide +kernel, rfl, by decide +kernel, by decide +kernel⟩
def d_l_sets : He.DefD := ⟨("_law_sets", none), "_law_sets", "_law_sets", defArgs s_l_sets, defBody s_l_sets, defScope s_l_sets, [], []⟩
abbrev s_l_round_bound : Stmt := top 50
abbrev N_l_round_bound : List Str := ["_law_order", "_law_name", "_law_up", "_law_down", "_law_some", "_law_ahead"]
theorem sc_l_round_bound : FnScope N_l_round_bound ["_law_order", "_law_name"] (defScope s_l_round_bound) := ⟨rfl, rfl, rfl, by decide +kernel, rfl, by decide +kernel, by decide +kernel⟩
def d_l_round_bound : He.DefD := ⟨("_law_round_bound", none), "_law_round_bound", "_law_round_bound", defArgs s_l_round_bound, defBody s_l_round_bound, defScope s_l_round_bound, [], []⟩
abbrev s_l_days : Stmt := top 51
abbrev N_l_days : List Str := ["_law_held_here", "_law_order", "_law_many", "_law_way", "_law_some", "_law_days_here", "_law_found", "_law_k"]
theorem sc_l_days : FnScope N_l_days ["_law_held_here", "_law_order"] (defScope s_l_days) := ⟨rfl, rfl, rfl, by decide +kernel, rfl, by decide +kernel, by decide +kernel⟩
def d_l_days : He.DefD := ⟨("_law_days", none), "_law_days", "_law_days", defArgs s_l_days, defBody s_l_days, defScope s_l_days, [], []⟩
abbrev s_law : Stmt := top 52
abbrev N_law : List Str := ["_law_script", "_law_held_here", "_law_order", "_law_turns", "_law_name", "_law_bounds", "_law_found", "_law_riders", "_law_stands"]
theorem sc_law : FnScope N_law ["_law_script"] (defScope s_law) := ⟨rfl, rfl, rfl, by decide +kernel, rfl, by decide +kernel, by decide +kernel⟩
def d_law : He.DefD := ⟨("law", none), "law", "law", defArgs s_law, defBody s_law, defScope s_law, [], []⟩
def fn : List He.DefD := [d__wall, d_NoKind_init, d_Nought_init, d_NoName_init, d_TooMany_init, d_NoRule_init, d_is_whole, d_is_between, d_is_name, d_is_order, d_is_rule, d_sets_of, d_row_of, d_common_part, d_Share_init, d_Share_eq, d_Share_str, d_Share_repr, d_Share_plus, d_Share_less, d_Share_times, d_Share_over, d_Share_below, d_Share_whole, d_total, d_check_in_order, d_sets_with, d_round_bound, d_round_row, d_names_of, d_first_memory, d_least_driver, d_driver_by, d_parts_behind, d_line_behind, d_rounds_behind, d_memory_behind, d_Turns_init, d_Turns_eq, d_Turns_len, d_Turns_check_riders, d_Turns_who, d_Turns_ride, d_Turns_stands, d_Turns_drives, d_Turns_memory, d_l_held, d_l_draw, d_l_names, d_l_low, d_l_add, d_l_pair, d_l_day, d_l_in_bound, d_l_sets, d_l_round_bound, d_l_days, d_law]
end K38
set_option Elab.async false
set_option linter.all false
set_option maxRecDepth 100000
set_option maxHeartbeats 4000000
/-! GX: own exceptions over any built-in base, whose own __init__ calls the base's and stores a field. -/
namespace GX
open PySem PySem.Spec PyProof.Rows L2

/-- what the written part tells of the class -/
structure Gx (K : PySem.W.Frag) (C : Addr) (bmB : List Value) (nid : String) : Prop where
  over : PySem.W.excOver K C bmB = true
  made : PySem.W.excInitIn K C bmB nid = true
  hasd : ∃ cd, PySem.W.clsIn K C = some cd ∧ cd.hasDict = true
  sets : PySem.W.findIn K (.ref C) "__setattr__" = some (some (.builtin "object.__setattr__"))
  base : PySem.W.subIn K (.ref C) (.type "BaseException") = some true
  typ : PySem.W.typeIn K (.ref C) = some (.type "type")
  keep : PySem.W.keepIn K (.ref C) = true

section
open Builtin Builtin.ObjectAttr
variable {prog : Program} {w : World} {A : Around} {R : Result → Shared → Prop} {hp : Heap} {g : Array GenState} {d : Drawn} {t : Nat} {os : OsState} {B : String} {bmB : List Value}
theorem first_store {K : PySem.W.Frag} {name : Str} {tk : Tok} {v : Value} {x C : Addr} {fv : Array Value} {cd : ClassData} (SF : StoreFacts B bmB "object.__setattr__" "object")
    (X : K.In hp) (hx : hp.get? x = some { cls := .ref C, data := .fields fv }) (ho : PySem.W.excOver K C bmB = true) (hc : PySem.W.clsIn K C = some cd) (hd : cd.hasDict = true)
    (hf : PySem.W.findIn K (.ref C) name = some none)
    (post : ∀ h' tk' dx, (∀ b o, b ≠ x → hp.get? b = some o → h'.get? b = some o) → hp.objs.size ≤ dx → dx ≠ x →
      h'.get? x = some { cls := .ref C, dict := some dx, data := .fields fv } → h'.Ns1 dx (fun y => if y = name then some v else none) → R (.ok (.ret .none)) ⟨h', g, d, tk', os⟩) :
    codeAny (model prog w) A (.call (.builtin "object.__setattr__") ⟨[.ref x, .str name tk, v], []⟩) R ⟨hp, g, d, t, os⟩ := by
  have inst : PySem.W.InstAt hp x { cls := .ref C, data := .fields fv } C none := ⟨hx, rfl, rfl, trivial⟩
  have far : x ≠ hp.objs.size := Nat.ne_of_lt (Heap.lt_size hx)
  have lc : PySem.W.Looks (model prog w) hp (classData C) cd := PySem.W.looks_clsIn X hc
  refine PySem.W.osa_openX (r := none) SF X inst ho (by unfold PySem.W.takerIn; rw [hf]; rfl) fun b => ?_
  dsimp only
  obtain ⟨n1, n2, n3, n4, n5, n6, n7, n8, n9, n10, n11⟩ := cd
  dsimp only at hd
  subst hd
  unfold storeInOwnDict ownDictForStores
  repeat (first | with_reducible refine PySem.HandSPX.store_in_new ?_ ?_ | with_reducible refine wpAny_loadPart_at hx ?_ | with_reducible refine lc.at ?_ | wp_step)
  · exact ⟨_, #[], _, (Heap.get?_update_ne _ _ _ _ far.symm).trans (Heap.get?_push_at rfl rfl), rfl, fun e he => absurd he (by simp), fun _ => rfl⟩
  · intro h' tk' hn hs
    have hx1 : (hp.push { cls := .type "dict", data := .dict #[] }).get? x = some { cls := .ref C, data := .fields fv } := Heap.get?_push_of_some _ hx
    refine post h' tk' hp.objs.size (fun b o hb hob => ?_) (Nat.le_refl _) far.symm ?_ hn
    · have e1 := hs.2 b (Nat.ne_of_lt (Heap.lt_size hob))
      rw [e1, Heap.get?_update_ne _ _ _ _ hb]
      exact Heap.get?_push_of_some _ hob
    · rw [hs.2 x far]
      exact Heap.get?_update_self _ hx1 rfl
end

section
variable {X : Cx} {pins : List (Addr × Obj)} {σ : L2.St} {H : Hp} {s : Shared} {a C dx : Addr} {f : Str} {y : V} {u : Value} {Q : Unit → Shared → Prop} {E : Value → Shared → Prop} {A : Around} {B : String} {bmB : List Value} {nid iid : String}
/-- self.f = y, the first store -/
theorem put_first (SF : StoreFacts B bmB "object.__setattr__" "object") (T : Gx X.K C bmB nid) (I : Inv X pins σ H s) (e : H a = some (exo a C none)) (hno : PySem.W.findIn X.K (.ref C) f = some none) (ry : RelV y u)
    (post : ∀ dx s', H dx = none → dx ≠ a → Inv X pins σ (upd (upd H dx (exd dx [(f, y)])) a (exo a C (some dx))) s' → Q () s') : wpAny (model X.prog X.w) A (setAttr (.ref a) f u) Q E s := by
  obtain ⟨cd, hcd, hdd⟩ := T.hasd
  obtain ⟨t1, at1⟩ := exo_at I.hok e
  obtain ⟨hp, g, d, t, os⟩ := s
  refine PySem.W.set_plain I.kIn (ox := { cls := .ref C, dict := none, data := .fields #[.ref t1, .none, .none, .none, .bool false, .none] }) (od := none) ⟨at1, rfl, rfl, trivial⟩ T.sets ?_
  refine first_store SF I.kIn at1 T.over hcd hdd hno (fun h' tk' dx kp dn dne hx hn => ?_)
  have fresh : H dx = none := I.hok.fresh dn
  have old : ∀ {b : Addr} {o : Obj}, hp.get? b = some o → b ≠ dx := fun {b o} q => Nat.ne_of_lt (Nat.lt_of_lt_of_le (Heap.lt_size q) dn)
  have other : ∀ {b : Addr}, H b = none → b ≠ a := fun {b} n z => by
    rw [z, e] at n
    cases n
  have un : Un X.fs [] H (upd (upd H dx (exd dx [(f, y)])) a (exo a C (some dx))) hp h' := {
    keep := fun b o q n _ _ => kp b o (other n) q
    slot := fun b o q n _ _ => ⟨o.slots, kp b o (other n) q⟩
    free := fun b o q n _ => by rw [upd_ne (other n), upd_ne (old q)]; exact n
    there := fun b o q _ => by
      by_cases hb : b = a
      · exact ⟨_, hb ▸ hx⟩
      · exact ⟨o, kp b o hb q⟩
    tups := fun b xs q => by rw [upd_ne (at_ne e q exo_tup), upd_ne (ne_of_none q fresh)]; exact q
    frzs := fun b o v q => by rw [upd_ne (at_ne e q exo_frz), upd_ne (ne_of_none q fresh)]; exact q
    tbls := fun b ps q => ⟨#[], by rw [upd_ne (at_ne e q exo_tbl), upd_ne (ne_of_none q fresh), q]; simp⟩ }
  refine post dx _ fresh dne (I.un (t' := tk') un fun b o q => ?_)
  by_cases hb : b = a
  · subst hb
    rw [upd_same] at q
    cases q
    exact exo_ok hx
  · rw [upd_ne hb] at q
    by_cases hd : b = dx
    · subst hd
      rw [upd_same] at q
      cases q
      exact exd_ok hn (relO_put (fs := []) ry fun g => True.intro)
    · rw [upd_ne hd] at q
      refine (I.hok b o q).stay (fun c v hc z => kp c v ?_ z) (fun c hc => ?_) (fun c xs hc => ?_)
      · rcases hc with hc | hc
        · exact hc ▸ hb
        · exact at_ne e hc exo_own
      · rw [upd_ne (at_ne e hc exo_own), upd_ne (ne_of_none hc fresh)]; exact hc
      · rw [upd_ne (at_ne e hc exo_tup), upd_ne (ne_of_none hc fresh)]; exact hc
/-- Base.__init__(self, ..) -/
theorem base_init {us : List Value} {Q : Value → Shared → Prop} (FB : ExcBaseFacts B nid iid bmB) (T : Gx X.K C bmB nid) (I : Inv X pins σ H s) (e : H a = some (exo a C none)) (hl : us.length ≤ sizeLine) (post : ∀ s', Inv X pins σ H s' → Q .none s') :
    wpAny (model X.prog X.w) A (call (.builtin iid) (.ref a :: us)) Q E s := by
  obtain ⟨nm, N, qn, bs, bm, hdct, sn, sub, ab, col, dd, k0, k1, k2, k3, k5, hC, hT⟩ := PySem.W.excInit_of I.kIn T.made
  obtain ⟨t1, at1⟩ := exo_at I.hok e
  obtain ⟨hp, g, d, t, os⟩ := s
  refine wpAny_call (PySem.HandSPX.init_base FB hT hC at1 hl fun h' t2 kp hx => ?_)
  have J := I.write (t' := t) (x := a) (e := a) (o := exo a C none) (by rw [e]; exact True.intro) (.inl rfl) kp ⟨_, hx⟩ (exo_ok hx)
  have same : upd H a (exo a C none) = H := funext fun b => by
    by_cases hb : b = a
    · rw [hb, upd_same, e]
    · rw [upd_ne hb]
  rw [same] at J
  exact post _ J
end

/-! ### readings and rules -/
/-- Base.__init__(self, ..) -/
def tBi (K : PySem.W.Frag) (bmB : List Value) (nid : String) (ta : TA) : TE := fun σ H Q => ta σ H fun vs H1 => ∃ (a C : Addr) (ws : List V), vs = .ref a :: ws ∧ ws.length ≤ 1000 ∧ Gx K C bmB nid ∧ H1 a = some (exo a C none) ∧ Q .non H1
/-- self.f = e, the first one -/
def tPf (K : PySem.W.Frag) (bmB : List Value) (nid : String) (f : Str) (to te : TE) : TS := fun D σ H => te σ H fun y H1 => to σ H1 fun x H2 => ∃ a C : Addr, x = .ref a ∧ Gx K C bmB nid ∧ PySem.W.findIn K (.ref C) f = some none ∧
  H2 a = some (exo a C none) ∧ ∀ dx, H2 dx = none → dx ≠ a → D.nx σ (upd (upd H2 dx (exd dx [(f, y)])) a (exo a C (some dx)))
section
variable {X : Cx} {o e : Expr} {es : List Expr} {to te : TE} {ta : TA} {f : Str} {p p' p1 p2 pos : Pos} {B nid iid : String} {bmB : List Value} {x : Str}
theorem pe_bi {pl : Sem Bool} (FB : ExcBaseFacts B nid iid bmB) (hg : Gl X x) (hm : X.mg x = none) (hv : bootBuiltins x = some (.type B)) (ty : typeOf (.type B) = pure (.type "type"))
    (vV : PySem.W.findCls X.K (.type B) (.type "type") "__init__" = some (.val (.builtin iid))) (hb : PySem.W.handedIn (.builtin iid) = true) (hst : Manifest.isStub B = false) (ha : PA X (e :: es) ta)
    (hc : eval (.Call (.Attribute (.Name x p1) "__init__" p2) (e :: es) [] pos) X.env = (do
      let ov ← eval (.Name x p1) X.env
      standAt p2.atName
      let (f, first) ← holding [ov] (getMethod ov "__init__" pl)
      callWith pos f first (backTo pos (starEach (e :: es) X.env)) (backToKw pos (keywordEach [] X.env))) := by rfl)
    (hn : x ≠ "__name__" := by decide) (hd : (x == ("__debug__" : Str)) = false := by decide)
    (he : starEach (e :: es) X.env = (false, eval e X.env) :: starEach es X.env := by rfl) (hpl : (backTo pos (starEach es X.env)).any (·.1) = false := by rfl) :
    PE X (.Call (.Attribute (.Name x p1) "__init__" p2) (e :: es) [] pos) (tBi X.K bmB nid ta) := by
  refine ⟨fun pins s σ H Q I h => ?_⟩
  refine PySem.W.methodCall_KW (ld_blt I hg hm hv ?_ hn hd) hc
  obtain ⟨m, fr⟩ := I.fr
  refine PySem.W.method_type fr I.ok.mod.kin ty hst vV hb ?_
  show wpAny _ _ (callWith pos (Value.builtin iid) [] (backTo pos (starEach (e :: es) X.env)) []) _ _ _
  refine PyProof.Rows.callWith_method1 (thn (ha.run pos pins _ σ H _ (I.tok _) h) fun us s1 hh => ?_) he hpl
  obtain ⟨vs, H1, I1, r1, a, C, ws, ev, hl, T, ea, q⟩ := hh
  subst ev
  cases r1 with
  | @cons _ u0 _ ur ra rw' =>
    obtain rfl : u0 = Value.ref a := ra
    have hlen : ur.length ≤ sizeLine := by
      have := Paired.length rw'
      rw [sizeLine_eq]
      omega
    exact base_init FB T I1 ea hlen fun s' J => ⟨.non, H1, J, rfl, q⟩
theorem ps_pf (SF : StoreFacts B bmB "object.__setattr__" "object") (ho : PE X o to) (he : PE X e te) (hs : swapsWith e (some (.Attribute o f p')) pos.line X.env = pure false := by rfl) : PS X (.Assign [.Attribute o f p'] e pos) (tPf X.K bmB nid f to te) := by
  refine ⟨fun pins s σ H D I h => ?_⟩
  refine plainObj_wpAny_Assign_Attribute (thn (he.run pins s σ H _ I h) fun v s1 h1 => ?_) hs
  obtain ⟨y, H1, I1, r1, q1⟩ := h1
  refine thn (ho.run pins s1 σ H1 _ I1 q1) fun u s2 h2 => ?_
  obtain ⟨z, H2, I2, r2, a, C, ex, T, hno, ea, q⟩ := h2
  subst ex
  obtain rfl : u = Value.ref a := r2
  exact put_first SF T I2 ea hno r1 fun dx s' n ne J => ⟨σ, _, J, q dx n ne⟩
/-- C(e, ..) as what is raised, C's own __init__ keeping sp -/
theorem pmk_gx {CX : CXT} {C fI : Addr} {k : Nat} {fd : FuncData} {ps : List Str} {sp : Sp} {ds : List Value} {dvs : List V} (FB : ExcBaseFacts B nid iid bmB) (T : Gx X.K C bmB nid) (iC : PySem.W.findIn X.K (.ref C) "__init__" = some (some (.ref fI)))
    (tI : PySem.W.typeIn X.K (.ref fI) = some (.type "function"))
    (F1 : FnOk X.prog X.w X.K X.mg X.base CX k fI fd ps sp) (hr : Room (k + 1) X.A) (hb : Binds X.K fd ps ds) (hd : Vals dvs ds) (hx : Passes CX X (fun _ _ _ => False)) (hg : Gl X x) (hm : X.mg x = some (.ref C)) (ha : PA X (e :: es) ta)
    (hdb : (x == ("__debug__" : Str)) = false := by decide) (he : starEach (e :: es) X.env = (false, eval e X.env) :: starEach es X.env := by rfl) (hpl : (backTo pos (starEach es X.env)).any (·.1) = false := by rfl) :
    PMk X (.Call (.Name x p) (e :: es) [] pos) (tMkO C sp dvs ta) := by
  intro pins s σ H Q I h
  refine wpAny_Call_Name_kw (ld_glob I hg hm ?_ hdb)
  refine PySem.W.callWith_K (h₀ := X.base) I.ok.mod.kin T.keep (thn (ha.run pos pins s σ H _ I h) fun us s1 hh => ?_) he hpl
  obtain ⟨vs, H1, I1, r1, hz, q1⟩ := hh
  refine ⟨I1.kIn, ?_⟩
  show wpAny _ _ (call (.ref C) us) _ _ _
  obtain ⟨nm, N, qn, bs, bm, hdct, sn, sub, ab, col, dd, k0, k1, k2, k3, k5, hC, hT⟩ := PySem.W.excInit_of I1.kIn T.made
  obtain ⟨hp, g, dr, tk, os⟩ := s1
  have big : hp.objs.size ≤ hp.objs.size + 1 := Nat.le_succ _
  have hq := q1 (hp.objs.size + 1) (I1.hok.fresh big)
  have kk : ∀ b o, hp.get? b = some o → ((hp.push (PySem.W.kdv_tup us)).push (PySem.HandSPX.excO C hp.objs.size)).get? b = some o := fun b o z =>
    Heap.get?_push_of_some _ (Heap.get?_push_of_some _ z)
  have there : ((hp.push (PySem.W.kdv_tup us)).push (PySem.HandSPX.excO C hp.objs.size)).get? (hp.objs.size + 1) = some (PySem.HandSPX.excO C hp.objs.size) := by heap_get
  have I2 := I1.laid (t' := tk) (a := hp.objs.size + 1) (o := exo (hp.objs.size + 1) C none) (h' := (hp.push (PySem.W.kdv_tup us)).push (PySem.HandSPX.excO C hp.objs.size)) kk big (exo_ok there)
  have r2 : Vals (V.ref (hp.objs.size + 1) :: (vs ++ dvs)) (Value.ref (hp.objs.size + 1) :: (us ++ ds)) := .cons rfl (r1.append hd)
  have hl : (Value.ref (hp.objs.size + 1) :: us ++ ds).length = ps.length := by
    have e1 := r2.length
    rw [F1.len _ _ _ _ hq] at e1
    exact e1.symm
  have few : us.length ≤ sizeLine := by
    have := Paired.length r1
    rw [sizeLine_eq]
    omega
  refine wpAny_call (PySem.HandSPX.call_own FB hT hC (PySem.W.looks_findIn I1.kIn iC) (fun self => PySem.W.bind_fn I1.kIn self tI) few (codeAny_mono
    (F1.run _ X.stack _ _ ⟨Value.ref (hp.objs.size + 1) :: us, []⟩ (Value.ref (hp.objs.size + 1) :: (us ++ ds)) _ _ (fun _ _ _ => False) (hr.make C us []) (I2.env0.make C us []) (hb _ (Value.ref (hp.objs.size + 1) :: us) I2.kIn hl) r2 hq) fun r s' hq' => ?_))
  cases r with
  | error er => exact hx pins σ _ _ er s' I2 hq'
  | ok fl =>
    cases fl with
    | ret u =>
      obtain ⟨v, H2, os2, bare2, un2, hok2, rv, ev, d, fs, ea, ed, hd1, q2⟩ := hq'
      subst ev
      obtain ⟨h2, g2, d2, t2, os'⟩ := s'
      exact ⟨rv, mk_end (raises_own T.base T.typ) I1 big kk un2 hok2 os2 bare2 ea ed hd1 q2⟩
    | next => exact False.elim hq'
    | brk => exact False.elim hq'
    | cont => exact False.elim hq'
end
/-! ### the head's look at such a class -/
def hasDB (K : PySem.W.Frag) (C : Addr) : Bool := match PySem.W.clsIn K C with
  | some cd => cd.hasDict
  | none => false
/-- Base.__init__, read off the class Base -/
def vvB (K : PySem.W.Frag) (B iid : String) : Bool := match PySem.W.findCls K (.type B) (.type "type") "__init__" with
  | some (.val (.builtin n)) => n == iid
  | _ => false
theorem vvB_ok {K : PySem.W.Frag} {B iid : String} (h : vvB K B iid = true) : PySem.W.findCls K (.type B) (.type "type") "__init__" = some (.val (.builtin iid)) := by
  unfold vvB at h
  split at h
  · rename_i n e
    rw [e, eq_of_beq h]
  · cases h
/-- what isinstance asks of an own class -/
def isB (K : PySem.W.Frag) (C : Addr) : Bool := He.eqO (PySem.W.findIn K (.ref C) "__class__") (some (some (.builtin "object.__class__"))) && (He.eqO (PySem.W.specialIn K (.builtin "object.__class__") "__get__") (some (some (.builtin "getset_descriptor.__get__"))) &&
  (decide (PySem.W.takesIn K (.builtin "object.__class__") = some true) && decide (PySem.W.mroIn K C (.type "object") = some true)))
def gxB (K : PySem.W.Frag) (C : Addr) (bmB : List Value) (nid : String) : Bool := PySem.W.excOver K C bmB && (PySem.W.excInitIn K C bmB nid && (hasDB K C &&
  (He.eqO (PySem.W.findIn K (.ref C) "__setattr__") (some (some (.builtin "object.__setattr__"))) && (decide (PySem.W.subIn K (.ref C) (.type "BaseException") = some true) &&
  (decide (PySem.W.typeIn K (.ref C) = some (.type "type")) && PySem.W.keepIn K (.ref C))))))
theorem gxB_ok {K : PySem.W.Frag} {C : Addr} {bmB : List Value} {nid : String} (h : gxB K C bmB nid = true) : Gx K C bmB nid := by
  unfold gxB at h
  simp only [Bool.and_eq_true, decide_eq_true_eq] at h
  obtain ⟨h1, h2, h3, h4, h5, h6, h7⟩ := h
  refine ⟨h1, h2, ?_, He.eqO_ok h4, h5, h6, h7⟩
  unfold hasDB at h3
  split at h3
  · rename_i cd e
    exact ⟨cd, e, h3⟩
  · cases h3
end GX
set_option linter.all false
namespace KM
/-- the signed common part -/
def sg (t b : Int) : Int := if b < 0 then -(Int.gcd t b : Int) else (Int.gcd t b : Int)
/-- a fraction in lowest terms -/
def low (t b : Int) : Int × Int := (t.fdiv (sg t b), b.fdiv (sg t b))
theorem gcd_pos {t b : Int} (h : b ≠ 0) : 0 < Int.gcd t b := Int.gcd_pos_of_ne_zero_right t h
theorem sg_ne {t b : Int} (h : b ≠ 0) : sg t b ≠ 0 := by
  have := gcd_pos (t := t) h
  unfold sg
  split <;> omega
theorem sg_dvd_left (t b : Int) : sg t b ∣ t := by
  unfold sg
  split
  · exact Int.neg_dvd.mpr (Int.gcd_dvd_left ..)
  · exact Int.gcd_dvd_left ..
theorem sg_dvd_right (t b : Int) : sg t b ∣ b := by
  unfold sg
  split
  · exact Int.neg_dvd.mpr (Int.gcd_dvd_right ..)
  · exact Int.gcd_dvd_right ..
theorem low_top {t b : Int} : sg t b * (low t b).1 = t := by
  show sg t b * t.fdiv (sg t b) = t
  rw [Int.fdiv_eq_ediv_of_dvd (sg_dvd_left t b)]
  exact Int.mul_ediv_cancel' (sg_dvd_left t b)
theorem low_bot {t b : Int} : sg t b * (low t b).2 = b := by
  show sg t b * b.fdiv (sg t b) = b
  rw [Int.fdiv_eq_ediv_of_dvd (sg_dvd_right t b)]
  exact Int.mul_ediv_cancel' (sg_dvd_right t b)
theorem sg_abs (t b : Int) : (sg t b).natAbs = Int.gcd t b := by
  unfold sg
  split <;> simp
theorem low_pos {t b : Int} (h : b ≠ 0) : 0 < (low t b).2 := by
  have e := low_bot (t := t) (b := b)
  have g := gcd_pos (t := t) h
  by_cases hb : b < 0
  · have hs : sg t b < 0 := by unfold sg; rw [if_pos hb]; omega
    refine Int.lt_of_not_ge fun hc => ?_
    have := Int.mul_nonneg_of_nonpos_of_nonpos (Int.le_of_lt hs) hc
    omega
  · have hs : 0 < sg t b := by unfold sg; rw [if_neg hb]; omega
    refine Int.lt_of_not_ge fun hc => ?_
    have := Int.mul_nonpos_of_nonneg_of_nonpos (Int.le_of_lt hs) hc
    omega
theorem low_cop {t b : Int} (h : b ≠ 0) : Int.gcd (low t b).1 (low t b).2 = 1 := by
  have e : Int.gcd (sg t b * (low t b).1) (sg t b * (low t b).2) = (sg t b).natAbs * Int.gcd (low t b).1 (low t b).2 := Int.gcd_mul_left ..
  rw [low_top, low_bot, sg_abs] at e
  have g := gcd_pos (t := t) h
  have : Int.gcd t b * Int.gcd (low t b).1 (low t b).2 = Int.gcd t b * 1 := by omega
  exact Nat.eq_of_mul_eq_mul_left g this
theorem low_id {t b : Int} (hb : 0 < b) (h : Int.gcd t b = 1) : low t b = (t, b) := by
  have e : sg t b = 1 := by unfold sg; rw [if_neg (by omega), h]; rfl
  unfold low
  rw [e]
  simp
theorem low_low {t b : Int} (h : b ≠ 0) : low (low t b).1 (low t b).2 = low t b := low_id (low_pos h) (low_cop h)
/-- the bottom stays: nothing is taken out -/
theorem low_same {t b : Int} (hb : 0 < b) (h : (low t b).2 = b) : low t b = (t, b) := by
  have e := low_bot (t := t) (b := b)
  rw [h] at e
  have e1 : sg t b * b = 1 * b := by omega
  have e2 := Int.eq_of_mul_eq_mul_right (Int.ne_of_gt hb) e1
  have e3 := low_top (t := t) (b := b)
  rw [e2] at e3
  refine Prod.ext ?_ h
  show (low t b).1 = t
  omega
theorem dvd_le {x y : Int} (h : x * y ≠ 0) : y.natAbs ≤ (x * y).natAbs := by
  rw [Int.natAbs_mul]
  have : x ≠ 0 := fun z => h (by rw [z, Int.zero_mul])
  exact Nat.le_mul_of_pos_left _ (by omega)
theorem low_top_le {t b : Int} (h : b ≠ 0) : (low t b).1.natAbs ≤ t.natAbs := by
  by_cases ht : t = 0
  · subst ht
    have e := low_top (t := 0) (b := b)
    rcases Int.mul_eq_zero.mp e with z | z
    · exact absurd z (sg_ne h)
    · rw [z]; exact Nat.le_refl _
  · have e := low_top (t := t) (b := b)
    have := dvd_le (x := sg t b) (y := (low t b).1) (by omega)
    rw [e] at this
    exact this
theorem low_bot_le {t b : Int} (h : b ≠ 0) : (low t b).2.natAbs ≤ b.natAbs := by
  have e := low_bot (t := t) (b := b)
  have := dvd_le (x := sg t b) (y := (low t b).2) (by omega)
  rw [e] at this
  exact this
theorem sg_le {t b : Int} (h : b ≠ 0) : (sg t b).natAbs ≤ b.natAbs := by
  have e := low_bot (t := t) (b := b)
  have := dvd_le (x := (low t b).2) (y := sg t b) (by rw [Int.mul_comm]; omega)
  rw [Int.mul_comm, e] at this
  exact this
/-- Euclid's turn over whole numbers from 0 on -/
theorem gcd_turn {a b : Int} (ha : 0 ≤ a) (hb : 0 < b) : Int.gcd b (a % b) = Int.gcd a b := by
  obtain ⟨m, rfl⟩ := Int.eq_ofNat_of_zero_le ha
  obtain ⟨n, rfl⟩ := Int.eq_ofNat_of_zero_le (Int.le_of_lt hb)
  show Nat.gcd (Int.natAbs (n : Int)) (Int.natAbs ((m : Int) % (n : Int))) = Nat.gcd (Int.natAbs (m : Int)) (Int.natAbs (n : Int))
  rw [← Int.natCast_emod, Int.natAbs_natCast, Int.natAbs_natCast, Int.natAbs_natCast, Nat.gcd_comm n, Nat.gcd_comm m n]
  exact (Nat.gcd_rec n m).symm
theorem gcd_succ (a : Int) : Int.gcd a (a + 1) = 1 := by
  have : Int.gcd (a + 1) a = Int.gcd 1 a := by
    rw [Int.add_comm, Int.gcd_add_self_left]
  rw [Int.gcd_comm, this, Int.gcd_comm]
  simp
end KM
set_option Elab.async false
set_option linter.all false
set_option maxRecDepth 100000
set_option maxHeartbeats 4000000
namespace K38
open PySem PySem.Spec PyProof.Rows L2
/-- a def of the text -/
abbrev Dn (K : PySem.W.Frag) (d : He.DefD) (f : Addr) (fd : FuncData) : Prop := FunD K d.name d.qual d.params d.body d.scope (d.dvs K) (d.kws K) f fd
/-- what the module's names are -/
structure Bl (mg : Str → Option Value) : Prop where
  isi : mg "isinstance" = none
  int : mg "int" = none
  bool : mg "bool" = none
  abs : mg "abs" = none
  list : mg "list" = none
  range : mg "range" = none
  len : mg "len" = none
theorem op_fdW {X : Cx} : OpR X (binaryOp .FloorDiv) (rI (fun _ j => j ≠ 0 ∧ j.natAbs.log2 < 9000) fun i j => .int (i.fdiv j)) := opI fun _ _ _ _ _ _ _ hc q => floordiv_int hc.1 q (.inl (PyProof.noPylong_of_log2 hc.2))
/-- the fields of a Share -/
def shF (q : Int × Int) : List (Str × V) := putF "bottom" (.int q.2) (putF "top" (.int q.1) [])
theorem tb : ¬ (("top" : Str) = "bottom") := by decide +kernel
theorem shF_top (q : Int × Int) : (shF q).lookup ("top" : Str) = some (.int q.1) := by
  unfold shF
  rw [lookup_putF, if_neg tb, lookup_putF, if_pos rfl]
theorem shF_bot (q : Int × Int) : (shF q).lookup ("bottom" : Str) = some (.int q.2) := by
  unfold shF
  rw [lookup_putF, if_pos rfl]
theorem shF_no (q : Int × Int) {m : Str} (h1 : ¬ m = "bottom") (h2 : ¬ m = "top") : (shF q).lookup m = none := by
  unfold shF
  rw [lookup_putF, if_neg h1, lookup_putF, if_neg h2]
  all_goals rfl
/-- a Share stands at p -/
def Sh (C : Addr) (H : Hp) (p : Addr) (q : Int × Int) : Prop := ∃ dx, H p = some (.ins C dx (shF q))
/-- small enough, the bottom above nought -/
def Bd (n : Nat) (q : Int × Int) : Prop := q.1.natAbs < 2 ^ n ∧ 0 < q.2 ∧ q.2.natAbs < 2 ^ n
theorem Sh.keep {C : Addr} {H H' : Hp} {p : Addr} {q : Int × Int} (s : Same H H') (h : Sh C H p q) : Sh C H' p q := let ⟨dx, e⟩ := h; ⟨dx, s _ _ e⟩
theorem log_lt {j : Int} {n : Nat} (h : j.natAbs < 2 ^ n) (h0 : 0 < n) (h9 : n ≤ 9000) : j.natAbs.log2 < 9000 := Nat.lt_of_lt_of_le (PySem.Flt.log2_lt_of h0 h) h9
/-- what is known of the class -/
structure Cl (K : PySem.W.Frag) (mg : Str → Option Value) (C : Addr) : Prop where
  cl : Cls K C
  nt : NoAttr K C "top"
  nb : NoAttr K C "bottom"
  g : mg "Share" = some (.ref C)
section
variable {P : Program} {w : World} {K : PySem.W.Frag} {mg : Str → Option Value} {base : Heap} {f C : Addr} {fd : FuncData}

def spWhole : Sp := fun vs H Q _ => ∃ n : Int, vs = [.int n] ∧ Q (.bl true) H
theorem ok_whole (F : Dn K d_is_whole f fd) (b : Bl mg) : FnOk P w K mg base CX0 1 f fd ["thing"] spWhole := by
  refine F.ok sc_is_whole (fun vs H Q E h => ?_) (fun cdv A outer s H vs Q E hr h => ?_)
  · obtain ⟨n, rfl, _⟩ := h
    rfl
  · obtain ⟨n, rfl, hQ⟩ := h
    refine ⟨_, PSs.nox (pss_one (ps_ret (pe_and
      (pe_callB call_isi rfl b.isi boot_isinstance (pa_cons (pv 0) (pa_cons (pe_bltn (v := .ty "int") rfl b.int boot_int rfl) pa_nil)))
      (pe_one (pe_not (pe_callB call_isi rfl b.isi boot_isinstance (pa_cons (pv 0) (pa_cons (pe_bltn (v := .ty "bool") rfl b.bool boot_bool rfl) pa_nil)))))))), ?_⟩
    refine ⟨_, rfl, _, _, _, _, true, rfl, ClsV.ty _, TyX.base (TyOf.int n), kit_ty (by decide +kernel), true, rfl, ?_⟩
    refine iteT ?_
    exact ⟨_, rfl, _, _, _, _, false, rfl, ClsV.ty _, TyX.base (TyOf.int n), kit_ty (by decide +kernel), false, rfl, hQ⟩
def spGcd : Sp := fun vs H Q _ => ∃ x y : Int, vs = [.int x, .int y] ∧ Q (.int (Int.gcd x y : Int)) H
theorem abs_eq (x : Int) : (if x < 0 then -x else x) = (x.natAbs : Int) := by split <;> omega
theorem ok_gcd (F : Dn K d_common_part f fd) (b : Bl mg) : FnOk P w K mg base CX0 1 f fd ["one", "other"] spGcd := by
  refine F.ok sc_common_part (fun vs H Q E h => ?_) (fun cdv A outer s H vs Q E hr h => ?_)
  · obtain ⟨x, y, rfl, _⟩ := h
    rfl
  · obtain ⟨x, y, rfl, hQ⟩ := h
    refine ⟨_, PSs.nox (pss_cons (ps_set (i := 0) sc_common_part.nd rfl (.inl rfl) (pe_callB call_abs rfl b.abs boot_abs (pa_cons (pv 0) pa_nil)))
      (pss_cons (ps_set (i := 1) sc_common_part.nd rfl (.inl rfl) (pe_callB call_abs rfl b.abs boot_abs (pa_cons (pv 1) pa_nil)))
      (pss_cons (ps_while PassesOwn.never (pt_cmpR op_ne (pv 1) pe_int (nomark _)) (pss_one (ps_par (i := 0) (j := 1) rfl sc_common_part.nd rfl rfl (by decide) rfl rfl (pa_cons (pv 1) (pa_cons (pe_op op_mod (pv 0) (pv 1)) pa_nil)) rfl)))
      (pss_one (ps_ret (pv 0)))))), ?_⟩
    refine ⟨_, rfl, _, rfl, _, rfl, _, rfl, while_by (fun σ H2 => H2 = H ∧ ∃ a c : Int, σ = [some (.int a), some (.int c)] ∧ 0 ≤ a ∧ 0 ≤ c ∧ Int.gcd a c = Int.gcd x y)
      (fun σ _ => match σ with | [_, some (.int c)] => c.toNat | _ => 0) ⟨rfl, _, _, rfl, ?_, ?_, ?_⟩ ?_ ?_⟩
    · split <;> omega
    · split <;> omega
    · rw [abs_eq, abs_eq]
      rfl
    · rintro σ H2 ⟨rfl, a, c, rfl, ha, hc, hg⟩
      refine ⟨_, rfl, rfl, _, rfl, ?_⟩
      by_cases h0 : c = 0
      · subst h0
        refine iteNS rfl ?_
        refine ⟨_, rfl, ?_⟩
        have e : Int.gcd x y = a.natAbs := by rw [← hg]; simp
        have e2 : (Int.gcd x y : Int) = a := by omega
        rw [e2] at hQ
        exact hQ
      · have hne : (!decide (V.int c = V.int 0)) = true := by simp [h0]
        rw [hne]
        refine iteT ?_
        have hp : 0 < c := by omega
        refine ⟨_, rfl, _, rfl, _, rfl, _, _, rfl, rfl, hp, _, _, rfl, ⟨rfl, _, _, rfl, hc, Int.emod_nonneg _ h0, ?_⟩, ?_⟩
        · rw [KM.gcd_turn ha hp, hg]
        · show (a % c).toNat < c.toNat
          have h1 := Int.emod_nonneg a h0
          have h2 := Int.emod_lt_of_pos a hp
          omega
    · rintro σ H2 Q1 Q2 hm ⟨v, hv, h1, k, hk, q⟩
      exact ⟨v, hv, h1, k, hk, hm _ _ q⟩
end
end K38
set_option Elab.async false
set_option linter.all false
set_option maxRecDepth 100000
set_option maxHeartbeats 4000000
namespace K38
open PySem PySem.Spec PyProof.Rows L2
open C8 (Cal Mak Met pe_c pe_mk pe_mt pe_mt0)
section
variable {P : Program} {w : World} {K : PySem.W.Frag} {mg : Str → Option Value} {base : Heap} {f C : Addr} {fd : FuncData}
abbrev CalW (P : Program) (w : World) (K : PySem.W.Frag) (mg : Str → Option Value) (base : Heap) : Prop := Cal P w K mg base 1 "is_whole" spWhole []
abbrev CalG (P : Program) (w : World) (K : PySem.W.Frag) (mg : Str → Option Value) (base : Heap) : Prop := Cal P w K mg base 1 "common_part" spGcd []
/-- __init__: a Share in lowest terms -/
def spInit (C : Addr) : Sp := fun vs H Q _ => ∃ (p dx : Addr) (t b : Int) (n : Nat), vs = [.ref p, .int t, .int b] ∧ b ≠ 0 ∧ b.natAbs < 2 ^ n ∧ 0 < n ∧ n ≤ 9000 ∧ H p = some (.ins C dx []) ∧
  ∀ H', (∀ a o, a ≠ p → H a = some o → H' a = some o) → H' p = some (.ins C dx (shF (KM.low t b))) → Q .non H'
theorem ok_init (F : Dn K d_Share_init f fd) (cW : CalW P w K mg base) (cG : CalG P w K mg base) (T : Cl K mg C) : FnOk P w K mg base CX0 2 f fd ["self", "top", "bottom"] (spInit C) := by
  refine F.ok sc_Share_init (fun vs H Q E h => ?_) (fun cdv A outer s H vs Q E hr h => ?_)
  · obtain ⟨p, dx, t, b, n, rfl, _⟩ := h
    rfl
  · obtain ⟨p, dx, t, b, n, rfl, hb, hn, hn0, hn9, hp, hQ⟩ := h
    refine ⟨_, PSs.nox (pss_cons (ps_for PassesOwn.never rfl (pi_tup (pe_tup (pa_cons (pv 1) (pa_cons (pv 2) pa_nil)))) (pg_name (i := 3) sc_Share_init.nd rfl (.inl rfl))
        (pss_one (ps_if (pt_not (pt_val (pe_c cW hr (by decide) rfl (pa_cons (pv 3) pa_nil)))) pss_never pss_nil)))
      (pss_cons (ps_if (pt_cmpR op_eq (pv 2) pe_int (nomark _)) pss_never pss_nil)
      (pss_cons (ps_set (i := 4) sc_Share_init.nd rfl (.inl rfl) (pe_c cG hr (by decide) rfl (pa_cons (pv 1) (pa_cons (pv 2) pa_nil))))
      (pss_cons (ps_if (pt_cmpR op_lt (pv 2) pe_int (nomark _)) (pss_one (ps_set (i := 4) sc_Share_init.nd rfl (.inl rfl) (pe_un un_neg (pv 4)))) pss_nil)
      (pss_cons (ps_fld (pv 0) (pe_op op_fdW (pv 1) (pv 4)) rfl)
      (pss_one (ps_fld (pv 0) (pe_op op_fdW (pv 2) (pv 4)) rfl))))))), ?_⟩
    refine ⟨_, rfl, _, rfl, by show 2 ≤ sizeLine; decide, fun u hu => ?_⟩
    have npu : p ≠ u := ne_of_none hp hu
    refine ⟨u, rfl, ⟨_, SqT.of upd_same⟩, for_tup (K := K) (xs := [.int t, .int b]) (fun i σ H2 => H2 = upd H u (.tup [.int t, .int b]) ∧ ∃ v, σ = [some (.ref p), some (.int t), some (.int b), v, none])
      ⟨rfl, none, rfl⟩ (fun i σ H2 _ h => by rw [h.1]; exact SqT.of upd_same) ?_ ?_⟩
    · rintro i y σ H2 hi ⟨rfl, v, rfl⟩
      have hy : ∃ n : Int, y = .int n := by
        match i, hi with
        | 0, e => exact ⟨t, (Option.some.inj e).symm⟩
        | 1, e => exact ⟨b, (Option.some.inj e).symm⟩
      obtain ⟨n, rfl⟩ := hy
      refine ⟨_, rfl, n, rfl, true, rfl, ?_⟩
      refine iteF ?_
      exact ⟨rfl, _, rfl⟩
    · rintro σ H2 ⟨rfl, v, rfl⟩
      refine ⟨_, rfl, rfl, _, rfl, ?_⟩
      have hb0 : decide (V.int b = V.int 0) = false := by simp [hb]
      rw [hb0]
      refine iteF ?_
      refine ⟨_, rfl, _, rfl, t, b, rfl, ?_⟩
      refine ⟨_, rfl, _, _, rfl, rfl, _, rfl, ?_⟩
      have hs9 : (KM.sg t b).natAbs.log2 < 9000 := log_lt (Nat.lt_of_le_of_lt (KM.sg_le hb) hn) hn0 hn9
      have fin : ∀ c : Int, c = KM.sg t b → ∀ v, tSeq (sFld K (tVar 0) (tOp (rI (fun _ j => j ≠ 0 ∧ j.natAbs.log2 < 9000) fun i j => .int (i.fdiv j)) (tVar 1) (tVar 4)) "top") (sFld K (tVar 0) (tOp (rI (fun _ j => j ≠ 0 ∧ j.natAbs.log2 < 9000) fun i j => .int (i.fdiv j)) (tVar 2) (tVar 4)) "bottom")
          { nx := fun _ H' => Q .non H', rt := Q } [some (.ref p), some (.int t), some (.int b), v, some (.int c)] (upd H u (.tup [.int t, .int b])) := by
        rintro c rfl v
        refine ⟨_, rfl, _, rfl, _, _, rfl, rfl, ⟨KM.sg_ne hb, hs9⟩, _, rfl, p, C, dx, _, rfl, (by rw [upd_ne npu]; exact hp), T.cl, T.nt, (by show 0 < 1000; decide), ?_⟩
        refine ⟨_, rfl, _, rfl, _, _, rfl, rfl, ⟨KM.sg_ne hb, hs9⟩, _, rfl, p, C, dx, _, rfl, upd_same, T.cl, T.nb, (by show 1 < 1000; decide), ?_⟩
        refine hQ _ (fun a o ha e => ?_) upd_same
        rw [upd_ne ha, upd_ne ha, upd_ne (ne_of_none e hu)]
        exact e
      refine ite2 (fun h => ?_) (fun h => ?_)
      · have h' : b < 0 := of_decide_eq_true h
        refine ⟨_, rfl, _, rfl, ?_⟩
        exact fin _ (by unfold KM.sg; rw [if_pos h']) _
      · have h' : ¬ b < 0 := fun z => h (decide_eq_true z)
        exact fin _ (by unfold KM.sg; rw [if_neg h']) _
end
end K38
set_option Elab.async false
set_option linter.all false
set_option maxRecDepth 100000
set_option maxHeartbeats 4000000
namespace K38
open PySem PySem.Spec PyProof.Rows L2
open C8 (Cal Mak Met pe_c pe_mk pe_mt pe_mt0)
section
variable {P : Program} {w : World} {K : PySem.W.Frag} {mg : Str → Option Value} {base : Heap} {f C : Addr} {fd : FuncData}
abbrev MakS (P : Program) (w : World) (K : PySem.W.Frag) (mg : Str → Option Value) (base : Heap) (C : Addr) : Prop := Mak P w K mg base 2 "Share" C (spInit C) []
/-- Share(t, b): what is left to show -/
theorem mk_at {H1 : Hp} {t b : Int} {n : Nat} {Q : VK} (hb : b ≠ 0) (hn : b.natAbs < 2 ^ n) (hn0 : 0 < n) (hn9 : n ≤ 9000)
    (hQ : ∀ r H', Same H1 H' → H1 r = none → Sh C H' r (KM.low t b) → Q (.ref r) H') :
    ∀ x dx, H1 x = none → H1 dx = none → dx ≠ x → spInit C (.ref x :: ([V.int t, V.int b] ++ [])) (upd (upd H1 dx (.own x)) x (.ins C dx [])) (fun v H2 => v = .non ∧ Q (.ref x) H2) E0 := by
  intro x dx nx nd ne
  refine ⟨x, dx, t, b, n, rfl, hb, hn, hn0, hn9, upd_same, fun H' kp hp => ⟨rfl, hQ x H' (fun a o e => ?_) nx ⟨dx, hp⟩⟩⟩
  refine kp a o (ne_of_none e nx) ?_
  rw [upd_ne (ne_of_none e nx), upd_ne (ne_of_none e nd)]
  exact e
theorem mul_pos_ne {a b : Int} (ha : 0 < a) (hb : 0 < b) : a * b ≠ 0 := fun z => by
  have := Int.mul_pos ha hb
  omega
def two (n : Nat) (a b : Int × Int) : Prop := Bd n a ∧ Bd n b ∧ 0 < n ∧ n ≤ 4000

def sp_plus (C : Addr) : Sp := fun vs H Q _ => ∃ (p q : Addr) (a b : Int × Int) (n : Nat), vs = [.ref p, .ref q] ∧ Sh C H p a ∧ Sh C H q b ∧ two n a b ∧
  ∀ r H', Same H H' → H r = none → Sh C H' r (KM.low (a.1 * b.2 + b.1 * a.2) (a.2 * b.2)) → Q (.ref r) H'
theorem ok_plus (F : Dn K d_Share_plus f fd) (M : MakS P w K mg base C) (T : Cl K mg C) : FnOk P w K mg base CX0 4 f fd ["self", "other"] (sp_plus C) := by
  refine F.ok sc_Share_plus (fun vs H Q E h => ?_) (fun cdv A outer s H vs Q E hr h => ?_)
  · obtain ⟨p, q, a, b, n, rfl, _⟩ := h
    rfl
  · obtain ⟨p, q, a, b, n, rfl, ⟨dp, hp⟩, ⟨dq, hq⟩, ⟨ba, bb, hn0, hn9⟩, hQ⟩ := h
    refine ⟨_, PSs.nox (pss_one (ps_ret (pe_mk M hr (by decide) rfl (pa_cons (pe_op op_add (pe_op op_mulW (pe_fld (pv 0) rfl) (pe_fld (pv 1) rfl)) (pe_op op_mulW (pe_fld (pv 1) rfl) (pe_fld (pv 0) rfl)))
      (pa_cons (pe_op op_mulW (pe_fld (pv 0) rfl) (pe_fld (pv 1) rfl)) pa_nil))))), ?_⟩
    refine ⟨_, rfl, p, C, dp, _, _, rfl, hp, T.cl, T.nt, shF_top a, _, rfl, q, C, dq, _, _, rfl, hq, T.cl, T.nb, shF_bot b, _, _, rfl, rfl, wide_mul ba.1 bb.2.2 hn0 hn0 (by omega), ?_⟩
    refine ⟨_, rfl, q, C, dq, _, _, rfl, hq, T.cl, T.nt, shF_top b, _, rfl, p, C, dp, _, _, rfl, hp, T.cl, T.nb, shF_bot a, _, _, rfl, rfl, wide_mul bb.1 ba.2.2 hn0 hn0 (by omega), _, _, rfl, rfl, ?_⟩
    refine ⟨_, rfl, p, C, dp, _, _, rfl, hp, T.cl, T.nb, shF_bot a, _, rfl, q, C, dq, _, _, rfl, hq, T.cl, T.nb, shF_bot b, _, _, rfl, rfl, wide_mul ba.2.2 bb.2.2 hn0 hn0 (by omega), ?_⟩
    exact mk_at (n := n + n) (mul_pos_ne ba.2.1 bb.2.1) (wide_lt ba.2.2 bb.2.2) (by omega) (by omega) hQ

end
end K38
set_option Elab.async false
set_option linter.all false
set_option maxRecDepth 100000
set_option maxHeartbeats 4000000
namespace K38
open PySem PySem.Spec PyProof.Rows L2
open C8 (Cal Mak Met pe_c pe_mk pe_mt pe_mt0)
/-- the held dict's pairs -/
def hd0 (l : Addr) (n m : Int) : List (Key × V) := [(Sum.inr "cells", .ref l), (Sum.inr "at", .int n), (Sum.inr "left", .int m)]
theorem hd_cells (l : Addr) (n m : Int) : valV (hd0 l n m) (Sum.inr "cells") = some (.ref l) := valV_pos rfl
theorem k1 : ¬ (("cells" : Str) = "at") := by decide +kernel
theorem k2 : ¬ (("cells" : Str) = "left") := by decide +kernel
theorem k3 : ¬ (("at" : Str) = "left") := by decide +kernel
theorem k1' : ¬ (("at" : Str) = "cells") := by decide +kernel
theorem k3' : ¬ (("left" : Str) = "at") := by decide +kernel
theorem inr_ne {x y : Str} (h : ¬ x = y) : ¬ ((Sum.inr x : Key) = Sum.inr y) := fun z => h (Sum.inr.inj z)
theorem hd_at (l : Addr) (n m : Int) : valV (hd0 l n m) (Sum.inr "at") = some (.int n) := (valV_neg (inr_ne k1)).trans (valV_pos rfl)
theorem hd_left (l : Addr) (n m : Int) : valV (hd0 l n m) (Sum.inr "left") = some (.int m) := (valV_neg (inr_ne k2)).trans ((valV_neg (inr_ne k3)).trans (valV_pos rfl))
theorem put_at (l : Addr) (n m k : Int) : putK (hd0 l n m) (Sum.inr "at") (.int k) = hd0 l k m := by
  unfold putK hd0
  simp [k1, k3']
theorem put_left (l : Addr) (n m k : Int) : putK (hd0 l n m) (Sum.inr "left") (.int k) = hd0 l n k := by
  unfold putK hd0
  simp [k2, k3]
theorem hd_merge (l : Addr) (n m : Int) : mergeK [] (hd0 l n m) = hd0 l n m := by
  simp [mergeK, hd0, putK, k1, k2, k3]
/-- the held dict at h, good for c draws more -/
def Held (H : Hp) (h : Addr) (c : Nat) : Prop := ∃ (l : Addr) (ns : List Int) (n m : Int), H h = some (.dK (hd0 l n m)) ∧ H l = some (.lst (ns.map V.int)) ∧ 0 ≤ n ∧ n + c ≤ 1000000000
theorem Held.weak {H : Hp} {h : Addr} {c c' : Nat} (hc : c' ≤ c) (x : Held H h c) : Held H h c' := by
  obtain ⟨l, ns, n, m, h1, h2, h3, h4⟩ := x
  exact ⟨l, ns, n, m, h1, h2, h3, by omega⟩
/-- all but h is kept -/
def Kp (h : Addr) (H H' : Hp) : Prop := (∀ b o, H b = some o → b ≠ h → H' b = some o) ∧ ∀ l n m, H h = some (.dK (hd0 l n m)) → ∃ n' m', H' h = some (.dK (hd0 l n' m'))
theorem Kp.refl (h : Addr) (H : Hp) : Kp h H H := ⟨fun _ _ e _ => e, fun _ n m e => ⟨n, m, e⟩⟩
theorem Kp.trans {h : Addr} {H H1 H2 : Hp} (a : Kp h H H1) (b : Kp h H1 H2) : Kp h H H2 := ⟨fun c o e n => b.1 c o (a.1 c o e n) n, fun l n m e => let ⟨n', m', e'⟩ := a.2 l n m e; b.2 l n' m' e'⟩
theorem Kp.same {h : Addr} {H H1 : Hp} (a : Same H H1) : Kp h H H1 := ⟨fun c o e _ => a c o e, fun _ n m e => ⟨n, m, a _ _ e⟩⟩
theorem hd_inj {l l' : Addr} {n m n' m' : Int} (h : HO.dK (hd0 l n m) = HO.dK (hd0 l' n' m')) : l = l' := by
  injection h with h
  injection h with h _
  injection h with _ h
  injection h
/-- the held dict put anew -/
theorem Kp.put {h l : Addr} {H : Hp} {n m : Int} (n' m' : Int) (e : H h = some (.dK (hd0 l n m))) : Kp h H (upd H h (.dK (hd0 l n' m'))) := by
  refine ⟨fun c o z ne => by rw [upd_ne ne]; exact z, fun l' n1 m1 z => ⟨n', m', ?_⟩⟩
  rw [upd_same, hd_inj (Option.some.inj (z.symm.trans e))]
theorem Held.same {H H' : Hp} {h : Addr} {c : Nat} (s : Same H H') (x : Held H h c) : Held H' h c := by
  obtain ⟨l, ns, n, m, h1, h2, h3, h4⟩ := x
  exact ⟨l, ns, n, m, s _ _ h1, s _ _ h2, h3, h4⟩
theorem same_new {H : Hp} {p : Addr} {o : HO} (h : H p = none) : Same H (upd H p o) := fun a u e => by
  rw [upd_ne (ne_of_none e h)]
  exact e
theorem dpInts {K : PySem.W.Frag} {H : Hp} : ∀ ns : List Int, DpAll K H (ns.map V.int) (ns.map PyData.int)
  | [] => .nil
  | n :: ns => .cons (.int n) (dpInts ns)
section
variable {P : Program} {w : World} {K : PySem.W.Frag} {mg : Str → Option Value} {base : Heap} {f C : Addr} {fd : FuncData}
def spHeld (K : PySem.W.Frag) : Sp := fun vs H Q _ => ∃ (a : Addr) (ns : List Int), vs = [.ref a] ∧ SqL K H a (ns.map V.int) ∧ ns.length ≤ 63 ∧ ∀ h H', Same H H' → H h = none → Held H' h 900000000 → Q (.ref h) H'
theorem ok_held (F : Dn K d_l_held f fd) (b : Bl mg) : FnOk P w K mg base CX0 1 f fd ["_law_script"] (spHeld K) := by
  refine F.ok sc_l_held (fun vs H Q E h => ?_) (fun cdv A outer s H vs Q E hr h => ?_)
  · obtain ⟨a, ns, rfl, _⟩ := h
    rfl
  · obtain ⟨a, ns, rfl, hS, hlen, hQ⟩ := h
    refine ⟨_, PSs.nox (pss_one (ps_ret (pe_disp (pps_cons pe_str (pe_callTy call_list_of rfl b.list boot_list (pa_cons (pe_slice sl_list (pv 0) po_none (po_some pe_int)) pa_nil)) (pps_cons pe_str pe_int (pps_cons pe_str pe_int pps_nil))) rfl rfl (by simp) (by decide)))), ?_⟩
    intro h hh
    have sS : SqL K (upd H h (.dK [])) a (ns.map V.int) := (same_new hh).seq hS
    refine ⟨_, rfl, 63, rfl, a, _, rfl, sS, fun p hp => ⟨p, _, rfl, Or.inl (SqL.of upd_same), fun l hl => ?_⟩⟩
    have nhp : h ≠ p := ne_of_none upd_same hp
    have nhl : h ≠ l := ne_of_none (by rw [upd_ne nhp]; exact upd_same) hl
    refine ⟨by rw [upd_ne nhl, upd_ne nhp, upd_same], hd0 l 0 0, rfl, by show 3 ≤ 15; decide, ?_⟩
    have e : cutV (ns.map V.int) none (some 63) = (ns.take 63).map V.int := by
      unfold cutV
      simp [HT.sIx, List.map_take]
    refine hQ h _ (fun c o z => ?_) hh ⟨l, ns.take 63, 0, 0, ?_, ?_, by decide, by decide⟩
    · have z1 : c ≠ h := ne_of_none z hh
      have z2 : (upd H h (.dK [])) c = some o := by rw [upd_ne z1]; exact z
      have z3 : c ≠ p := ne_of_none z2 hp
      have z4 : c ≠ l := ne_of_none (by rw [upd_ne z3]; exact z2) hl
      rw [upd_ne z1, upd_ne z4, upd_ne z3]
      exact z2
    · rw [upd_same, hd_merge]
    · rw [upd_ne nhl.symm, upd_same, ← e]

def spDraw : Sp := fun vs H Q _ => ∃ (h : Addr) (c : Nat) (k : Int), vs = [.ref h, .int k] ∧ Held H h (c + 1) ∧ 0 < k ∧ k < 1073741824 ∧
  ∀ r H', 0 ≤ r → r < k → Held H' h c → Kp h H H' → Q (.int r) H'
theorem cb_l {i j : Int} (h1 : -(2 ^ 64) < i) (h2 : i < 2 ^ 64) : CMul i j := .inl ⟨h1, h2⟩
theorem cb_r {i j : Int} (h1 : -(2 ^ 64) < j) (h2 : j < 2 ^ 64) : CMul i j := .inr ⟨h1, h2⟩
theorem ok_draw (F : Dn K d_l_draw f fd) (b : Bl mg) : FnOk P w K mg base CX0 1 f fd ["_law_held_here", "_law_many"] spDraw := by
  refine F.ok sc_l_draw (fun vs H Q E h => ?_) (fun cdv A outer s H vs Q E hr h => ?_)
  · obtain ⟨h, c, k, rfl, _⟩ := h
    rfl
  · obtain ⟨h, c, k, rfl, ⟨l, ns, n, m, hh, hl, hn, hc⟩, hk0, hk1, hQ⟩ := h
    have hu := hu_of hr
    have hu64 : (A.deeper (envOfC d_l_draw.qual d_l_draw.scope s.heap.objs.size f cdv)).units + 64 < cLine := by have := hr.un; omega
    have nlh : l ≠ h := ne_of hl hh (by intro z; cases z)
    refine ⟨_, PSs.nox (pss_cons (ps_if (pt_cmpR op_gt (pe_dget hu (pv 0) pe_str (fun _ _ => rfl)) pe_int (nomark _))
         (pss_cons (ps_set (i := 2) sc_l_draw.nd rfl (.inl rfl) (pe_op op_mod (pe_dget hu (pv 0) pe_str (fun _ _ => rfl)) (pv 1)))
         (pss_cons (ps_dput hu (pv 0) pe_str (pe_op op_fdiv (pe_dget hu (pv 0) pe_str (fun _ _ => rfl)) (pv 1)) rfl)
         (pss_one (ps_ret (pv 2))))) pss_nil)
      (pss_cons (ps_set (i := 3) sc_l_draw.nd rfl (.inl rfl) (pe_dget hu (pv 0) pe_str (fun _ _ => rfl)))
      (pss_cons (ps_dput hu (pv 0) pe_str (pe_op op_add (pv 3) pe_int) rfl)
      (C8.pss_cut (ps_set (i := 4) sc_l_draw.nd rfl (.inl rfl) (pe_ifExp (pt_cmpR (op_neD hu64) (pe_dget hu (pv 0) pe_str (fun _ _ => rfl)) (pe_lst pa_nil) (nomark _))
        (pe_ix ix_list (pe_dget hu (pv 0) pe_str (fun _ _ => rfl)) (pe_op op_mod (pv 3) (pe_callB call_len_seq rfl b.len boot_len (pa_cons (pe_dget hu (pv 0) pe_str (fun _ _ => rfl)) pa_nil))) (fun _ _ => rfl)) pe_int))
      (pss_cons (ps_if (PW.pt (pw_and (pt_cmpR op_ge (pv 4) (pe_op op_pow pe_int pe_int) (nomark _)) (pw_and1 (pt_cmpR op_lt (pv 3) (pe_callB call_len_seq rfl b.len boot_len (pa_cons (pe_dget hu (pv 0) pe_str (fun _ _ => rfl)) pa_nil)) (nomark _)))))
         (pss_cons (ps_dput hu (pv 0) pe_str (pe_op op_fdiv (pe_op op_sub (pv 4) (pe_op op_pow pe_int pe_int)) (pv 1)) rfl)
         (pss_one (ps_ret (pe_op op_mod (pe_op op_sub (pv 4) (pe_op op_pow pe_int pe_int)) (pv 1))))) pss_nil)
      (pss_cons (ps_set (i := 5) sc_l_draw.nd rfl (.inl rfl) (pe_op op_mod (pe_op op_add (pe_op op_add (pe_op op_add (pe_op op_mul (pe_op op_mod (pv 4) pe_int) pe_int) (pe_op op_mul (pe_op op_mul pe_int (pv 3)) (pv 3))) (pe_op op_mul pe_int (pv 3))) pe_int) pe_int))
      (pss_cons (ps_set (i := 5) sc_l_draw.nd rfl (.inl rfl) (pe_op op_mod (pe_op op_add (pe_op op_add (pe_op op_mul (pv 5) pe_int) (pe_op op_fdiv (pv 5) pe_int)) pe_int) pe_int))
      (pss_one (ps_ret (pe_op op_mod (pe_op op_fdiv (pv 5) pe_int) (pv 1))))))))))), ?_⟩
    have cM : ∀ x y : Int, 0 < y → (0 ≤ x % y ∧ x % y < y) := fun x y hy => ⟨Int.emod_nonneg _ (by omega), Int.emod_lt_of_pos _ hy⟩
    refine ⟨_, rfl, h, _, rfl, hd_left l n m ▸ DGet.k (k := Sum.inr "left") hh, _, _, rfl, rfl, _, rfl, ?_⟩
    refine ite2 (fun h1 => ?_) (fun h1 => ?_)
    · refine ⟨_, rfl, h, _, rfl, hd_left l n m ▸ DGet.k (k := Sum.inr "left") hh, _, rfl, _, _, rfl, rfl, hk0, ?_⟩
      refine ⟨_, rfl, h, _, rfl, hd_left l n m ▸ DGet.k (k := Sum.inr "left") hh, _, rfl, _, _, rfl, rfl, ⟨hk0, hk1⟩, _, rfl, h, _, rfl, DPut.k (k := Sum.inr "left") hh (by show 3 < sizeLine; decide), ?_⟩
      refine ⟨_, rfl, hQ _ _ (cM _ _ hk0).1 (cM _ _ hk0).2 ⟨l, ns, n, m / k, ?_, ?_, hn, by omega⟩ ?_⟩
      · rw [upd_same, put_left]
      · rw [upd_ne nlh]; exact hl
      · rw [put_left]; exact Kp.put _ _ hh
    · refine ⟨_, rfl, h, _, rfl, hd_at l n m ▸ DGet.k (k := Sum.inr "at") hh, ?_⟩
      refine ⟨_, rfl, _, _, rfl, rfl, _, rfl, h, _, rfl, DPut.k (k := Sum.inr "at") hh (by show 3 < sizeLine; decide), ?_⟩
      rw [put_at]
      have hh1 : (upd H h (.dK (hd0 l (n + 1) m))) h = some (.dK (hd0 l (n + 1) m)) := upd_same
      have hl1 : (upd H h (.dK (hd0 l (n + 1) m))) l = some (.lst (ns.map V.int)) := by rw [upd_ne nlh]; exact hl
      have kp1 : Kp h H (upd H h (.dK (hd0 l (n + 1) m))) := Kp.put _ _ hh
      refine ⟨fun σ' H' => ∃ (cell : Int), σ' = [some (.ref h), some (.int k), none, some (.int n), some (.int cell), none] ∧ H' h = some (.dK (hd0 l (n + 1) m)) ∧ H' l = some (.lst (ns.map V.int)) ∧ Kp h H H', ?_, ?_⟩
      · refine ⟨_, rfl, h, _, rfl, hd_cells l (n + 1) m ▸ DGet.k (k := Sum.inr "cells") hh1, (by show 0 ≤ sizeLine; decide), fun e he => ?_⟩
        have nhe : h ≠ e := ne_of_none hh1 he
        have nle : l ≠ e := ne_of_none hl1 he
        have hh2 : (upd (upd H h (.dK (hd0 l (n + 1) m))) e (.lst [])) h = some (.dK (hd0 l (n + 1) m)) := by rw [upd_ne nhe]; exact hh1
        have hl2 : (upd (upd H h (.dK (hd0 l (n + 1) m))) e (.lst [])) l = some (.lst (ns.map V.int)) := by rw [upd_ne nle]; exact hl1
        have kp2 : Kp h H (upd (upd H h (.dK (hd0 l (n + 1) m))) e (.lst [])) := kp1.trans (Kp.same (same_new he))
        refine ⟨.list (ns.map .int), .list [], Dp.lst (SqL.of hl2) (dpInts ns), Dp.lst (SqL.of upd_same) .nil, PySem.W.ke_shaped_ints ns, by decide, _, rfl, ?_⟩
        cases ns with
        | nil => exact iteF ⟨0, rfl, hh2, hl2, kp2⟩
        | cons z zs =>
          refine iteT ?_
          have hlen : (0 : Int) < (((z :: zs).map V.int).length : Int) := by simp
          refine ⟨_, rfl, h, _, rfl, hd_cells l (n + 1) m ▸ DGet.k (k := Sum.inr "cells") hh2, _, rfl, _, rfl, h, _, rfl, hd_cells l (n + 1) m ▸ DGet.k (k := Sum.inr "cells") hh2, l, _, rfl, Or.inl (SqL.of hl2), _, _, rfl, rfl, hlen, ?_⟩
          obtain ⟨q, hq⟩ := Int.eq_ofNat_of_zero_le (cM n _ hlen).1
          have hq2 := (cM n _ hlen).2
          rw [hq] at hq2
          have hq3 : q < (z :: zs).length := by rw [List.length_map] at hq2; omega
          refine ⟨l, _, _, .int ((z :: zs)[q]), rfl, rfl, SqL.of hl2, (by rw [hq]; exact atI_nat (by rw [List.getElem?_map, List.getElem?_eq_getElem hq3]; rfl)), ?_⟩
          exact ⟨_, rfl, hh2, hl2, kp2⟩
      · rintro σ' H' ⟨cell, rfl, hh2, hl2, kp2⟩
        have stay : ∀ m', Held (upd H' h (.dK (hd0 l (n + 1) m'))) h c := fun m' => ⟨l, ns, n + 1, m', upd_same, by rw [upd_ne nlh]; exact hl2, by omega, by omega⟩
        have stay0 : Held H' h c := ⟨l, ns, n + 1, m, hh2, hl2, by omega, by omega⟩
        have last : ∀ D : Ends, D.rt = Q → tSeq (tAsg (tOp (rI (fun _ j => 0 < j) fun i j => .int (i % j)) (tOp (rI0 fun i j => .int (i + j)) (tOp (rI0 fun i j => .int (i + j)) (tOp (rI0 fun i j => .int (i + j))
            (tOp (rI CMul fun i j => .int (i * j)) (tOp (rI (fun _ j => 0 < j) fun i j => .int (i % j)) (tVar 4) (tC (.int 2147483587))) (tC (.int 40692))) (tOp (rI CMul fun i j => .int (i * j)) (tOp (rI CMul fun i j => .int (i * j)) (tC (.int 7907)) (tVar 3)) (tVar 3)))
            (tOp (rI CMul fun i j => .int (i * j)) (tC (.int 104729)) (tVar 3))) (tC (.int 17))) (tC (.int 2147483629))) (gName 5))
          (tSeq (tAsg (tOp (rI (fun _ j => 0 < j) fun i j => .int (i % j)) (tOp (rI0 fun i j => .int (i + j)) (tOp (rI0 fun i j => .int (i + j)) (tOp (rI CMul fun i j => .int (i * j)) (tVar 5) (tC (.int 48271))) (tOp (rI CDiv fun i j => .int (i / j)) (tVar 5) (tC (.int 127)))) (tC (.int 31))) (tC (.int 2147483647))) (gName 5))
          (tRet (tOp (rI (fun _ j => 0 < j) fun i j => .int (i % j)) (tOp (rI CDiv fun i j => .int (i / j)) (tVar 5) (tC (.int 89))) (tVar 1)))) D [some (.ref h), some (.int k), none, some (.int n), some (.int cell), none] H' := by
          intro D hD
          refine ⟨_, rfl, _, _, rfl, rfl, (by decide : (0 : Int) < 2147483587), _, _, rfl, rfl, cb_r (by decide) (by decide), _, rfl, _, _, rfl, rfl, cb_l (by decide) (by decide), _, rfl, _, _, rfl, rfl, cb_r (by omega) (by omega), _, _, rfl, rfl, ?_⟩
          refine ⟨_, rfl, _, _, rfl, rfl, cb_l (by decide) (by decide), _, _, rfl, rfl, _, _, rfl, rfl, _, _, rfl, rfl, (by decide : (0 : Int) < 2147483629), ?_⟩
          refine ⟨_, rfl, _, _, rfl, rfl, cb_r (by decide) (by decide), _, rfl, _, _, rfl, rfl, ⟨by decide, by decide⟩, _, _, rfl, rfl, _, _, rfl, rfl, _, _, rfl, rfl, (by decide : (0 : Int) < 2147483647), ?_⟩
          refine ⟨_, rfl, _, _, rfl, rfl, ⟨by decide, by decide⟩, _, rfl, _, _, rfl, rfl, hk0, ?_⟩
          rw [hD]
          exact hQ _ _ (cM _ _ hk0).1 (cM _ _ hk0).2 stay0 kp2
        refine ⟨_, rfl, _, _, rfl, rfl, ⟨by decide, by decide, by decide⟩, _, _, rfl, rfl, _, rfl, ?_⟩
        refine ite2 (fun g1 => ?_) (fun g1 => iteF (last _ rfl))
        refine ⟨_, rfl, _, rfl, h, _, rfl, hd_cells l (n + 1) m ▸ DGet.k (k := Sum.inr "cells") hh2, l, _, rfl, Or.inl (SqL.of hl2), _, _, rfl, rfl, _, rfl, ?_⟩
        refine ite2 (fun g2 => ?_) (fun g2 => last _ rfl)
        refine ⟨_, rfl, _, _, rfl, rfl, ⟨by decide, by decide, by decide⟩, _, _, rfl, rfl, _, rfl, _, _, rfl, rfl, ⟨hk0, hk1⟩, _, rfl, h, _, rfl, DPut.k (k := Sum.inr "left") hh2 (by show 3 < sizeLine; decide), ?_⟩
        refine ⟨_, rfl, _, _, rfl, rfl, ⟨by decide, by decide, by decide⟩, _, _, rfl, rfl, _, rfl, _, _, rfl, rfl, hk0, ?_⟩
        rw [put_left]
        refine hQ _ _ (cM _ _ hk0).1 (cM _ _ hk0).2 (stay _) (kp2.trans (Kp.put _ _ hh2))
end
end K38
set_option linter.all false
namespace KM
/-- top and bottom of a rational number -/
def pr (r : Rat) : Int × Int := (r.num, (r.den : Int))
theorem pr_inj {r s : Rat} (h : pr r = pr s) : r = s := by
  have h1 : r.num = s.num := congrArg Prod.fst h
  have h2 : (r.den : Int) = (s.den : Int) := congrArg Prod.snd h
  rw [← Rat.num_divInt_den r, ← Rat.num_divInt_den s, h1, h2]
theorem den_ne (r : Rat) : (r.den : Int) ≠ 0 := by
  have := r.den_nz
  omega
theorem den_pos (r : Rat) : 0 < (r.den : Int) := by
  have := r.den_nz
  omega
theorem low_eq {t b : Int} (h : b ≠ 0) : low t b = pr (Rat.divInt t b) := by
  have hp := low_pos (t := t) h
  have hc := low_cop (t := t) h
  obtain ⟨d, hd⟩ := Int.eq_ofNat_of_zero_le (Int.le_of_lt hp)
  have hd0 : d ≠ 0 := by
    intro z
    rw [z] at hd
    omega
  have hcop : (low t b).1.natAbs.Coprime d := by
    have : Int.gcd (low t b).1 (low t b).2 = 1 := hc
    rw [hd] at this
    exact this
  have e1 : Rat.divInt (low t b).1 (d : Int) = Rat.divInt t b := by
    rw [Rat.divInt_eq_divInt_iff (by omega) h, ← hd]
    have h1 := low_top (t := t) (b := b)
    have h2 := low_bot (t := t) (b := b)
    calc (low t b).1 * b = (low t b).1 * (sg t b * (low t b).2) := by rw [h2]
      _ = sg t b * (low t b).1 * (low t b).2 := by rw [← Int.mul_assoc, Int.mul_comm (low t b).1]
      _ = t * (low t b).2 := by rw [h1]
  have e2 : ({ num := (low t b).1, den := d, den_nz := hd0, reduced := hcop } : Rat) = Rat.divInt t b := by rw [Rat.mk_eq_divInt, e1]
  rw [← e2]
  exact Prod.ext rfl hd
theorem pr_plus (r s : Rat) : low ((pr r).1 * (pr s).2 + (pr s).1 * (pr r).2) ((pr r).2 * (pr s).2) = pr (r + s) := by
  show low (r.num * s.den + s.num * r.den) (r.den * s.den) = _
  rw [low_eq (Int.mul_ne_zero (den_ne r) (den_ne s)), ← Rat.divInt_add_divInt _ _ (den_ne r) (den_ne s), Rat.num_divInt_den, Rat.num_divInt_den]
theorem pr_less (r s : Rat) : low ((pr r).1 * (pr s).2 - (pr s).1 * (pr r).2) ((pr r).2 * (pr s).2) = pr (r - s) := by
  show low (r.num * s.den - s.num * r.den) (r.den * s.den) = _
  rw [low_eq (Int.mul_ne_zero (den_ne r) (den_ne s)), ← Rat.divInt_sub_divInt _ _ (den_ne r) (den_ne s), Rat.num_divInt_den, Rat.num_divInt_den]
theorem pr_times (r : Rat) (k : Int) : low ((pr r).1 * k) (pr r).2 = pr (r * (Rat.divInt k 1)) := by
  show low (r.num * k) r.den = _
  have e : Rat.divInt (r.num * k) (r.den : Int) = Rat.divInt r.num r.den * Rat.divInt k 1 := by rw [Rat.divInt_mul_divInt, Int.mul_one]
  rw [low_eq (den_ne r), e, Rat.num_divInt_den]
theorem pr_over (r : Rat) {k : Int} (h : k ≠ 0) : low (pr r).1 ((pr r).2 * k) = pr (r * (Rat.divInt 1 k)) := by
  show low r.num (r.den * k) = _
  have e : Rat.divInt r.num (r.den * k : Int) = Rat.divInt r.num r.den * Rat.divInt 1 k := by rw [Rat.divInt_mul_divInt, Int.mul_one]
  rw [low_eq (Int.mul_ne_zero (den_ne r) h), e, Rat.num_divInt_den]
theorem inv_k {k : Int} (h : k ≠ 0) : Rat.divInt k 1 * Rat.divInt 1 k = 1 := by
  rw [Rat.divInt_mul_divInt, Int.mul_one, Int.one_mul]
  exact Rat.divInt_self' h
theorem pr_lt (r s : Rat) : ((pr r).1 * (pr s).2 < (pr s).1 * (pr r).2) ↔ r < s := (Rat.lt_iff r s).symm
theorem pr_bot (r : Rat) : 0 < (pr r).2 := den_pos r
theorem add_back (r s : Rat) : r + s - s = r := by
  rw [Rat.sub_eq_add_neg, Rat.add_assoc, Rat.add_neg_cancel, Rat.add_zero]
theorem sub_back (r s : Rat) : r - s + s = r := by
  rw [Rat.sub_eq_add_neg, Rat.add_assoc, Rat.neg_add_cancel, Rat.add_zero]
theorem mul_back (r : Rat) {k : Int} (h : k ≠ 0) : r * Rat.divInt k 1 * Rat.divInt 1 k = r := by
  rw [Rat.mul_assoc, inv_k h, Rat.mul_one]
theorem div_back (r : Rat) {k : Int} (h : k ≠ 0) : r * Rat.divInt 1 k * Rat.divInt k 1 = r := by
  rw [Rat.mul_assoc, Rat.mul_comm (Rat.divInt 1 k), inv_k h, Rat.mul_one]
/-- small -/
def Sz (n : Nat) (r : Rat) : Prop := r.num.natAbs < 2 ^ n ∧ r.den < 2 ^ n
theorem Sz.mono {n m : Nat} {r : Rat} (h : Sz n r) (hm : n ≤ m) : Sz m r := ⟨Nat.lt_of_lt_of_le h.1 (Nat.pow_le_pow_right (by decide) hm), Nat.lt_of_lt_of_le h.2 (Nat.pow_le_pow_right (by decide) hm)⟩
theorem sz_of_low {t b : Int} {n : Nat} (hb : b ≠ 0) (h1 : t.natAbs < 2 ^ n) (h2 : b.natAbs < 2 ^ n) : Sz n (Rat.divInt t b) := by
  have e := low_eq (t := t) hb
  have e1 : (low t b).1 = (Rat.divInt t b).num := congrArg Prod.fst e
  have e2 : (low t b).2 = ((Rat.divInt t b).den : Int) := congrArg Prod.snd e
  have l1 := low_top_le (t := t) hb
  have l2 := low_bot_le (t := t) hb
  constructor
  · rw [← e1]; omega
  · have : ((low t b).2).natAbs < 2 ^ n := by omega
    rw [e2] at this
    simpa using this
theorem two_lt {x y n m : Nat} (h1 : x < 2 ^ n) (h2 : y < 2 ^ m) : x * y < 2 ^ (n + m) := by
  rw [Nat.pow_add]
  exact Nat.mul_lt_mul'' h1 h2
theorem sz_sum {a b c d : Int} {n m : Nat} (h1 : a.natAbs < 2 ^ n) (h2 : d.natAbs < 2 ^ m) (h3 : c.natAbs < 2 ^ m) (h4 : b.natAbs < 2 ^ n) : (a * d + c * b).natAbs < 2 ^ (n + m + 1) ∧ (a * d - c * b).natAbs < 2 ^ (n + m + 1) := by
  have e1 : (a * d).natAbs < 2 ^ (n + m) := by rw [Int.natAbs_mul]; exact two_lt h1 h2
  have e2 : (c * b).natAbs < 2 ^ (n + m) := by rw [Int.natAbs_mul, Nat.add_comm]; exact two_lt h3 h4
  have e3 : 2 ^ (n + m + 1) = 2 * 2 ^ (n + m) := by rw [Nat.pow_succ, Nat.mul_comm]
  omega
theorem sz_plus {n m : Nat} {r s : Rat} (hr : Sz n r) (hs : Sz m s) : Sz (n + m + 1) (r + s) ∧ Sz (n + m + 1) (r - s) := by
  have d1 : ((r.den : Int)).natAbs < 2 ^ n := by simpa using hr.2
  have d2 : ((s.den : Int)).natAbs < 2 ^ m := by simpa using hs.2
  have hd : ((r.den : Int) * s.den).natAbs < 2 ^ (n + m + 1) := by
    have : ((r.den : Int) * s.den).natAbs < 2 ^ (n + m) := by rw [Int.natAbs_mul]; exact two_lt d1 d2
    exact Nat.lt_of_lt_of_le this (Nat.pow_le_pow_right (by decide) (by omega))
  have hn := sz_sum hr.1 d2 hs.1 d1
  have ne := Int.mul_ne_zero (den_ne r) (den_ne s)
  constructor
  · have := sz_of_low ne hn.1 hd
    rw [← Rat.divInt_add_divInt _ _ (den_ne r) (den_ne s), Rat.num_divInt_den, Rat.num_divInt_den] at this
    exact this
  · have := sz_of_low ne hn.2 hd
    rw [← Rat.divInt_sub_divInt _ _ (den_ne r) (den_ne s), Rat.num_divInt_den, Rat.num_divInt_den] at this
    exact this
theorem sz_times {n m : Nat} {r : Rat} {k : Int} (hr : Sz n r) (hk : k.natAbs < 2 ^ m) : Sz (n + m) (r * Rat.divInt k 1) := by
  have e : r * Rat.divInt k 1 = Rat.divInt (r.num * k) r.den := by
    have : Rat.divInt (r.num * k) (r.den : Int) = Rat.divInt r.num r.den * Rat.divInt k 1 := by rw [Rat.divInt_mul_divInt, Int.mul_one]
    rw [this, Rat.num_divInt_den]
  rw [e]
  refine sz_of_low (den_ne r) (by rw [Int.natAbs_mul]; exact two_lt hr.1 hk) ?_
  have d1 : ((r.den : Int)).natAbs < 2 ^ n := by simpa using hr.2
  exact Nat.lt_of_lt_of_le d1 (Nat.pow_le_pow_right (by decide) (by omega))
theorem sz_over {n m : Nat} {r : Rat} {k : Int} (hr : Sz n r) (h : k ≠ 0) (hk : k.natAbs < 2 ^ m) : Sz (n + m) (r * Rat.divInt 1 k) := by
  have e : r * Rat.divInt 1 k = Rat.divInt r.num (r.den * k) := by
    have : Rat.divInt r.num (r.den * k : Int) = Rat.divInt r.num r.den * Rat.divInt 1 k := by rw [Rat.divInt_mul_divInt, Int.mul_one]
    rw [this, Rat.num_divInt_den]
  rw [e]
  have d1 : ((r.den : Int)).natAbs < 2 ^ n := by simpa using hr.2
  refine sz_of_low (Int.mul_ne_zero (den_ne r) h) (Nat.lt_of_lt_of_le hr.1 (Nat.pow_le_pow_right (by decide) (by omega))) ?_
  rw [Int.natAbs_mul]
  exact two_lt d1 hk
end KM
set_option Elab.async false
set_option linter.all false
set_option maxRecDepth 100000
set_option maxHeartbeats 4000000
/-! KW: calls by keywords alone: f(k = v, ..), o.m(k = v, ..). -/
namespace KW
open PySem PySem.Spec PyProof.Rows L2
section
variable {X : Cx} {k j : Nat} {C f : Addr} {fd : FuncData} {ps ks : List Str} {sp : Sp} {x m : Str} {p pos apos : Pos} {o : Expr} {kws : List Keyword} {ta : TE} {tk : TA} {g : List Value → List Value → List Value} {gV : List V → List V → List V}
theorem pe_cK (F : FnOk X.prog X.w X.K X.mg X.base CX0 k f fd ps sp) (hr : Room k X.A) (hg : Gl X x) (hm : X.mg x = some (.ref f)) (hk : PySem.W.keepIn X.K (.ref f) = true) (hb : KBn X.K fd ps 0 ks g gV) (hkw : PK X kws tk)
    (hall : (backToKw pos (keywordEach kws X.env)).all (·.1.isSome) = true := by rfl) (hks : (backToKw pos (keywordEach kws X.env)).filterMap (·.1) = ks := by rfl) (hdb : (x == ("__debug__" : Str)) = false := by decide)
    (hpl : ((backTo pos (starEach [] X.env)).any (·.1) || (backToKw pos (keywordEach kws X.env)).any (·.1.isNone)) = false := by rfl) :
    PE X (.Call (.Name x p) [] kws pos) (fun σ H Q => tk σ H fun zs H1 => zs.length = ks.length ∧ sp (gV [] zs) H1 Q E0) := by
  refine ⟨fun pins s σ H Q I h => wpAny_Call_Name_kw (ld_glob I hg hm (PySem.W.callWith_KW0 (h₀ := X.base) I.ok.mod.kin hk hall ?_ hpl) hdb)⟩
  refine thn (hkw.run pos pins s σ H _ I h) fun ws s2 ⟨zs, H2, I2, rz, l2, q2⟩ => ⟨I2.kIn, ?_⟩
  rw [hks]
  exact run_fnN (us := []) (vs := []) F hr hb (fun _ _ _ _ _ _ _ h => False.elim h) I2 .nil rz rfl l2 q2
theorem pe_mtK {pl : Sem Bool} (he : PE X o ta) (c : Cls X.K C) (hm : Meth X.K C m f) (F : FnOk X.prog X.w X.K X.mg X.base CX0 k f fd ps sp) (hr : Room k X.A) (hb : KBn X.K fd ps 1 ks g gV) (hkw : PK X kws tk)
    (hall : (backToKw pos (keywordEach kws X.env)).all (·.1.isSome) = true := by rfl) (hks : (backToKw pos (keywordEach kws X.env)).filterMap (·.1) = ks := by rfl)
    (hpl : ((backTo pos (starEach [] X.env)).any (·.1) || (backToKw pos (keywordEach kws X.env)).any (·.1.isNone)) = false := by rfl)
    (ht : eval (.Call (.Attribute o m apos) [] kws pos) X.env = (do
      let ov ← eval o X.env
      standAt apos.atName
      let (f, first) ← holding [ov] (getMethod ov m pl)
      callWith pos f first (backTo pos (starEach [] X.env)) (backToKw pos (keywordEach kws X.env))) := by rfl) :
    PE X (.Call (.Attribute o m apos) [] kws pos) (fun σ H Q => ta σ H fun x H1 => ∃ a dx fs, x = .ref a ∧ H1 a = some (.ins C dx fs) ∧ fs.lookup m = none ∧ tk σ H1 fun zs H2 => zs.length = ks.length ∧ sp (gV [.ref a] zs) H2 Q E0) := by
  refine ⟨fun pins s σ H Q I h => ?_⟩
  refine PySem.W.methodCall_KW (pl := pl) (thn (he.run pins s σ H _ I h) fun u s1 ⟨x, H1, I1, rx, a, dx, fs, ex, ea, l, q⟩ => ?_) ht
  subst ex
  obtain rfl : u = Value.ref a := rx
  refine getmeth_ok I1 ea c hm l (PySem.W.callWith_KW0 (first := [.ref a]) (h₀ := X.base) I.ok.mod.kin hm.kp hall ?_ hpl)
  refine thn (hkw.run pos pins s1 σ H1 _ I1 q) fun ws s2 ⟨zs, H2, I2, rz, l2, q2⟩ => ⟨I2.kIn, ?_⟩
  rw [hks]
  exact run_fnN (us := [.ref a]) (vs := [.ref a]) F hr hb (fun _ _ _ _ _ _ _ h => False.elim h) I2 (.cons rfl .nil) rz rfl l2 q2
end
end KW
set_option Elab.async false
set_option linter.all false
set_option maxRecDepth 100000
set_option maxHeartbeats 4000000
namespace K38
open PySem PySem.Spec PyProof.Rows L2
open C8 (Cal Mak Met pe_c pe_mk pe_mt pe_mt0)
open KM (pr Sz)
/-- what isinstance asks of the class -/
structure IsC (K : PySem.W.Frag) (C : Addr) : Prop where
  ha : PySem.W.findIn K (.ref C) "__class__" = some (some (.builtin "object.__class__"))
  hn : PySem.W.specialIn K (.builtin "object.__class__") "__get__" = some (some (.builtin "getset_descriptor.__get__"))
  htk : PySem.W.takesIn K (.builtin "object.__class__") = some true
  hm : PySem.W.mroIn K C (.type "object") = some true
  kit : PySem.W.kitOne K (.ref C) (.ref C) = some true
theorem bd_of {n : Nat} {r : Rat} (h : Sz n r) : Bd n (pr r) := ⟨h.1, KM.den_pos r, by simpa [pr] using h.2⟩

section
variable {P : Program} {w : World} {K : PySem.W.Frag} {mg : Str → Option Value} {base : Heap} {f C : Addr} {fd : FuncData}
abbrev CalD (P : Program) (w : World) (K : PySem.W.Frag) (mg : Str → Option Value) (base : Heap) : Prop := Cal P w K mg base 1 "_law_draw" spDraw []
def tupP (q : Int × Int) : HO := .tup [.int q.1, .int q.2]
def spLow : Sp := fun vs H Q _ => ∃ (t b : Int) (n : Nat), vs = [.int t, .int b] ∧ b ≠ 0 ∧ b.natAbs < 2 ^ n ∧ 0 < n ∧ n ≤ 9000 ∧ ∀ r, H r = none → Q (.ref r) (upd H r (tupP (KM.low t b)))
theorem ok_low (F : Dn K d_l_low f fd) (b : Bl mg) : FnOk P w K mg base CX0 1 f fd ["_law_top", "_law_bottom"] spLow := by
  refine F.ok sc_l_low (fun vs H Q E h => ?_) (fun cdv A outer s H vs Q E hr h => ?_)
  · obtain ⟨t, b, n, rfl, _⟩ := h
    rfl
  · obtain ⟨x, y, n, rfl, hy, hn, hn0, hn9, hQ⟩ := h
    refine ⟨_, PSs.nox (pss_cons (ps_par (i := 2) (j := 3) rfl sc_l_low.nd rfl rfl (by decide) rfl rfl (pa_cons (pe_callB call_abs rfl b.abs boot_abs (pa_cons (pv 0) pa_nil)) (pa_cons (pe_callB call_abs rfl b.abs boot_abs (pa_cons (pv 1) pa_nil)) pa_nil)) rfl)
      (pss_cons (ps_while PassesOwn.never (pt_cmpR op_gt (pv 3) pe_int (nomark _)) (pss_one (ps_par (i := 2) (j := 3) rfl sc_l_low.nd rfl rfl (by decide) rfl rfl (pa_cons (pv 3) (pa_cons (pe_op op_mod (pv 2) (pv 3)) pa_nil)) rfl)))
      (C8.pss_cut (ps_if (pt_cmpR op_lt (pv 1) pe_int (nomark _)) (pss_one (ps_set (i := 2) sc_l_low.nd rfl (.inl rfl) (pe_op op_sub pe_int (pv 2)))) pss_nil)
      (pss_one (ps_ret (pe_tup (pa_cons (pe_op op_fdW (pv 0) (pv 2)) (pa_cons (pe_op op_fdW (pv 1) (pv 2)) pa_nil)))))))), ?_⟩
    refine ⟨_, rfl, _, rfl, _, rfl, _, rfl, _, _, rfl, while_by (fun σ H2 => H2 = H ∧ ∃ a c : Int, σ = [some (.int x), some (.int y), some (.int a), some (.int c)] ∧ 0 ≤ a ∧ 0 ≤ c ∧ Int.gcd a c = Int.gcd x y)
      (fun σ _ => match σ with | [_, _, _, some (.int c)] => c.toNat | _ => 0) ⟨rfl, _, _, rfl, ?_, ?_, ?_⟩ ?_ ?_⟩
    · split <;> omega
    · split <;> omega
    · rw [abs_eq, abs_eq]
      rfl
    · rintro σ H2 ⟨rfl, a, c, rfl, ha, hc, hg⟩
      refine ⟨_, rfl, _, _, rfl, rfl, _, rfl, ?_⟩
      refine ite2 (fun g => ?_) (fun g => ?_)
      · have hp : 0 < c := of_decide_eq_true g
        refine ⟨_, rfl, _, rfl, _, rfl, _, _, rfl, rfl, hp, _, _, rfl, ⟨rfl, _, _, rfl, hc, Int.emod_nonneg _ (by omega), ?_⟩, ?_⟩
        · rw [KM.gcd_turn ha hp, hg]
        · show (a % c).toNat < c.toNat
          have h1 := Int.emod_nonneg a (show c ≠ 0 by omega)
          have h2 := Int.emod_lt_of_pos a hp
          omega
      · have h0 : c = 0 := by
          have : ¬ 0 < c := fun z => g (decide_eq_true z)
          omega
        subst h0
        have e : Int.gcd x y = a.natAbs := by rw [← hg]; simp
        refine ⟨fun σ' H' => H' = H2 ∧ ∃ v, σ' = [some (.int x), some (.int y), some (.int (KM.sg x y)), v], ?_, ?_⟩
        · refine ⟨_, rfl, _, _, rfl, rfl, _, rfl, ?_⟩
          refine ite2 (fun g1 => ?_) (fun g1 => ?_)
          · refine ⟨_, rfl, _, _, rfl, rfl, rfl, some (.int 0), ?_⟩
            have e2 : KM.sg x y = 0 - a := by unfold KM.sg; rw [if_pos (of_decide_eq_true g1), e]; omega
            rw [e2]
            rfl
          · refine ⟨rfl, some (.int 0), ?_⟩
            have e2 : KM.sg x y = a := by unfold KM.sg; rw [if_neg (fun z => g1 (decide_eq_true z)), e]; omega
            rw [e2]
        · rintro σ' H' ⟨rfl, v, rfl⟩
          have hs9 : (KM.sg x y).natAbs.log2 < 9000 := log_lt (Nat.lt_of_le_of_lt (KM.sg_le hy) hn) hn0 hn9
          refine ⟨_, rfl, _, rfl, _, _, rfl, rfl, ⟨KM.sg_ne hy, hs9⟩, _, rfl, _, rfl, _, _, rfl, rfl, ⟨KM.sg_ne hy, hs9⟩, (by show 2 ≤ sizeLine; decide), fun r hr => hQ r hr⟩
    · rintro σ H2 Q1 Q2 hm ⟨v, hv, i, j, e1, e2, k, hk, q⟩
      exact ⟨v, hv, i, j, e1, e2, k, hk, hm _ _ q⟩
abbrev CalL (P : Program) (w : World) (K : PySem.W.Frag) (mg : Str → Option Value) (base : Heap) : Prop := Cal P w K mg base 1 "_law_low" spLow []
def spAdd : Sp := fun vs H Q _ => ∃ (p q : Addr) (a b : Int × Int) (n : Nat), vs = [.ref p, .ref q] ∧ H p = some (tupP a) ∧ H q = some (tupP b) ∧ two n a b ∧
  ∀ r, H r = none → Q (.ref r) (upd H r (tupP (KM.low (a.1 * b.2 + b.1 * a.2) (a.2 * b.2))))
theorem at0 {a b : V} : atI [a, b] 0 = some a := rfl
theorem at1 {a b : V} : atI [a, b] 1 = some b := rfl
theorem ok_add (F : Dn K d_l_add f fd) (cL : CalL P w K mg base) : FnOk P w K mg base CX0 2 f fd ["_law_one", "_law_other"] spAdd := by
  refine F.ok sc_l_add (fun vs H Q E h => ?_) (fun cdv A outer s H vs Q E hr h => ?_)
  · obtain ⟨p, q, a, b, n, rfl, _⟩ := h
    rfl
  · obtain ⟨p, q, a, b, n, rfl, hp, hq, ⟨ba, bb, hn0, hn9⟩, hQ⟩ := h
    refine ⟨_, PSs.nox (pss_one (ps_ret (pe_c cL hr (by decide) rfl (pa_cons (pe_op op_add (pe_op op_mulW (pe_ix ix_tup (pv 0) pe_int (fun _ _ => rfl)) (pe_ix ix_tup (pv 1) pe_int (fun _ _ => rfl))) (pe_op op_mulW (pe_ix ix_tup (pv 1) pe_int (fun _ _ => rfl)) (pe_ix ix_tup (pv 0) pe_int (fun _ _ => rfl))))
      (pa_cons (pe_op op_mulW (pe_ix ix_tup (pv 0) pe_int (fun _ _ => rfl)) (pe_ix ix_tup (pv 1) pe_int (fun _ _ => rfl))) pa_nil))))), ?_⟩
    refine ⟨_, rfl, p, _, _, _, rfl, rfl, SqT.of hp, at0, _, rfl, q, _, _, _, rfl, rfl, SqT.of hq, at1, _, _, rfl, rfl, wide_mul ba.1 bb.2.2 hn0 hn0 (by omega), ?_⟩
    refine ⟨_, rfl, q, _, _, _, rfl, rfl, SqT.of hq, at0, _, rfl, p, _, _, _, rfl, rfl, SqT.of hp, at1, _, _, rfl, rfl, wide_mul bb.1 ba.2.2 hn0 hn0 (by omega), _, _, rfl, rfl, ?_⟩
    refine ⟨_, rfl, p, _, _, _, rfl, rfl, SqT.of hp, at1, _, rfl, q, _, _, _, rfl, rfl, SqT.of hq, at1, _, _, rfl, rfl, wide_mul ba.2.2 bb.2.2 hn0 hn0 (by omega), ?_⟩
    exact ⟨_, _, n + n, rfl, mul_pos_ne ba.2.1 bb.2.1, wide_lt ba.2.2 bb.2.2, by omega, by omega, hQ⟩
def spPair (C : Addr) : Sp := fun vs H Q _ => ∃ (p : Addr) (q : Int × Int), vs = [.ref p] ∧ Sh C H p q ∧ ∀ r H', Same H H' → H r = none → H' r = some (tupP q) → Q (.ref r) H'
theorem ok_pair (F : Dn K d_l_pair f fd) (b : Bl mg) (T : Cl K mg C) (S : IsC K C) : FnOk P w K mg base CX0 1 f fd ["_law_share"] (spPair C) := by
  refine F.ok sc_l_pair (fun vs H Q E h => ?_) (fun cdv A outer s H vs Q E hr h => ?_)
  · obtain ⟨p, q, rfl, _⟩ := h
    rfl
  · obtain ⟨p, q, rfl, ⟨dp, hp⟩, hQ⟩ := h
    refine ⟨_, PSs.nox (pss_cons (ps_if (pt_not (pt_val (pe_callB call_isi rfl b.isi boot_isinstance (pa_cons (pv 0) (pa_cons (pe_glob (v := .ref C) rfl T.g rfl) pa_nil))))) pss_never pss_nil)
      (pss_cons (ps_for PassesOwn.never rfl (pi_tup (pe_tup (pa_cons (pe_fld (pv 0) rfl) (pa_cons (pe_fld (pv 0) rfl) pa_nil)))) (pg_name (i := 1) sc_l_pair.nd rfl (.inl rfl))
        (pss_one (ps_if (PW.pt (pw_or (pt_not (pt_val (pe_callB call_isi rfl b.isi boot_isinstance (pa_cons (pv 1) (pa_cons (pe_bltn (v := .ty "int") rfl b.int boot_int rfl) pa_nil)))))
          (pw_or1 (pt_val (pe_callB call_isi rfl b.isi boot_isinstance (pa_cons (pv 1) (pa_cons (pe_bltn (v := .ty "bool") rfl b.bool boot_bool rfl) pa_nil))))))) pss_never pss_nil)))
      (pss_one (ps_ret (pe_tup (pa_cons (pe_fld (pv 0) rfl) (pa_cons (pe_fld (pv 0) rfl) pa_nil))))))), ?_⟩
    refine ⟨_, rfl, _, _, _, _, true, rfl, ClsV.own C, TyX.base (TyOf.ins hp T.cl S.ha S.hn S.htk S.hm), S.kit, true, rfl, ?_⟩
    refine iteF ?_
    refine ⟨_, rfl, p, C, dp, _, _, rfl, hp, T.cl, T.nt, shF_top q, _, rfl, p, C, dp, _, _, rfl, hp, T.cl, T.nb, shF_bot q, by show 2 ≤ sizeLine; decide, fun u hu => ?_⟩
    have npu : p ≠ u := ne_of_none hp hu
    refine ⟨u, rfl, ⟨_, SqT.of upd_same⟩, for_tup (K := K) (xs := [.int q.1, .int q.2]) (fun i σ H2 => H2 = upd H u (.tup [.int q.1, .int q.2]) ∧ ∃ v, σ = [some (.ref p), v])
      ⟨rfl, none, rfl⟩ (fun i σ H2 _ h => by rw [h.1]; exact SqT.of upd_same) ?_ ?_⟩
    · rintro i y σ H2 hi ⟨rfl, v, rfl⟩
      have hy : ∃ n : Int, y = .int n := by
        match i, hi with
        | 0, e => exact ⟨_, (Option.some.inj e).symm⟩
        | 1, e => exact ⟨_, (Option.some.inj e).symm⟩
      obtain ⟨n, rfl⟩ := hy
      refine ⟨_, rfl, _, _, _, _, true, rfl, ClsV.ty _, TyX.base (TyOf.int n), kit_ty (by decide +kernel), true, rfl, ?_⟩
      refine iteF ?_
      refine ⟨_, rfl, _, _, _, _, false, rfl, ClsV.ty _, TyX.base (TyOf.int n), kit_ty (by decide +kernel), false, rfl, ?_⟩
      exact iteF ⟨rfl, _, rfl⟩
    · rintro σ H2 ⟨rfl, v, rfl⟩
      have hp2 : (upd H u (.tup [.int q.1, .int q.2])) p = some (.ins C dp (shF q)) := by rw [upd_ne npu]; exact hp
      refine ⟨_, rfl, p, C, dp, _, _, rfl, hp2, T.cl, T.nt, shF_top q, _, rfl, p, C, dp, _, _, rfl, hp2, T.cl, T.nb, shF_bot q, by show 2 ≤ sizeLine; decide, fun r hr => ?_⟩
      exact hQ r _ ((same_new hu).trans (same_new hr)) ((same_new hu).free hr) upd_same
/-- two Shares in, a Share out -/
def sp2 (C : Addr) (g : Rat → Rat → Rat) : Sp := fun vs H Q _ => ∃ (p q : Addr) (r s : Rat) (n : Nat), vs = [.ref p, .ref q] ∧ Sh C H p (pr r) ∧ Sh C H q (pr s) ∧ Sz n r ∧ Sz n s ∧ 0 < n ∧ n ≤ 4000 ∧
  ∀ t H', Same H H' → H t = none → Sh C H' t (pr (g r s)) → Q (.ref t) H'
theorem plusR {vs : List V} {H : Hp} {Q : VK} {E : XK} (h : sp2 C (· + ·) vs H Q E) : sp_plus C vs H Q E := by
  obtain ⟨p, q, r, s, n, e, hp, hq, sr, ss, n0, n9, k⟩ := h
  refine ⟨p, q, _, _, n, e, hp, hq, ⟨bd_of sr, bd_of ss, n0, n9⟩, fun t H' a b c => k t H' a b ?_⟩
  rw [KM.pr_plus] at c
  exact c
abbrev MakS1 (P : Program) (w : World) (K : PySem.W.Frag) (mg : Str → Option Value) (base : Heap) (C : Addr) : Prop := Mak P w K mg base 2 "Share" C (spInit C) [.int 1]
theorem mk_in {C x dx : Addr} {H1 : Hp} {t b : Int} {n : Nat} {Qv : VK} {E : XK} (nx : H1 x = none) (nd : H1 dx = none) (hb : b ≠ 0) (hn : b.natAbs < 2 ^ n) (hn0 : 0 < n) (hn9 : n ≤ 9000)
    (hQ : ∀ H', Same H1 H' → Sh C H' x (pr (Rat.divInt t b)) → Qv .non H') : spInit C [.ref x, .int t, .int b] (upd (upd H1 dx (.own x)) x (.ins C dx [])) Qv E := by
  refine ⟨x, dx, t, b, n, rfl, hb, hn, hn0, hn9, upd_same, fun H' kp hp => hQ H' (fun a o e => ?_) ⟨dx, KM.low_eq hb ▸ hp⟩⟩
  refine kp a o (ne_of_none e nx) ?_
  rw [upd_ne (ne_of_none e nx), upd_ne (ne_of_none e nd)]
  exact e
end
end K38
set_option Elab.async false
set_option linter.all false
set_option maxRecDepth 100000
set_option maxHeartbeats 4000000
namespace K38
open PySem PySem.Spec PyProof.Rows L2
open C8 (Cal Mak Met pe_c pe_mk pe_mt pe_mt0)
open KM (pr Sz)
section
variable {P : Program} {w : World} {K : PySem.W.Frag} {mg : Str → Option Value} {base : Heap} {f C CR : Addr} {fd : FuncData}
def spSEq (C : Addr) : Sp := fun vs H Q _ => ∃ (p q : Addr) (r s : Rat), vs = [.ref p, .ref q] ∧ Sh C H p (pr r) ∧ Sh C H q (pr s) ∧ Q (.bl (decide (r = s))) H
theorem ok_eq (F : Dn K d_Share_eq f fd) (b : Bl mg) (T : Cl K mg C) (S : IsC K C) : FnOk P w K mg base CX0 1 f fd ["self", "other"] (spSEq C) := by
  refine F.ok sc_Share_eq (fun vs H Q E h => ?_) (fun cdv A outer s H vs Q E hr h => ?_)
  · obtain ⟨p, q, r, s, rfl, _⟩ := h
    rfl
  · obtain ⟨p, q, r, t, rfl, ⟨dp, hp⟩, ⟨dq, hq⟩, hQ⟩ := h
    refine ⟨_, PSs.nox (pss_one (ps_ret (pe_and (pe_callB call_isi rfl b.isi boot_isinstance (pa_cons (pv 1) (pa_cons (pe_glob (v := .ref C) rfl T.g rfl) pa_nil)))
      (pe_and (pe_cmpR op_eq (pe_fld (pv 0) rfl) (pe_fld (pv 1) rfl) (nomark _)) (pe_one (pe_cmpR op_eq (pe_fld (pv 0) rfl) (pe_fld (pv 1) rfl) (nomark _))))))), ?_⟩
    refine ⟨_, rfl, _, _, _, _, true, rfl, ClsV.own C, TyX.base (TyOf.ins hq T.cl S.ha S.hn S.htk S.hm), S.kit, true, rfl, iteT ?_⟩
    refine ⟨_, rfl, p, C, dp, _, _, rfl, hp, T.cl, T.nt, shF_top _, _, rfl, q, C, dq, _, _, rfl, hq, T.cl, T.nt, shF_top _, rfl, _, rfl, ?_⟩
    refine ite2 (fun h1 => ?_) (fun h1 => ?_)
    · have e1 : (pr r).1 = (pr t).1 := V.int.inj (of_decide_eq_true h1)
      refine ⟨_, rfl, p, C, dp, _, _, rfl, hp, T.cl, T.nb, shF_bot _, _, rfl, q, C, dq, _, _, rfl, hq, T.cl, T.nb, shF_bot _, rfl, ?_⟩
      have e : decide (V.int (pr r).2 = V.int (pr t).2) = decide (r = t) := by
        refine decide_eq_decide.mpr ⟨fun z => KM.pr_inj (Prod.ext e1 (V.int.inj z)), fun z => by rw [z]⟩
      rw [e]
      exact hQ
    · have e : decide (r = t) = false := decide_eq_false fun z => h1 (by rw [z]; simp)
      rw [e] at hQ
      exact hQ
def sumR (rs : List Rat) : Rat := rs.foldl (· + ·) 0
theorem fold_from (a : Rat) : ∀ rs : List Rat, rs.foldl (· + ·) a = a + sumR rs
  | [] => by show a = a + 0; rw [Rat.add_zero]
  | r :: rs => by
    show rs.foldl (· + ·) (a + r) = a + rs.foldl (· + ·) (0 + r)
    rw [fold_from (a + r) rs, fold_from (0 + r) rs, Rat.zero_add, Rat.add_assoc]
theorem sumR_app (xs ys : List Rat) : sumR (xs ++ ys) = sumR xs + sumR ys := by
  unfold sumR
  rw [List.foldl_append]
  exact fold_from _ ys
theorem sumR_cons (r : Rat) (rs : List Rat) : sumR (r :: rs) = r + sumR rs := by
  have := sumR_app [r] rs
  rw [List.singleton_append] at this
  rw [this]
  show (0 + r) + _ = _
  rw [Rat.zero_add]
theorem sz_sum {k : Nat} : ∀ {rs : List Rat}, (∀ r ∈ rs, Sz k r) → Sz (1 + (k + 1) * rs.length) (sumR rs) := by
  intro rs
  induction rs with
  | nil =>
    intro _
    refine ⟨Nat.two_pow_pos _, ?_⟩
    show 1 < 2 ^ (1 + (k + 1) * 0)
    simp
  | cons r rs ih =>
    intro h
    rw [sumR_cons]
    have h1 := h r (List.mem_cons_self ..)
    have h2 := ih fun x hx => h x (List.mem_cons_of_mem _ hx)
    refine (KM.sz_plus h1 h2).1.mono ?_
    rw [List.length_cons, Nat.mul_add]
    omega
def ShL (K : PySem.W.Frag) (C : Addr) (H : Hp) (l : Addr) (L : List (Addr × Rat)) : Prop := SqL K H l (L.map fun x => V.ref x.1) ∧ ∀ x ∈ L, Sh C H x.1 (pr x.2)
theorem ShL.keep {H H' : Hp} {l : Addr} {L : List (Addr × Rat)} (s : Same H H') (h : ShL K C H l L) : ShL K C H' l L := ⟨s.seq h.1, fun x hx => (h.2 x hx).keep s⟩
def ratsOf (L : List (Addr × Rat)) : List Rat := L.map (·.2)
def spTotal (K : PySem.W.Frag) (C : Addr) : Sp := fun vs H Q _ => ∃ (l : Addr) (L : List (Addr × Rat)), vs = [.ref l, .int 0] ∧ ShL K C H l L ∧ (∀ x ∈ L, Sz 12 x.2) ∧ L.length ≤ 256 ∧
  ∀ t H', Same H H' → H t = none → Sh C H' t (pr (sumR (ratsOf L))) → Q (.ref t) H'
theorem ok_total (F : Dn K d_total f fd) (M1 : MakS1 P w K mg base C) (mp : Met P w K mg base 4 C "plus" (sp2 C (· + ·)) []) : FnOk P w K mg base CX0 5 f fd ["shares", "start"] (spTotal K C) := by
  refine F.ok sc_total (fun vs H Q E h => ?_) (fun cdv A outer s H vs Q E hr h => ?_)
  · obtain ⟨l, L, rfl, _⟩ := h
    rfl
  · obtain ⟨l, L, rfl, hL, hS, hlen, hQ⟩ := h
    refine ⟨_, PSs.nox (pss_cons (ps_set (i := 2) sc_total.nd rfl (.inl rfl) (pe_mk M1 hr (by decide) rfl (pa_cons (pv 1) pa_nil)))
      (pss_cons (ps_for PassesOwn.never rfl (pi_list (pv 0)) (pg_name (i := 3) sc_total.nd rfl (.inl rfl))
        (pss_one (ps_set (i := 2) sc_total.nd rfl (.inl rfl) (pe_mt mp hr (by decide) (pv 2) (pa_cons (pv 3) pa_nil)))))
      (pss_one (ps_ret (pv 2))))), ?_⟩
    refine ⟨_, rfl, ?_⟩
    intro p pd np nd ne
    refine mk_in (n := 1) np nd (by decide) (by decide) (by decide) (by decide) fun H1 s1 hp => ⟨rfl, ?_⟩
    have z0 : Rat.divInt 0 1 = 0 := by rfl
    rw [z0] at hp
    refine ⟨_, rfl, l, rfl, ⟨_, s1.seq hL.1⟩, for_list (K := K) (xs := L.map fun x => V.ref x.1) (fun i σ H2 => ∃ (q : Addr) (v : Option V), σ = [some (.ref l), some (.int 0), some (.ref q), v] ∧ Same H H2 ∧ H q = none ∧ Sh C H2 q (pr (sumR (ratsOf (L.take i)))))
      ⟨p, none, rfl, s1, np, hp⟩ (fun i σ H2 _ z => by obtain ⟨q, v, _, s2, _⟩ := z; exact s2.seq hL.1) ?_ ?_⟩
    · rintro i y σ H2 hi ⟨q, v, rfl, s2, fq, hq⟩
      rw [List.getElem?_map] at hi
      cases hx : L[i]? with
      | none =>
        rw [hx] at hi
        cases hi
      | some x =>
        rw [hx] at hi
        cases (Option.some.inj hi : V.ref x.1 = y)
        have hm : x ∈ L := List.mem_of_getElem? hx
        have hil : i < L.length := (List.getElem?_eq_some_iff.mp hx).1
        have et : L.take (i + 1) = L.take i ++ [x] := by rw [List.take_add_one, hx]; rfl
        have szt : Sz 3600 (sumR (ratsOf (L.take i))) := by
          refine (sz_sum (k := 12) fun r hr => ?_).mono ?_
          · obtain ⟨x', hx', rfl⟩ := List.mem_map.mp hr
            exact hS x' (List.mem_of_mem_take hx')
          · unfold ratsOf
            rw [List.length_map, List.length_take]
            omega
        obtain ⟨dq, hq1⟩ := id hq
        refine ⟨_, rfl, q, dq, _, rfl, hq1, shF_no _ (by decide +kernel) (by decide +kernel), _, rfl, q, x.1, _, x.2, 3600, rfl, hq, (hL.2 x hm).keep s2, szt, (hS x hm).mono (by decide), by decide, by decide, fun t H3 s3 ft ht => ?_⟩
        refine ⟨t, _, rfl, s2.trans s3, s2.free ft, ?_⟩
        have er : sumR (ratsOf (L.take i)) + x.2 = sumR (ratsOf (L.take (i + 1))) := by
          rw [et]
          unfold ratsOf
          rw [List.map_append, sumR_app]
          show _ = _ + (0 + x.2)
          rw [Rat.zero_add]
        rw [← er]
        exact ht
    · rintro σ H2 ⟨q, v, rfl, s2, fq, hq⟩
      rw [List.length_map, List.take_length] at hq
      exact ⟨_, rfl, hQ q H2 s2 fq hq⟩
end
end K38
set_option Elab.async false
set_option linter.all false
set_option maxRecDepth 100000
set_option maxHeartbeats 4000000
/-! NM: the names that a law draws: words by a base, a place, a spot and a way. -/
namespace NM
open PySem PySem.Spec
def ok (l : List Nat) : Prop := 1 ≤ l.length ∧ l.length ≤ 8 ∧ ∀ c ∈ l, 97 ≤ c ∧ c ≤ 122
def words : List (List Nat) := [[108, 97, 116, 101], [105, 110], [111, 117, 116], [114, 105, 100, 101], [104, 97, 110, 100], [108, 97, 99, 107], [121, 101, 115], [110, 111], [110, 97, 109, 101, 115], [103, 111, 110, 101], [116, 101, 120, 116], [112, 108, 97, 110], [117, 110, 100, 111], [117, 115, 117, 97, 108], [98, 97, 99, 107], [108, 101, 97, 118, 101]]
def lets : List Nat := (List.range 26).map (97 + ·)
def w0 (bs : List Nat) (at_ spot k : Nat) : List Nat := bs.take at_ ++ [97 + (spot + 5 * k) % 26] ++ bs.drop (at_ + 1)
def w1 (bs : List Nat) (at_ spot k : Nat) : List Nat := (w0 bs at_ spot k).take (bs.length - k % (bs.length - at_))
def w2 (spot k : Nat) : List Nat := (List.replicate 8 (97 + (spot + k / 8) % 26)).take (k % 8 + 1)
def w3 (spot k : Nat) : List Nat := words.getD ((spot + k) % 16) []
def word (bs : List Nat) (at_ spot way k : Nat) : List Nat := if way = 1 then w1 bs at_ spot k else if way = 2 then w2 spot k else if way = 3 then w3 spot k else w0 bs at_ spot k
theorem words_ok : ∀ i, i < 16 → ok (words.getD i []) := by
  have : ∀ i : Fin 16, 1 ≤ (words.getD i.1 []).length ∧ (words.getD i.1 []).length ≤ 8 ∧ (words.getD i.1 []).all (fun c => decide (97 ≤ c ∧ c ≤ 122)) = true := by decide +kernel
  intro i hi
  obtain ⟨h1, h2, h3⟩ := this ⟨i, hi⟩
  refine ⟨h1, h2, fun c hc => ?_⟩
  have := List.all_eq_true.mp h3 c hc
  exact of_decide_eq_true this
theorem words_inj : ∀ i j, i < 16 → j < 16 → words.getD i [] = words.getD j [] → i = j := by
  have : ∀ i j : Fin 16, words.getD i.1 [] = words.getD j.1 [] → i = j := by decide +kernel
  intro i j hi hj e
  exact congrArg Fin.val (this ⟨i, hi⟩ ⟨j, hj⟩ e)
section
variable {bs : List Nat} {at_ spot k : Nat}
theorem w0_len (h : at_ < bs.length) : (w0 bs at_ spot k).length = bs.length := by
  unfold w0
  simp only [List.length_append, List.length_take, List.length_drop, List.length_cons, List.length_nil]
  omega
theorem w0_at (h : at_ < bs.length) : (w0 bs at_ spot k)[at_]? = some (97 + (spot + 5 * k) % 26) := by
  unfold w0
  rw [List.append_assoc, List.getElem?_append_right (by rw [List.length_take]; omega), List.length_take, Nat.min_eq_left (by omega), Nat.sub_self]
  rfl
theorem w0_mem (hb : ∀ c ∈ bs, 97 ≤ c ∧ c ≤ 122) : ∀ c ∈ w0 bs at_ spot k, 97 ≤ c ∧ c ≤ 122 := by
  intro c hc
  unfold w0 at hc
  rcases List.mem_append.mp hc with hc | hc
  · rcases List.mem_append.mp hc with hc | hc
    · exact hb c (List.mem_of_mem_take hc)
    · rw [List.mem_singleton] at hc
      omega
  · exact hb c (List.mem_of_mem_drop hc)
theorem w1_len (h : at_ < bs.length) : at_ + 1 ≤ (w1 bs at_ spot k).length ∧ (w1 bs at_ spot k).length ≤ bs.length := by
  unfold w1
  rw [List.length_take, w0_len h]
  have := Nat.mod_lt k (show 0 < bs.length - at_ by omega)
  omega
theorem w1_at (h : at_ < bs.length) : (w1 bs at_ spot k)[at_]? = some (97 + (spot + 5 * k) % 26) := by
  have h1 := (w1_len (spot := spot) (k := k) h).1
  unfold w1 at h1 ⊢
  rw [List.length_take, w0_len h] at h1
  rw [List.getElem?_take_of_lt (by omega)]
  exact w0_at h
theorem spot_inj {i j : Nat} (hi : i < 16) (hj : j < 16) (e : 97 + (spot + 5 * i) % 26 = 97 + (spot + 5 * j) % 26) : i = j := by omega
theorem word_ok (hb0 : 1 ≤ bs.length) (hb8 : bs.length ≤ 8) (hb : ∀ c ∈ bs, 97 ≤ c ∧ c ≤ 122) (h : at_ < bs.length) (way : Nat) : ok (word bs at_ spot way k) := by
  unfold word
  split
  · have := w1_len (spot := spot) (k := k) h
    exact ⟨by omega, by omega, fun c hc => w0_mem hb c (List.mem_of_mem_take hc)⟩
  split
  · unfold w2
    refine ⟨by rw [List.length_take, List.length_replicate]; omega, by rw [List.length_take, List.length_replicate]; omega, fun c hc => ?_⟩
    have := List.eq_of_mem_replicate (List.mem_of_mem_take hc)
    omega
  split
  · exact words_ok _ (Nat.mod_lt _ (by decide))
  · exact ⟨by rw [w0_len h]; exact hb0, by rw [w0_len h]; exact hb8, w0_mem hb⟩
theorem word_inj (h : at_ < bs.length) (way : Nat) {i j : Nat} (hi : i < 16) (hj : j < 16) (e : word bs at_ spot way i = word bs at_ spot way j) : i = j := by
  unfold word at e
  split at e
  · have h1 := w1_at (spot := spot) (k := i) h
    rw [e, w1_at h] at h1
    exact (spot_inj hj hi (Option.some.inj h1)).symm
  split at e
  · unfold w2 at e
    have hl := congrArg List.length e
    rw [List.length_take, List.length_take, List.length_replicate, List.length_replicate] at hl
    have h0 : ((List.replicate 8 (97 + (spot + i / 8) % 26)).take (i % 8 + 1))[0]? = ((List.replicate 8 (97 + (spot + j / 8) % 26)).take (j % 8 + 1))[0]? := by rw [e]
    rw [List.getElem?_take_of_lt (by omega), List.getElem?_take_of_lt (by omega), List.getElem?_replicate, List.getElem?_replicate, if_pos (by decide), if_pos (by decide)] at h0
    have := Option.some.inj h0
    omega
  split at e
  · have := words_inj _ _ (Nat.mod_lt _ (by decide)) (Nat.mod_lt _ (by decide)) e
    omega
  · have h1 := w0_at (spot := spot) (k := i) h
    rw [e, w0_at h] at h1
    exact (spot_inj hj hi (Option.some.inj h1)).symm
/-- as many as are asked: unlike ones -/
theorem all_unlike (h : at_ < bs.length) (way n : Nat) (hn : n ≤ 16) : ((List.range n).map (word bs at_ spot way)).Pairwise (· ≠ ·) := by
  rw [List.pairwise_map]
  refine (List.pairwise_lt_range (n := n)).imp_of_mem fun {a b} ha hb hlt e => ?_
  have := word_inj h way (by have := List.mem_range.mp ha; omega) (by have := List.mem_range.mp hb; omega) e
  omega
end
end NM
set_option Elab.async false
set_option linter.all false
set_option maxRecDepth 100000
set_option maxHeartbeats 4000000
/-! NH: the names that a law with a held dict draws. -/
namespace NH
open PySem PySem.Spec
def word (bs : List Nat) (at_ begin_ step lot k : Nat) : List Nat := bs.take at_ ++ [97 + (begin_ + step * k) % 26] ++ (bs.drop at_).take (if lot = 0 then 8 else k % (bs.length - at_ + 1))
def steps : List Nat := [1, 3, 5, 7, 9, 11, 15, 17]
section
variable {bs : List Nat} {at_ begin_ step lot k : Nat}
theorem word_at (h : at_ ≤ bs.length) : (word bs at_ begin_ step lot k)[at_]? = some (97 + (begin_ + step * k) % 26) := by
  unfold word
  rw [List.append_assoc, List.getElem?_append_right (by rw [List.length_take]; omega), List.length_take, Nat.min_eq_left h, Nat.sub_self]
  rfl
theorem step_inj {i j : Nat} (hs : step ∈ steps) (hi : i < 13) (hj : j < 13) (e : 97 + (begin_ + step * i) % 26 = 97 + (begin_ + step * j) % 26) : i = j := by
  simp only [steps, List.mem_cons, List.not_mem_nil, or_false] at hs
  rcases hs with rfl | rfl | rfl | rfl | rfl | rfl | rfl | rfl <;> omega
theorem word_inj (h : at_ ≤ bs.length) (hs : step ∈ steps) {i j : Nat} (hi : i < 13) (hj : j < 13) (e : word bs at_ begin_ step lot i = word bs at_ begin_ step lot j) : i = j := by
  have h1 := word_at (begin_ := begin_) (step := step) (lot := lot) (k := i) h
  rw [e, word_at h] at h1
  exact (step_inj hs hj hi (Option.some.inj h1)).symm
theorem word_ok (h8 : bs.length ≤ 7) (hb : ∀ c ∈ bs, 97 ≤ c ∧ c ≤ 122) (h : at_ ≤ bs.length) : NM.ok (word bs at_ begin_ step lot k) := by
  unfold word
  refine ⟨?_, ?_, fun c hc => ?_⟩
  · simp only [List.length_append, List.length_take, List.length_drop, List.length_cons, List.length_nil]
    omega
  · simp only [List.length_append, List.length_take, List.length_drop, List.length_cons, List.length_nil]
    omega
  · rcases List.mem_append.mp hc with hc | hc
    · rcases List.mem_append.mp hc with hc | hc
      · exact hb c (List.mem_of_mem_take hc)
      · rw [List.mem_singleton] at hc
        omega
    · exact hb c (List.mem_of_mem_drop (List.mem_of_mem_take hc))
theorem all_unlike (h : at_ ≤ bs.length) (hs : step ∈ steps) (n : Nat) (hn : n ≤ 13) : ((List.range n).map (word bs at_ begin_ step lot)).Pairwise (· ≠ ·) := by
  rw [List.pairwise_map]
  refine (List.pairwise_lt_range (n := n)).imp_of_mem fun {a b} ha hb hlt e => ?_
  have := word_inj h hs (by have := List.mem_range.mp ha; omega) (by have := List.mem_range.mp hb; omega) e
  omega
end
end NH
set_option Elab.async false
set_option linter.all false
set_option maxRecDepth 100000
set_option maxHeartbeats 4000000
namespace K38
open PySem PySem.Spec PyProof.Rows L2
open C8 (Cal Mak Met pe_c pe_mk pe_mt pe_mt0)
open SX (S)
theorem lets_S : (Str.ofString "abcdefghijklmnopqrstuvwxyz").cps.toList = NM.lets := by decide +kernel
theorem at_lets {x : Int} {j : Nat} (e : x = (j : Int)) (hj : j < 26) : atI (Str.ofString "abcdefghijklmnopqrstuvwxyz").cps.toList x = some (97 + j) := by
  rw [e, lets_S]
  refine atI_nat ?_
  unfold NM.lets
  rw [List.getElem?_map, List.getElem?_range hj]
  rfl
theorem cut_t {l : List Nat} {x : Int} {j : Nat} (e : x = (j : Int)) (h : j ≤ l.length) : cutS (S l) none (some x) = S (l.take j) := by
  rw [e]
  unfold cutS
  rw [HT.sIx_nat, HT.sIx_none, SX.S_len, Nat.min_eq_left h]
  simp [S]
theorem cut_m {l : List Nat} {x y : Int} {j m : Nat} (e : x = (j : Int)) (e2 : y = ((j + m : Nat) : Int)) (h : j ≤ l.length) : cutS (S l) (some x) (some y) = S ((l.drop j).take m) := by
  rw [e, e2]
  unfold cutS
  rw [HT.sIx_nat, HT.sIx_nat, SX.S_len, Nat.min_eq_left h]
  have e3 : (l.drop j).take (min (j + m) l.length - j) = (l.drop j).take m := by
    by_cases c : j + m ≤ l.length
    · rw [Nat.min_eq_left c, Nat.add_sub_cancel_left]
    · rw [Nat.min_eq_right (by omega), List.take_of_length_le (Nat.le_of_eq (List.length_drop ..)), List.take_of_length_le (by rw [List.length_drop]; omega)]
  simp [S, e3]
theorem ones : ∀ bs : List Nat, ((bs.map fun c => S [c]).map (·.length)).sum = bs.length
  | [] => rfl
  | b :: bs => by
    rw [List.map_cons, List.map_cons, List.sum_cons, ones bs, List.length_cons, SX.S_len]
    simp
    omega
theorem joined : ∀ bs : List Nat, TL.joinL [] (bs.map fun c => [c]) = bs
  | [] => rfl
  | [b] => rfl
  | b :: d :: bs => by
    have := joined (d :: bs)
    simp only [List.map_cons, TL.joinL] at this ⊢
    simp [this]
theorem Held.ne_new {H : Hp} {h u : Addr} {c : Nat} (x : Held H h c) (e : H u = none) : u ≠ h := by
  obtain ⟨l, ns, n, m, h1, _⟩ := x
  exact (ne_of_none h1 e).symm
/-- the held dict's cells aren't at D -/
def Cel (h D : Addr) (H : Hp) : Prop := ∃ la n m, H h = some (.dK (hd0 la n m)) ∧ la ≠ D ∧ h ≠ D
theorem Cel.kp {h D : Addr} {H H' : Hp} (x : Cel h D H) (k : Kp h H H') : Cel h D H' := by
  obtain ⟨la, n, m, e, n1, n2⟩ := x
  obtain ⟨n', m', e'⟩ := k.2 _ _ _ e
  exact ⟨la, n', m', e', n1, n2⟩
theorem Cel.of {h D : Addr} {H : Hp} {c : Nat} (x : Held H h c) (f : H D = none) : Cel h D H := by
  obtain ⟨la, ns, n, m, e1, e2, _⟩ := x
  exact ⟨la, n, m, e1, ne_of_none e2 f, ne_of_none e1 f⟩
theorem Cel.ne {h D : Addr} {H : Hp} (x : Cel h D H) : D ≠ h := by
  obtain ⟨_, _, _, _, _, n⟩ := x
  exact n.symm
theorem Held.put {h D : Addr} {H : Hp} {o : HO} {c : Nat} (x : Held H h c) (y : Cel h D H) : Held (upd H D o) h c := by
  obtain ⟨la, ns, n, m, e1, e2, e3⟩ := x
  obtain ⟨la', n', m', e', n1, n2⟩ := y
  cases hd_inj (Option.some.inj (e1.symm.trans e'))
  exact ⟨la, ns, n, m, by rw [upd_ne n2]; exact e1, by rw [upd_ne n1]; exact e2, e3⟩
theorem Cel.put {h D D' : Addr} {H : Hp} {o : HO} (x : Cel h D H) (n : h ≠ D') : Cel h D (upd H D' o) := by
  obtain ⟨la', n', m', e', n1, n2⟩ := x
  exact ⟨la', n', m', by rw [upd_ne n]; exact e', n1, n2⟩
theorem Kp.new {h st : Addr} {H1 H2 : Hp} {o : HO} (k : Kp h H1 H2) (f : H1 st = none) : Kp h H1 (upd H2 st o) :=
  ⟨fun b u e ne => by rw [upd_ne (ne_of_none e f)]; exact k.1 b u e ne, fun l n m e => by
    obtain ⟨n', m', e'⟩ := k.2 l n m e
    exact ⟨n', m', by rw [upd_ne (ne_of_none e f)]; exact e'⟩⟩
theorem pick {α : Type} (g : α → V) {L : List α} {i : Int} (i0 : 0 ≤ i) (i1 : i < (L.length : Int)) : ∃ x ∈ L, atI (L.map g) i = some (g x) := by
  obtain ⟨j, rfl⟩ := Int.eq_ofNat_of_zero_le i0
  have hj : j < L.length := by omega
  exact ⟨L[j], List.getElem_mem hj, atI_nat (j := j) (by rw [List.getElem?_map, List.getElem?_eq_getElem hj]; rfl)⟩
section
variable {P : Program} {w : World} {K : PySem.W.Frag} {mg : Str → Option Value} {base : Heap} {f C : Addr} {fd : FuncData}
def spNames : Sp := fun vs H Q _ => ∃ (h : Addr) (c n : Nat), vs = [.ref h, .int n] ∧ Held H h (c + 40) ∧ n ≤ 13 ∧
  ∀ (o : Addr) (zs : List (List Nat)) (H' : Hp), Held H' h c → Kp h H H' → H o = none → H' o = some (.lst (zs.map fun l => V.str (S l))) → zs.length = n → (∀ z ∈ zs, NM.ok z) → zs.Pairwise (· ≠ ·) → Q (.ref o) H'
theorem ok_names (F : Dn K d_l_names f fd) (bl : Bl mg) (cD : CalD P w K mg base) : FnOk P w K mg base CX0 2 f fd ["_law_held_here", "_law_many"] spNames := by
  refine F.ok sc_l_names (fun vs H Q E h => ?_) (fun cdv A outer s H vs Q E hr h => ?_)
  · obtain ⟨p, c, n, rfl, _⟩ := h
    rfl
  · obtain ⟨p, c, n, rfl, pen, hn, hQ⟩ := h
    refine ⟨_, PSs.nox (pss_cons (ps_set (i := 2) sc_l_names.nd rfl (.inr rfl) pe_str)
      (pss_cons (ps_set (i := 3) sc_l_names.nd rfl (.inl rfl) (pe_c cD hr (by decide) rfl (pa_cons (pv 0) (pa_cons pe_int pa_nil))))
      (C8.pss_cut (ps_set (i := 5) sc_l_names.nd rfl (.inl rfl) (pe_join pe_str (pe_lc (own := [("_law_k", 4)]) (g := gName 4) (tt := tYes) rfl sc_l_names.nd (pi_range1 rfl bl.range (pa_cons (pv 3) pa_nil)) (blkOk_by (N := N_l_names) (sc := defScope s_l_names) (by decide +kernel))
          (fun _ _ _ _ _ => pg_name (i := 4) sc_l_names.nd rfl (Or.inl rfl)) (fun _ _ _ _ _ => pts_nil) (fun _ _ _ _ _ => pe_ix ix_str (pv 2) (pe_c cD hr (by decide) rfl (pa_cons (pv 0) (pa_cons pe_int pa_nil))) (fun _ _ => rfl)))))
      (pss_cons (ps_par (i := 6) (j := 7) rfl sc_l_names.nd rfl rfl (by decide) rfl rfl (pa_cons (pe_c cD hr (by decide) rfl (pa_cons (pv 0) (pa_cons (pe_op op_add (pv 3) pe_int) pa_nil))) (pa_cons (pe_c cD hr (by decide) rfl (pa_cons (pv 0) (pa_cons pe_int pa_nil))) pa_nil)) rfl)
      (pss_cons (ps_par (i := 8) (j := 9) rfl sc_l_names.nd rfl rfl (by decide) rfl rfl (pa_cons (pe_ix ix_list (pe_lst (pa_cons pe_int (pa_cons pe_int (pa_cons pe_int (pa_cons pe_int (pa_cons pe_int (pa_cons pe_int (pa_cons pe_int (pa_cons pe_int pa_nil))))))))) (pe_c cD hr (by decide) rfl (pa_cons (pv 0) (pa_cons pe_int pa_nil))) (fun _ _ => rfl)) (pa_cons (pe_c cD hr (by decide) rfl (pa_cons (pv 0) (pa_cons pe_int pa_nil))) pa_nil)) rfl)
      (pss_cons (ps_set (i := 10) sc_l_names.nd rfl (.inl rfl) (pe_lst pa_nil))
      (pss_cons (ps_for PassesOwn.never rfl (pi_range1 rfl bl.range (pa_cons (pv 1) pa_nil)) (pg_name (i := 4) sc_l_names.nd rfl (.inl rfl))
        (C8.pss_cut (ps_set (i := 11) sc_l_names.nd rfl (.inl rfl) (pe_slice sl_str (pv 5) (po_some (pv 6)) (po_some (pe_op op_add (pv 6) (pe_ix ix_list (pe_lst (pa_cons pe_int (pa_cons (pe_op op_mod (pv 4) (pe_op op_add (pe_op op_sub (pv 3) (pv 6)) pe_int)) pa_nil))) (pv 9) (fun _ _ => rfl))))))
        (pss_one (ps_expr (pe_bm PySem.F.plainAttrs_list PySem.F.slot_list_append PySem.F.type_list_append mt_append (pv 10) (pa_cons (pe_op op_add_str (pe_op op_add_str (pe_slice sl_str (pv 5) po_none (po_some (pv 6))) (pe_ix ix_str (pv 2) (pe_op op_mod (pe_op op_add (pv 7) (pe_op op_mul (pv 8) (pv 4))) pe_int) (fun _ _ => rfl))) (pv 11)) pa_nil))))))
      (pss_one (ps_ret (pv 10)))))))))), ?_⟩
    -- the size
    refine ⟨_, rfl, p, c + 39, _, rfl, pen, by decide, by decide, fun z0 H2 a2 b2 pen2 k2 => ?_⟩
    obtain ⟨sz, rfl⟩ := Int.eq_ofNat_of_zero_le a2
    have sz7 : sz ≤ 7 := by omega
    -- the base
    refine ⟨fun σ' H' => ∃ bs : List Nat, σ' = [some (.ref p), some (.int n), some (.str (Str.ofString "abcdefghijklmnopqrstuvwxyz")), some (.int (sz : Int)), none, some (.str (S bs)), none, none, none, none, none, none] ∧ bs.length = sz ∧ (∀ c ∈ bs, 97 ≤ c ∧ c ≤ 122) ∧
      Held H' p (c + 30) ∧ Kp p H H', ?_, ?_⟩
    · refine ⟨⟨_, rfl⟩, _, rfl, _, rfl, by omega, by omega, ?_⟩
      rw [Int.toNat_natCast]
      intro D hD
      have offD := Cel.of pen2 hD
      have sD := same_new (o := .lst []) hD
      refine lc_range (n := sz) (fun i H3 => ∃ bs : List Nat, bs.length = i ∧ (∀ c ∈ bs, 97 ≤ c ∧ c ≤ 122) ∧ H3 D = some (.lst (bs.map fun c => V.str (S [c]))) ∧ Held H3 p (c + 39 - i) ∧ Kp p H2 H3 ∧ Cel p D H3) ?_ ?_ ?_
      · exact ⟨[], rfl, by simp, upd_same, pen2.same sD, Kp.same sD, offD.kp (Kp.same sD)⟩
      · rintro i H3 hi ⟨bs, hbl, hbc, hd, pen3, k3, off3⟩
        refine ⟨rfl, ?_⟩
        refine ⟨_, rfl, _, rfl, p, c + 39 - (i + 1), _, rfl, pen3.weak (by omega), by decide, by decide, fun r H4 r0 r1 pen4 k4 => ?_⟩
        obtain ⟨rn, rfl⟩ := Int.eq_ofNat_of_zero_le r0
        have hd4 := k4.1 _ _ hd off3.ne
        have off4 := off3.kp k4
        refine ⟨_, _, 97 + rn, rfl, rfl, by decide +kernel, at_lets rfl (by omega), _, hd4, ?_, bs ++ [97 + rn], by simp [hbl], ?_, ?_, pen4.put off4, (k3.trans k4).new hD, ?_⟩
        · rw [List.length_map, hbl]
          exact Nat.lt_of_lt_of_le (by omega : i < 64) (by decide)
        · intro c' hc'
          rcases List.mem_append.mp hc' with hc' | hc'
          · exact hbc c' hc'
          · rw [List.mem_singleton] at hc'
            omega
        · rw [upd_same]
          simp [S]
        · exact off4.put off4.ne.symm
      · rintro H3 ⟨bs, hbl, hbc, hd, pen3, k3, off3⟩
        have ey : (bs.map fun c => V.str (S [c])) = (bs.map fun c => S [c]).map V.str := by rw [List.map_map]; rfl
        refine ⟨_, D, bs.map fun c => S [c], rfl, rfl, .inl (by rw [← ey]; exact SqL.of hd), ?_, bs, ?_, hbl, hbc, pen3.weak (by omega), k2.trans k3⟩
        · rw [ones bs, List.length_map]
          have e2 : (Str.ofString "").length = 0 := by decide +kernel
          rw [e2, hbl]
          omega
        · have e3 : Txt.join (Str.ofString "") (bs.map fun c => S [c]) = S bs := by
            have e4 : Str.ofString "" = S [] := by decide +kernel
            have e5 : (bs.map fun c => S [c]) = (bs.map fun c => [c]).map S := by rw [List.map_map]; rfl
            rw [e4, e5, SX.join_S, joined]
          rw [e3]
          rfl
    clear pen pen2 k2
    rintro σ' H3 ⟨bs, rfl, hbl, hbc, pen3, k3⟩
    refine ⟨_, rfl, _, rfl, _, _, rfl, rfl, p, c + 29, _, rfl, pen3, by omega, by omega, fun at_ H4 a4 b4 pen4 k4 => ?_⟩
    refine ⟨_, rfl, p, c + 28, _, rfl, pen4, by decide, by decide, fun bg H5 a5 b5 pen5 k5 => ⟨_, _, rfl, ?_⟩⟩
    refine ⟨by show 8 ≤ sizeLine; decide, fun u fu => ?_⟩
    have su := same_new (o := .lst [.int 1, .int 3, .int 5, .int 7, .int 9, .int 11, .int 15, .int 17]) fu
    refine ⟨_, rfl, p, c + 27, 8, rfl, pen5.same su, by decide, by decide, fun q6 H6 a6 b6 pen6 k6 => ?_⟩
    have hu6 := k6.1 u _ upd_same (pen5.ne_new fu)
    obtain ⟨st, hst, est⟩ := pick (fun n : Nat => V.int (n : Int)) (L := NH.steps) a6 (by simpa [NH.steps] using b6)
    refine ⟨u, _, _, _, rfl, rfl, SqL.of hu6, est, ?_⟩
    refine ⟨_, rfl, p, c + 26, 2, rfl, pen6, by decide, by decide, fun lot H7 a7 b7 pen7 k7 => ⟨_, _, rfl, ?_⟩⟩
    obtain ⟨at_, rfl⟩ := Int.eq_ofNat_of_zero_le a4
    obtain ⟨bg, rfl⟩ := Int.eq_ofNat_of_zero_le a5
    obtain ⟨lot, rfl⟩ := Int.eq_ofNat_of_zero_le a7
    have hat : at_ ≤ bs.length := by omega
    have k07 := ((k3.trans k4).trans k5).trans (((Kp.same su).trans k6).trans k7)
    have st17 : st ≤ 17 := by
      simp only [NH.steps, List.mem_cons, List.not_mem_nil, or_false] at hst
      omega
    clear k3 k4 k5 k6 k7 su pen3 pen4 pen5 pen6
    refine ⟨by show 0 ≤ sizeLine; decide, fun o fo => ?_⟩
    have so := same_new (o := .lst []) fo
    refine ⟨_, rfl, _, rfl, by omega, by omega, ?_⟩
    rw [Int.toNat_natCast]
    have fo0 : H o = none := by
      cases e : H o with
      | none => rfl
      | some ob =>
        by_cases z : o = p
        · rw [z] at fo
          obtain ⟨l0, ns0, n0, m0, h0, _⟩ := pen7
          rw [h0] at fo
          cases fo
        · rw [k07.1 o ob e z] at fo
          cases fo
    refine for_range (n := n) (fun i σ H8 => ∃ (v4 v11 : Option V), σ = [some (.ref p), some (.int n), some (.str (Str.ofString "abcdefghijklmnopqrstuvwxyz")), some (.int (sz : Int)), v4, some (.str (S bs)), some (.int (at_ : Int)), some (.int (bg : Int)), some (.int (st : Int)), some (.int (lot : Int)), some (.ref o), v11] ∧
        H8 o = some (.lst (((List.range i).map (NH.word bs at_ bg st lot)).map fun l => V.str (S l))) ∧ Held H8 p c ∧ Kp p H H8 ∧ Cel p o H8)
      ⟨none, none, rfl, upd_same, (pen7.same so).weak (by omega), k07.trans (Kp.same so), (Cel.of pen7 fo).kp (Kp.same so)⟩ ?_ ?_
    · rintro i σ H8 hi ⟨v4, v11, rfl, ho8, pen8, k8, off8⟩
      have len0 : (S bs).length ≤ sizeLine := by rw [SX.S_len]; exact Nat.le_trans (by omega : bs.length ≤ 8) (by decide)
      have lets_len : (Str.ofString "abcdefghijklmnopqrstuvwxyz").length ≤ sizeLine := by decide +kernel
      obtain ⟨m, hm⟩ : ∃ m : Nat, (if lot = 0 then 8 else i % (bs.length - at_ + 1)) = m := ⟨_, rfl⟩
      refine ⟨fun σ' H' => σ' = [some (.ref p), some (.int n), some (.str (Str.ofString "abcdefghijklmnopqrstuvwxyz")), some (.int (sz : Int)), some (.int (0 + (i : Int))), some (.str (S bs)), some (.int (at_ : Int)), some (.int (bg : Int)), some (.int (st : Int)), some (.int (lot : Int)), some (.ref o), some (.str (S ((bs.drop at_).take m)))] ∧ Same H8 H', ?_, ?_⟩
      · refine ⟨_, rfl, _, rfl, _, rfl, _, rfl, _, rfl, _, rfl, _, rfl, _, _, rfl, rfl, _, _, rfl, rfl, _, _, rfl, rfl, by omega, by show 2 ≤ sizeLine; decide, fun u2 fu2 => ?_⟩
        have eix : atI [V.int 8, .int ((0 + (i : Int)) % ((sz : Int) - (at_ : Int) + 1))] (lot : Int) = some (.int (m : Nat)) := by
          rcases (show lot = 0 ∨ lot = 1 by omega) with rfl | rfl
          · rw [← hm]
            rfl
          · have h1 : ((sz : Int) - (at_ : Int) + 1) = ((bs.length - at_ + 1 : Nat) : Int) := by omega
            rw [h1, Int.zero_add, ← Int.natCast_emod, ← hm]
            rfl
        refine ⟨_, rfl, u2, _, _, _, rfl, rfl, SqL.of upd_same, eix, _, _, rfl, rfl, _, rfl, _, rfl, len0, ?_⟩
        rw [cut_m (j := at_) (m := m) rfl (by omega) hat]
        exact ⟨rfl, same_new fu2⟩
      · rintro σ' H9 ⟨rfl, s9⟩
        have ho9 := s9 _ _ ho8
        have e5 : ((bg : Int) + (st : Int) * (0 + (i : Int))) % 26 = (((bg + st * i) % 26 : Nat) : Int) := by
          rw [Int.zero_add, ← Int.natCast_mul, ← Int.natCast_add]
          exact (Int.natCast_emod _ 26).symm
        refine ⟨_, rfl, Or.inl ⟨rfl, _, SqL.of ho9⟩, _, rfl, _, rfl, _, rfl, _, rfl, len0, ?_⟩
        rw [cut_t rfl hat]
        refine ⟨_, rfl, _, rfl, _, rfl, _, rfl, _, _, rfl, rfl, cb_l (by omega) (by omega), _, _, rfl, rfl, _, _, rfl, rfl, (by decide : (0 : Int) < 26), _, _, _, rfl, rfl, lets_len, at_lets e5 (Nat.mod_lt _ (by decide)), _, _, rfl, rfl, ?_, ?_⟩
        · rw [SX.S_len, List.length_take]
          exact Nat.le_trans (by show min at_ bs.length + 1 ≤ 64; omega) (by decide)
        have ec : S (bs.take at_) ++ (⟨#[97 + (bg + st * i) % 26]⟩ : Str) = S (bs.take at_ ++ [97 + (bg + st * i) % 26]) := SX.S_cat _ _
        rw [ec]
        refine ⟨_, rfl, _, _, rfl, rfl, ?_, ?_⟩
        · rw [SX.S_len, SX.S_len, List.length_append, List.length_take, List.length_take, List.length_drop]
          exact Nat.le_trans (by show min at_ bs.length + 1 + min m (bs.length - at_) ≤ 64; omega) (by decide)
        rw [SX.S_cat]
        have ew : bs.take at_ ++ [97 + (bg + st * i) % 26] ++ (bs.drop at_).take m = NH.word bs at_ bg st lot i := by rw [← hm]; rfl
        rw [ew]
        refine ⟨o, _, _, rfl, rfl, ho9, ?_, _, _, rfl, ?_, (pen8.same s9).put (off8.kp (Kp.same s9)), (k8.trans (Kp.same s9)).new fo0, (off8.kp (Kp.same s9)).put off8.ne.symm⟩
        · rw [List.length_map, List.length_map, List.length_range]
          exact Nat.lt_of_lt_of_le (by omega : i < 64) (by decide)
        · rw [upd_same, List.range_succ, List.map_append, List.map_append]
          rfl
    · rintro σ H8 ⟨v4, v11, rfl, ho8, pen8, k8, off8⟩
      refine ⟨_, rfl, hQ o _ H8 pen8 k8 fo0 ho8 (by simp) (fun z hz => ?_) (NH.all_unlike hat hst n hn)⟩
      obtain ⟨k, _, rfl⟩ := List.mem_map.mp hz
      exact NH.word_ok (by omega) hbc hat
end
end K38
set_option Elab.async false
set_option linter.all false
set_option maxRecDepth 100000
set_option maxHeartbeats 4000000
namespace K38
open PySem PySem.Spec PyProof.Rows L2
open C8 (Cal Mak Met pe_c pe_mk pe_mt pe_mt0)
/-- a day: unlike names of the order -/
structure DayOk (xs R : List Str) : Prop where
  ne : R ≠ []
  nd : R.Nodup
  sub : ∀ y ∈ R, y ∈ xs
  ln : R.length ≤ xs.length
theorem map_eraseIdx' {α β : Type} {g : α → β} : ∀ {xs : List α} {q : Nat}, (xs.map g).eraseIdx q = (xs.eraseIdx q).map g
  | [], _ => rfl
  | _ :: _, 0 => rfl
  | x :: xs, q + 1 => by simp [map_eraseIdx' (xs := xs) (q := q)]
theorem perm_eraseIdx {α : Type} : ∀ {xs : List α} {q : Nat} (h : q < xs.length), xs.Perm (xs[q] :: xs.eraseIdx q)
  | x :: xs, 0, _ => by simp
  | x :: xs, q + 1, h => by
    have hq : q < xs.length := by simpa using h
    simp only [List.getElem_cons_succ, List.eraseIdx_cons_succ]
    exact ((perm_eraseIdx hq).cons x).trans (List.Perm.swap _ _ _)
theorem Kp.free {h t : Addr} {H H' : Hp} {c : Nat} (k : Kp h H H') (pn : Held H' h c) (f : H' t = none) : H t = none := by
  cases e : H t with
  | none => rfl
  | some o =>
    by_cases z : t = h
    · rw [z] at f
      obtain ⟨l, ns, n, m, h1, _⟩ := pn
      rw [h1] at f
      cases f
    · rw [k.1 t o e z] at f
      cases f
theorem Kp.tupS {K : PySem.W.Frag} {h t : Addr} {H H' : Hp} {c : Nat} {xs : List V} (k : Kp h H H') (x : Held H h c) (e : H t = some (.tup xs)) : H' t = some (.tup xs) := by
  obtain ⟨l, ns, n, m, h1, _⟩ := x
  exact k.1 t _ e (ne_of e h1 (by intro z; cases z))
section
variable {P : Program} {w : World} {K : PySem.W.Frag} {mg : Str → Option Value} {base : Heap} {f C : Addr} {fd : FuncData}
def spDay : Sp := fun vs H Q _ => ∃ (h ot : Addr) (c : Nat) (xs : List Str), vs = [.ref h, .ref ot] ∧ Held H h (c + 20) ∧ H ot = some (.tup (xs.map V.str)) ∧ xs ≠ [] ∧ xs.Nodup ∧ xs.length ≤ 13 ∧
  ∀ (o : Addr) (R : List Str) (H' : Hp), Held H' h c → Kp h H H' → H o = none → H' o = some (.lst (R.map V.str)) → DayOk xs R → Q (.ref o) H'
theorem ok_day (F : Dn K d_l_day f fd) (bl : Bl mg) (bmin : mg "min" = none) (cD : CalD P w K mg base) : FnOk P w K mg base CX0 2 f fd ["_law_held_here", "_law_order"] spDay := by
  refine F.ok sc_l_day (fun vs H Q E h => ?_) (fun cdv A outer s H vs Q E hr h => ?_)
  · obtain ⟨h, ot, c, xs, rfl, _⟩ := h
    rfl
  · obtain ⟨h, ot, c, xs, rfl, hld, hot, xne, xnd, xlen, hQ⟩ := h
    refine ⟨_, PSs.nox (pss_cons (ps_set (i := 2) sc_l_day.nd rfl (.inl rfl) (pe_op op_add pe_int (pe_c cD hr (by decide) rfl (pa_cons (pv 0) (pa_cons (pe_callB call_len_seq rfl bl.len boot_len (pa_cons (pv 1) pa_nil)) pa_nil)))))
      (C8.pss_cut (ps_if (PW.pt (pw_and (pt_cmpR op_eq (pv 2) pe_int (nomark _)) (pw_and1 (pt_cmpR op_gt (pe_c cD hr (by decide) rfl (pa_cons (pv 0) (pa_cons pe_int pa_nil))) pe_int (nomark _)))))
        (pss_one (ps_set (i := 2) sc_l_day.nd rfl (.inl rfl) (pe_callB (call_min2 rfl) rfl bmin boot_min (pa_cons pe_int (pa_cons (pe_callB call_len_seq rfl bl.len boot_len (pa_cons (pv 1) pa_nil)) pa_nil))))) pss_nil)
      (pss_cons (ps_par (i := 3) (j := 4) rfl sc_l_day.nd rfl rfl (by decide) rfl rfl (pa_cons (pe_callTy call_list_of rfl bl.list boot_list (pa_cons (pv 1) pa_nil)) (pa_cons (pe_lst pa_nil) pa_nil)) rfl)
      (pss_cons (ps_for PassesOwn.never rfl (pi_range1 rfl bl.range (pa_cons (pv 2) pa_nil)) (pg_name (i := 5) sc_l_day.nd rfl (.inl rfl))
        (pss_one (ps_expr (pe_bm PySem.F.plainAttrs_list PySem.F.slot_list_append PySem.F.type_list_append mt_append (pv 4) (pa_cons (pe_bm PySem.F.plainAttrs_list PySem.F.slot_list_pop PySem.F.type_list_pop mt_popAt (pv 3) (pa_cons (pe_c cD hr (by decide) rfl (pa_cons (pv 0) (pa_cons (pe_callB call_len_seq rfl bl.len boot_len (pa_cons (pv 3) pa_nil)) pa_nil))) pa_nil)) pa_nil)))))
      (pss_one (ps_ret (pv 4))))))), ?_⟩
    have xpos : 0 < xs.length := List.length_pos_iff.mpr xne
    refine ⟨_, rfl, _, rfl, ot, _, rfl, .inr (SqT.of hot), h, c + 19, _, rfl, hld, by rw [List.length_map]; omega, by rw [List.length_map]; omega, fun r1 H1 a1 b1 held1 k1 => ⟨_, _, rfl, rfl, ?_⟩⟩
    rw [List.length_map] at b1
    have hot1 := k1.tupS (K := K) hld hot
    refine ⟨fun σ' H' => ∃ m : Nat, σ' = [some (.ref h), some (.ref ot), some (.int (m : Nat)), none, none, none] ∧ 1 ≤ m ∧ m ≤ xs.length ∧ Held H' h (c + 18) ∧ Kp h H H', ?_, ?_⟩
    · refine ⟨_, rfl, rfl, _, rfl, ?_⟩
      obtain ⟨k, rfl⟩ : ∃ k : Nat, r1 = k := ⟨r1.toNat, by omega⟩
      obtain ⟨m, hm⟩ : ∃ m : Nat, m = 1 + k := ⟨_, rfl⟩
      have hv : (fun i j => V.int (i + j)) 1 (k : Int) = V.int (m : Int) := by
        show V.int (1 + (k : Int)) = V.int (m : Int)
        rw [hm]; congr 1
      rw [hv]
      refine ite2 (fun _ => ?_) (fun _ => iteF ⟨m, rfl, by omega, by omega, held1.weak (by omega), k1⟩)
      refine ⟨_, rfl, h, c + 18, 4, rfl, held1, by decide, by decide, fun r2 H2 a2 b2 held2 k2 => ⟨_, _, rfl, rfl, _, rfl, ?_⟩⟩
      have hot2 := k2.tupS (K := K) held1 hot1
      refine ite2 (fun _ => ?_) (fun _ => ⟨m, rfl, by omega, by omega, held2, k1.trans k2⟩)
      refine ⟨_, rfl, ot, _, rfl, .inr (SqT.of hot2), _, _, rfl, ?_⟩
      rw [List.length_map]
      obtain ⟨m2, hm2, h21, h22⟩ : ∃ m2 : Nat, (if (xs.length : Int) < 2 then (xs.length : Int) else 2) = m2 ∧ 1 ≤ m2 ∧ m2 ≤ xs.length := by
        by_cases z : xs.length < 2
        · exact ⟨xs.length, if_pos (by omega), xpos, Nat.le_refl _⟩
        · exact ⟨2, if_neg (by omega), by decide, by omega⟩
      rw [hm2]
      exact ⟨m2, rfl, h21, h22, held2, k1.trans k2⟩
    rintro σ' H2 ⟨m, rfl, m1, mn, held2, k2⟩
    have hot2 := k2.tupS (K := K) hld hot
    refine ⟨_, rfl, ot, _, rfl, .inr (SqT.of hot2), fun ll fll => ⟨by show 0 ≤ sizeLine; decide, fun o fo => ⟨_, _, rfl, ?_⟩⟩⟩
    have sl := same_new (o := .lst (xs.map V.str)) fll
    have so := same_new (o := .lst []) fo
    have nlo : ll ≠ o := ne_of_none upd_same fo
    have fo2 : H2 o = none := sl.free fo
    have k4 : Kp h H (upd (upd H2 ll (.lst (xs.map V.str))) o (.lst [])) := k2.trans (Kp.same (sl.trans so))
    have fl0 : H ll = none := k2.free held2 fll
    have fo0 : H o = none := k2.free held2 fo2
    refine ⟨_, rfl, _, rfl, by omega, by omega, ?_⟩
    rw [Int.toNat_natCast]
    refine for_range (n := m) (fun i σ H5 => ∃ (L R : List Str) (v5 : Option V), σ = [some (.ref h), some (.ref ot), some (.int (m : Nat)), some (.ref ll), some (.ref o), v5] ∧ H5 ll = some (.lst (L.map V.str)) ∧ H5 o = some (.lst (R.map V.str)) ∧ (R ++ L).Perm xs ∧ R.length = i ∧ Held H5 h (c + 18 - i) ∧ Kp h H H5 ∧ Cel h ll H5 ∧ Cel h o H5)
      ⟨xs, [], _, rfl, by rw [upd_ne nlo]; exact upd_same, upd_same, List.Perm.refl _, rfl, held2.same (sl.trans so), k4, (Cel.of held2 fll).kp (Kp.same (sl.trans so)), (Cel.of held2 fo2).kp (Kp.same (sl.trans so))⟩ ?_ ?_
    · rintro i σ H5 hi ⟨L, R, v5, rfl, hL, hR, pm, rl, held5, k5, cl5, co5⟩
      have lenL : L.length = xs.length - i := by
        have := pm.length_eq
        rw [List.length_append] at this
        omega
      refine ⟨_, rfl, Or.inl ⟨rfl, _, SqL.of hR⟩, _, rfl, Or.inl ⟨rfl, _, SqL.of hL⟩, _, rfl, _, rfl, ll, _, rfl, .inl (SqL.of hL), h, c + 18 - (i + 1), _, rfl, held5.weak (by omega), by rw [List.length_map]; omega, by rw [List.length_map]; omega, fun r H6 a6 b6 held6 k6 => ?_⟩
      rw [List.length_map] at b6
      obtain ⟨q, rfl⟩ := Int.eq_ofNat_of_zero_le a6
      have hq : q < L.length := by omega
      have hL6 := k6.1 _ _ hL cl5.ne
      have hR6 := k6.1 _ _ hR co5.ne
      have cl6 := cl5.kp k6
      have co6 := co5.kp k6
      refine ⟨ll, _, _, q, .str L[q], rfl, rfl, hL6, by omega, by omega, ?_, ?_, ?_⟩
      · rw [List.length_map]
        unfold seqIndex?
        have z : ¬ ((q : Int) < 0) := by omega
        simp [hq, z]
      · rw [List.getElem?_map, List.getElem?_eq_getElem hq]
        rfl
      have hR7 : (upd H6 ll (.lst ((L.map V.str).eraseIdx q))) o = some (.lst (R.map V.str)) := by rw [upd_ne nlo.symm]; exact hR6
      refine ⟨o, _, _, rfl, rfl, hR7, ?_, L.eraseIdx q, R ++ [L[q]], _, rfl, ?_, ?_, ?_, by simp [rl], (held6.put cl6).put (co6.put cl6.ne.symm), ((k5.trans k6).new fl0).new fo0, (cl6.put cl6.ne.symm).put co6.ne.symm, (co6.put cl6.ne.symm).put co6.ne.symm⟩
      · rw [List.length_map, rl]
        exact Nat.lt_of_lt_of_le (by omega : i < 64) (by decide)
      · rw [upd_ne nlo, upd_same, map_eraseIdx']
      · rw [upd_same, List.map_append]
        rfl
      · have e1 : L.Perm (L[q] :: L.eraseIdx q) := perm_eraseIdx hq
        rw [List.append_assoc]
        exact (List.Perm.append_left R e1.symm).trans pm
    · rintro σ H5 ⟨L, R, v5, rfl, hL, hR, pm, rl, held5, k5, cl5, co5⟩
      have nd := pm.nodup_iff.mpr xnd
      refine ⟨_, rfl, hQ o R H5 (held5.weak (by omega)) k5 fo0 hR ⟨fun z => ?_, (List.nodup_append.mp nd).1, fun y hy => pm.mem_iff.mp (List.mem_append_left _ hy), by omega⟩⟩
      rw [z] at rl
      simp at rl
      omega
end
end K38
set_option Elab.async false
set_option linter.all false
set_option maxRecDepth 100000
set_option maxHeartbeats 4000000
/-! ST: len(set(xs)) of unlike texts, xs a list or a tuple. -/
namespace ST
open PySem PySem.Spec PyProof.Rows
theorem not_yet {xs : List Str} (hn : xs.Nodup) {i : Nat} (h : i < xs.length) : ((xs.take i).any (· == xs.getD i Str.empty)) = false := by
  have e : xs.getD i Str.empty = xs[i] := by rw [List.getD_eq_getElem?_getD, List.getElem?_eq_getElem h]; rfl
  rw [e, List.any_eq_false]
  intro x hx z
  obtain ⟨j, hj, ej⟩ := List.getElem_of_mem hx
  have hji : j < i := by rw [List.length_take] at hj; omega
  rw [List.getElem_take] at ej
  exact List.pairwise_iff_getElem.mp hn j i (by omega) h hji (ej.trans (beq_iff_eq.mp z))
theorem one_more (xs : List Str) {i : Nat} (h : i < xs.length) (k : Str) : ((xs.take i).any (· == k) || decide (k = xs.getD i Str.empty)) = (xs.take (i + 1)).any (· == k) := by
  have e : xs.getD i Str.empty = xs[i] := by rw [List.getD_eq_getElem?_getD, List.getElem?_eq_getElem h]; rfl
  rw [e, List.take_add_one, List.getElem?_eq_getElem h, List.any_append]
  congr 1
  show decide (k = xs[i]) = [xs[i]].any (· == k)
  rw [List.any_cons, List.any_nil, Bool.or_false, Bool.eq_iff_iff, decide_eq_true_eq, beq_iff_eq]
  exact ⟨Eq.symm, Eq.symm⟩
section
variable {prog : Program} {w : World} {A : Around} {R : Result → Shared → Prop} {I S : Addr} {fp wr : List Addr} {G : Array GenState → Array GenState → Prop} {n : Nat} {P : Nat → Value → Prop} {St : Nat → Shared → Prop}
/-- the set of the first i of them stands at S -/
abbrev Has (prog : Program) (w : World) (S : Addr) (xs : List Str) (i : Nat) (h : Heap) : Prop := h.SetOf (PySem.strKind prog w) S (fun k => (xs.take i).any (· == k)) i
theorem Has.to {xs : List Str} {i : Nat} {h h' : Heap} (x : Has prog w S xs i h) (k : ∀ o, h.get? S = some o → h'.get? S = some o) : Has prog w S xs i h' := by
  obtain ⟨o, es, ep, t, ho, r⟩ := x
  exact ⟨o, es, ep, t, k o ho, r⟩
theorem walk (W : WalksS prog w A.in1 I fp wr G n P St) (hf : S ∉ fp) {xs : List Str} (hn : xs.Nodup) (hl : xs.length = n) (hb : n + 1 < scanBound) (hv : ∀ i v, P i v → ∃ t, v = .str (xs.getD i Str.empty) t) :
    ∀ (r i : Nat) (s : Shared), i + r = n → St i s → Has prog w S xs i s.heap → (∀ s', Moved (S :: wr) G s s' → Has prog w S xs n s'.heap → R (.ok (.ret .none)) s') →
      codeAny (model prog w) A (.builtin "set.update.loop" ⟨[.ref S, .ref I], []⟩) R s := by
  have nw : S ∉ wr := fun z => hf (W.sub _ z)
  have up : ∀ b ∈ wr, b ∈ S :: wr := fun b z => List.mem_cons_of_mem _ z
  intro r
  induction r with
  | zero =>
    intro i s e st hs fin
    cases (show i = n from e)
    refine codeAny_builtin PyProof.Rows.F.entry_set_update_loop ?_; rw [Around.under_plainId PyProof.Rows.F.plain_set_update_loop _]
    show wpAny _ A.in1 (pyNext (.ref I) >>= _) _ _ s; refine wpAny_bind (W.done s _ _ st fun s' m => ?_)
    exact wpAny_pure (fin s' (m.mono up) (hs.to fun o => m.heap S o nw))
  | succ r ih =>
    intro i s e st hs fin
    have li : i < n := by omega
    refine codeAny_builtin PyProof.Rows.F.entry_set_update_loop ?_; rw [Around.under_plainId PyProof.Rows.F.plain_set_update_loop _]
    show wpAny _ A.in1 (pyNext (.ref I) >>= _) _ _ s; refine wpAny_bind (W.item i s _ _ li st fun v s' pv st' m => ?_)
    obtain ⟨t, rfl⟩ := hv i v pv
    have hs' := hs.to fun o => m.heap S o nw
    show wpAny _ A.in1 (holding [Value.str (xs.getD i Str.empty) t] (setAdd S (.str (xs.getD i Str.empty) t)) >>= _) _ _ s'; refine wpAny_bind (wpAny_holding ?_)
    unfold setAdd
    refine wpAny_holding (wpAny_bind ((PySem.strKind prog w).pyHash (k := xs.getD i Str.empty) (strKind_is _ _ _ _) ?_))
    refine wpAny_setAddHashed_of (knd := PySem.strKind prog w) (s := { s' with toks := s'.toks + 1 }) (strKind_is _ _ _ _) rfl hs' (by omega) fun h' but h2 => ?_
    have hs2 : Has prog w S xs (i + 1) h' := SetOf_congr h2 (fun k => one_more xs (by omega) k) (by
      have z : (xs.take i).any (· == xs.getD i Str.empty) = false := not_yet hn (by omega)
      show (if (xs.take i).any (· == xs.getD i Str.empty) = true then i else i + 1) = i + 1
      rw [z]; rfl)
    refine wpAny_pure ⟨plainId_quiet PyProof.Rows.F.plain_set_update_loop _, ih (i + 1) _ (by omega) (W.frame _ s' _ _ st' (Nat.le_succ _) fun b hb o eo => ?_) hs2 fun s2 m2 h3 => ?_⟩
    · rw [but.2 b (fun z : b = S => hf (z ▸ hb))]
      exact eo
    · refine fin s2 (Moved.trans W.gtrans ((m.mono up).then_heap (Nat.le_succ _) fun b o hb eo => ?_) m2) h3
      rw [but.2 b (fun z : b = S => hb (z ▸ List.mem_cons_self))]
      exact eo
end
/-- a new set -/
abbrev fresh (led : Bool) : Obj := { cls := .type "set", dict := none, data := .set #[] 0 (.fresh 0 0 led) }
section
variable {prog : Program} {w : World} {A : Around} {E : Value → Shared → Prop} {s : Shared}
/-- how the call of set ends -/
abbrev EndOf (prog : Program) (w : World) (xs : List Str) (s : Shared) (s2 : Shared) : Prop := ∃ h' tk, s2 = { s with heap := h', toks := tk } ∧ Has prog w s.heap.objs.size xs xs.length h' ∧ ∀ b o, s.heap.get? b = some o → h'.get? b = some o
set_option maxHeartbeats 8000000 in
/-- set(xs), given what __init__ does with the new set -/
theorem call_by {l : Addr} {xs : List Str} {Q : Value → Shared → Prop}
    (hi : ∀ led : Bool, wpAny (model prog w) A.in1.in1 (Builtin.«set.__init__» ⟨[.ref s.heap.objs.size, .ref l], []⟩)
      (fun fin s' => match fin with | .done f => wants (fun r s₂ => r = .none ∧ EndOf prog w xs s s₂) E (.ok f) s' | .again c' => c'.quiet = true ∧ codeAny (model prog w) A.in1 c' (wants (fun r s₂ => r = .none ∧ EndOf prog w xs s s₂) E) s')
      (fun e s' => wants (fun r s₂ => r = .none ∧ EndOf prog w xs s s₂) E (.error e) s') { s with heap := s.heap.push (fresh led) })
    (h : ∀ s2, EndOf prog w xs s s2 → Q (.ref s.heap.objs.size) s2) : wpAny (model prog w) A (call (.type "set") [.ref l]) Q E s := by
  obtain ⟨c0, t0, mro0⟩ := PySem.F.called_set.mro
  have made0 := PySem.F.called_set.made; have sub0 := PySem.F.called_set.sub
  refine wpAny_call (codeAny_of_tree ?_); show wpAny _ _ (callAny (.type "set") _) _ _ _
  refine wpAny_pure ⟨Code.quiet_builtin _ (by decide +kernel), codeAny_builtin PySem.F.entry_type_call ?_⟩; rw [Around.under_plain (weight_type_call_type "set" [.ref l] []) rfl]
  have nt0 := PySem.F.called_set.notType; have cc0 := PySem.F.called_set.canCreate; have ct0 := PySem.F.typeCall_set_1 (.ref l)
  (repeat (any_goals (first | assumption | wp_step)))
  refine codeAny_mono (code_set_new_1 (.ref l) (E := E) (Q₁ := fun ob s1 => ∃ led : Bool, ob = .ref s.heap.objs.size ∧ s1 = { s with heap := s.heap.push (fresh led) }) fun led => ⟨led, rfl, rfl⟩) fun r s1 hr => ?_
  match r, hr with
  | .error e, hr => exact hr
  | .ok .next, hr => exact hr.elim
  | .ok .brk, hr => exact hr.elim
  | .ok .cont, hr => exact hr.elim
  | .ok (.ret ob), hr =>
    obtain ⟨led, rfl, rfl⟩ := hr
    have at0 : (s.heap.push (fresh led)).get? s.heap.objs.size = some (fresh led) := Heap.get?_push_size _ rfl
    have ty0 : Shared.TypeIs { s with heap := s.heap.push (fresh led) } (.ref s.heap.objs.size) "set" := ⟨_, at0, rfl⟩
    have lo0 := PySem.F.called_set.init.lookup; have bi0 := PySem.F.called_set.init.bind (.ref s.heap.objs.size)
    (repeat (any_goals (first | assumption | wp_step)))
    refine codeAny_mono (codeAny_call_builtin (R := wants (fun r s₂ => r = .none ∧ EndOf prog w xs s s₂) E) PySem.F.called_set.init.plain PySem.F.entry_set_init (check_set_init_1 ty0 (hi led))) fun r2 s2 hr2 => ?_
    match r2, hr2 with
    | .error e, hr2 => exact hr2
    | .ok .next, hr2 => exact hr2.elim
    | .ok .brk, hr2 => exact hr2.elim
    | .ok .cont, hr2 => exact hr2.elim
    | .ok (.ret v), hr2 =>
      obtain ⟨rfl, en⟩ := hr2
      have q := h s2 en
      obtain ⟨h', tk, rfl, h1, h2⟩ := en
      (repeat (any_goals (first | assumption | wp_step)))
set_option maxHeartbeats 8000000 in
theorem call_tup {l : Addr} {items : Array Value} {xs : List Str} {Q : Value → Shared → Prop} (hh : A.handled = none) (hl : s.heap.IsTuple l items) (hi : PyProof.Rows.StrsAre items.toList xs) (hn : xs.Nodup) (hb : xs.length + 1 < scanBound)
    (h : ∀ s2, EndOf prog w xs s s2 → Q (.ref s.heap.objs.size) s2) : wpAny (model prog w) A (call (.type "set") [.ref l]) Q E s := by
  refine call_by (xs := xs) (fun led => ?_) h
  obtain ⟨ol, ho, hc, nl, hd⟩ := hl
  obtain ⟨cl, dc, dt, sl⟩ := ol
  simp only at hc hd
  subst hc; subst hd
  have o1 : (s.heap.push (fresh led)).get? l = some { cls := .type "tuple", dict := dc, data := .seq items nl, slots := sl } := Heap.get?_push_of_some _ ho
  have l1 : (s.heap.push (fresh led)).IsTuple l items := ⟨_, o1, rfl, nl, rfl⟩
  have at0 : (s.heap.push (fresh led)).get? s.heap.objs.size = some (fresh led) := Heap.get?_push_size _ rfl
  have u1 := PySem.F.sub_tuple_set; have u2 := PySem.F.sub_tuple_frozenset; have u3 : (Value.type "tuple" == Value.type "dict") = false := by decide
  unfold Builtin.«set.__init__» noKeywords Builtin.Frozenset.updateFrom; generalize hp : pyIter = pit
  wp_walk
  subst hp
  refine wpAny_pyIter_tuple l1 (wpAny_bind (wpAny_runValue ?_))
  have ls : l < s.heap.objs.size := Heap.lt_size ho
  have h3 : A.in1.in1.in1.handled = none := by simp [hh]
  have ne1 : l ≠ (s.heap.push (fresh led)).objs.size := by rw [Heap.size_push]; exact Nat.ne_of_lt (Nat.lt_succ_of_lt ls)
  have nf : s.heap.objs.size ∉ [(s.heap.push (fresh led)).objs.size, l] := by
    rw [Heap.size_push]
    intro z
    simp only [List.mem_cons, List.not_mem_nil, or_false] at z
    rcases z with z | z
    · exact Nat.ne_of_lt (Nat.lt_succ_self _) z
    · exact Nat.ne_of_gt ls z
  have sz : xs.length = items.size := by rw [← StrsAre.len_eq hi, Array.length_toList]
  refine walk ((Walks.tuple h3 _ l ne1 items).toS) nf hn sz (by omega) (fun i v hv => SS.strs_at hi i v (by rw [Array.getElem?_toList]; exact hv)) items.size 0 _ (by omega) ⟨⟨_, Heap.get?_push_size _ rfl, rfl, rfl⟩, l1.push _⟩ ?_ ?_
  · exact PyProof.Rows.SetOf_congr ((PyProof.Rows.setObjOf_fresh (knd := PySem.strKind prog w) led).setOf (Heap.get?_push_of_some _ at0) (by unfold scanBound; omega)) (fun _ => rfl) rfl
  · intro s' hm hs'
    obtain ⟨h', g', d', tk', os'⟩ := s'
    cases (show g' = s.gens from hm.gens); cases (show d' = s.drawn from hm.drawn); cases (show os' = s.os from hm.os)
    show wpAny _ _ _ _ _ _
    refine wpAny_pure ?_
    show wpAny _ _ (ret Value.none) _ _ _
    refine wpAny_pure ⟨rfl, h', tk', rfl, by rw [sz]; exact hs', fun b o e => ?_⟩
    have lb : b < s.heap.objs.size := Heap.lt_size e
    refine hm.heap b o (fun z => ?_) (Heap.get?_push_of_some _ (Heap.get?_push_of_some _ e))
    rw [Heap.size_push] at z
    simp only [List.mem_cons, List.not_mem_nil, or_false] at z
    rcases z with z | z
    · exact Nat.ne_of_lt lb z
    · exact Nat.ne_of_lt (Nat.lt_succ_of_lt lb) z
set_option maxHeartbeats 8000000 in
theorem call_lst {l : Addr} {items : Array Value} {xs : List Str} {Q : Value → Shared → Prop} (hh : A.handled = none) (hl : s.heap.IsList l items) (hi : PyProof.Rows.StrsAre items.toList xs) (hn : xs.Nodup) (hb : xs.length + 1 < scanBound)
    (h : ∀ s2, EndOf prog w xs s s2 → Q (.ref s.heap.objs.size) s2) : wpAny (model prog w) A (call (.type "set") [.ref l]) Q E s := by
  refine call_by (xs := xs) (fun led => ?_) h
  obtain ⟨ol, ho, hc, nl, hd⟩ := hl
  obtain ⟨cl, dc, dt, sl⟩ := ol
  simp only at hc hd
  subst hc; subst hd
  have o1 : (s.heap.push (fresh led)).get? l = some { cls := .type "list", dict := dc, data := .seq items nl, slots := sl } := Heap.get?_push_of_some _ ho
  have l1 : (s.heap.push (fresh led)).IsList l items := ⟨_, o1, rfl, nl, rfl⟩
  have at0 : (s.heap.push (fresh led)).get? s.heap.objs.size = some (fresh led) := Heap.get?_push_size _ rfl
  have u1 := PySem.F.sub_list_set; have u2 := PySem.F.sub_list_frozenset; have u3 : (Value.type "list" == Value.type "dict") = false := by decide
  unfold Builtin.«set.__init__» noKeywords Builtin.Frozenset.updateFrom; generalize hp : pyIter = pit
  wp_walk
  subst hp
  refine wpAny_pyIter_list l1 (wpAny_bind (wpAny_runValue ?_))
  have ls : l < s.heap.objs.size := Heap.lt_size ho
  have h3 : A.in1.in1.in1.handled = none := by simp [hh]
  have ne1 : l ≠ (s.heap.push (fresh led)).objs.size := by rw [Heap.size_push]; exact Nat.ne_of_lt (Nat.lt_succ_of_lt ls)
  have nf : s.heap.objs.size ∉ [(s.heap.push (fresh led)).objs.size, l] := by
    rw [Heap.size_push]
    intro z
    simp only [List.mem_cons, List.not_mem_nil, or_false] at z
    rcases z with z | z
    · exact Nat.ne_of_lt (Nat.lt_succ_self _) z
    · exact Nat.ne_of_gt ls z
  have sz : xs.length = items.size := by rw [← StrsAre.len_eq hi, Array.length_toList]
  refine walk ((Walks.list h3 _ l ne1 items).toS) nf hn sz (by omega) (fun i v hv => SS.strs_at hi i v (by rw [Array.getElem?_toList]; exact hv)) items.size 0 _ (by omega) ⟨⟨_, Heap.get?_push_size _ rfl, rfl, rfl⟩, l1.push _⟩ ?_ ?_
  · exact PyProof.Rows.SetOf_congr ((PyProof.Rows.setObjOf_fresh (knd := PySem.strKind prog w) led).setOf (Heap.get?_push_of_some _ at0) (by unfold scanBound; omega)) (fun _ => rfl) rfl
  · intro s' hm hs'
    obtain ⟨h', g', d', tk', os'⟩ := s'
    cases (show g' = s.gens from hm.gens); cases (show d' = s.drawn from hm.drawn); cases (show os' = s.os from hm.os)
    show wpAny _ _ _ _ _ _
    refine wpAny_pure ?_
    show wpAny _ _ (ret Value.none) _ _ _
    refine wpAny_pure ⟨rfl, h', tk', rfl, by rw [sz]; exact hs', fun b o e => ?_⟩
    have lb : b < s.heap.objs.size := Heap.lt_size e
    refine hm.heap b o (fun z => ?_) (Heap.get?_push_of_some _ (Heap.get?_push_of_some _ e))
    rw [Heap.size_push] at z
    simp only [List.mem_cons, List.not_mem_nil, or_false] at z
    rcases z with z | z
    · exact Nat.ne_of_lt lb z
    · exact Nat.ne_of_lt (Nat.lt_succ_of_lt lb) z
end
end ST
namespace ST
open PySem PySem.Spec PyProof.Rows L2
section
variable {X : Cx}
/-- len(set(xs)): unlike texts -/
def tLenSet (K : PySem.W.Frag) (ta : TE) : TE := fun σ H Q => ta σ H fun x H1 => ∃ (l : Addr) (xs : List Str), x = .ref l ∧ (SqL K H1 l (xs.map V.str) ∨ SqT K H1 l (xs.map V.str)) ∧ xs.Nodup ∧ xs.length < 64 ∧ Q (.int xs.length) H1
theorem pe_lenSet {a : Expr} {ta : TE} {p p2 q pos : Pos} (hc : X.calm = true) (hg : Gl X "len") (hm : X.mg "len" = none) (hg2 : Gl X "set") (hm2 : X.mg "set" = none) (ha : PE X a ta)
    (na : starEach [a] X.env = (false, eval a X.env) :: starEach [] X.env := by rfl) : PE X (.Call (.Name "len" p) [.Call (.Name "set" p2) [a] [] q] [] pos) (tLenSet X.K ta) := by
  refine ⟨fun pins s σ H Q I h => Call_ (ld_blt I hg hm boot_len (PyProof.Rows.callWith_builtin1 (PyProof.Rows.args_cons (Call_ (ld_blt I hg2 hm2 boot_set ?_)) rfl) rfl rfl))⟩
  refine PyProof.Rows.callWith_type1 (PyProof.Rows.args_cons (thn (ha.run pins s σ H _ I h) fun v s1 ⟨x, H1, I1, r1, z1⟩ => PyProof.Rows.args_nil ?_) na) na rfl
  obtain ⟨l, xs, rfl, hs, hn, h6, q1⟩ := z1
  cases r1
  have sb : xs.length + 1 < scanBound := by unfold scanBound; omega
  have fin : ∀ s2, EndOf X.prog X.w xs s1 s2 → wpAny (model X.prog X.w) X.A (spliced (backTo pos (starEach [] X.env))) (fun vs s₂ => wpAny (model X.prog X.w) X.A (call (.builtin "len") (Value.ref s1.heap.objs.size :: vs)) (EP X pins σ Q) X.xe s₂) X.xe s2 := by
    rintro _ ⟨h', tk, rfl, hS, hk⟩
    refine PyProof.Rows.args_nil ?_
    obtain ⟨o, es, ep, t, ho, ex, hd, _, _, _, hf, hn⟩ := hS
    have I2 : Inv X pins σ H1 { s1 with heap := h', toks := tk } := I1.kept hk
    exact call_len_set ho ex hd hf (by rw [hn]; omega) ⟨.int xs.length, H1, I2.tok _, ⟨_, by rw [hn]⟩, q1⟩
  rcases hs with hs | hs
  · obtain ⟨its, r, pl, hz⟩ := I1.list hs
    exact call_lst (I1.ok.hd hc) pl.isList (by simpa using strsAre_of r) hn sb fin
  · obtain ⟨its, r, pl, hz⟩ := I1.tuple hs
    exact call_tup (I1.ok.hd hc) pl (by simpa using strsAre_of r) hn sb fin
end
end ST
set_option Elab.async false
set_option linter.all false
set_option maxRecDepth 100000
set_option maxHeartbeats 4000000
namespace K38
open PySem PySem.Spec PyProof.Rows L2
open C8 (Cal Mak Met pe_c pe_mk pe_mt pe_mt0)
open SX (S)
/-- more of the module's names -/
structure Bl2 (mg : Str → Option Value) : Prop where
  str : mg "str" = none
  all : mg "all" = none
  tup : mg "tuple" = none
  set : mg "set" = none
  zip : mg "zip" = none
  min : mg "min" = none
  enum : mg "enumerate" = none
section
variable {P : Program} {w : World} {K : PySem.W.Frag} {mg : Str → Option Value} {base : Heap} {f C : Addr} {fd : FuncData}
def spBetween : Sp := fun vs H Q _ => ∃ n lo hi : Int, vs = [.int n, .int lo, .int hi] ∧ Q (.bl (decide (lo ≤ n ∧ n ≤ hi))) H
theorem ok_between (F : Dn K d_is_between f fd) (cW : CalW P w K mg base) : FnOk P w K mg base CX0 2 f fd ["thing", "low", "high"] spBetween := by
  refine F.ok sc_is_between (fun vs H Q E h => ?_) (fun cdv A outer s H vs Q E hr h => ?_)
  · obtain ⟨n, lo, hi, rfl, _⟩ := h
    rfl
  · obtain ⟨n, lo, hi, rfl, hQ⟩ := h
    refine ⟨_, PSs.nox (pss_one (ps_ret (pe_and (pe_c cW hr (by decide) rfl (pa_cons (pv 0) pa_nil)) (pe_one (pe_chain op_le op_le (pv 1) (pv 0) (pv 2)))))), ?_⟩
    refine ⟨_, rfl, n, rfl, true, rfl, iteT ?_⟩
    refine ⟨_, rfl, _, rfl, _, _, rfl, rfl, _, rfl, ?_⟩
    refine ite2 (fun h1 => ?_) (fun h1 => ?_)
    · have h1' : lo ≤ n := of_decide_eq_true h1
      refine ⟨_, rfl, _, _, rfl, rfl, ?_⟩
      have e : decide (n ≤ hi) = decide (lo ≤ n ∧ n ≤ hi) := decide_eq_decide.mpr ⟨fun z => ⟨h1', z⟩, fun z => z.2⟩
      show Q (.bl (decide (n ≤ hi))) H
      rw [e]
      exact hQ
    · have h1' : ¬ lo ≤ n := fun z => h1 (decide_eq_true z)
      have e : decide (lo ≤ n ∧ n ≤ hi) = false := decide_eq_false fun z => h1' z.1
      rw [e] at hQ
      exact hQ
abbrev CalB (P : Program) (w : World) (K : PySem.W.Frag) (mg : Str → Option Value) (base : Heap) : Prop := Cal P w K mg base 2 "is_between" spBetween []
/-- what is a name -/
def spName : Sp := fun vs H Q _ => ∃ l : List Nat, vs = [.str (S l)] ∧ NM.ok l ∧ ∀ H', Same H H' → Q (.bl true) H'
theorem ok_name (F : Dn K d_is_name f fd) (b : Bl mg) (b2 : Bl2 mg) (g : ∃ t, mg "LONGEST_NAME" = some (.int 8 t)) : FnOk P w K mg base CX0 1 f fd ["thing"] spName := by
  refine F.ok sc_is_name (fun vs H Q E h => ?_) (fun cdv A outer s H vs Q E hr h => ?_)
  · obtain ⟨l, rfl, _⟩ := h
    rfl
  · obtain ⟨l, rfl, ⟨l1, l8, lc⟩, hQ⟩ := h
    obtain ⟨t, g⟩ := g
    have hz : (S l).length ≤ sizeLine := by rw [SX.S_len]; exact Nat.le_trans l8 (by decide)
    refine ⟨_, PSs.nox (pss_cons (ps_if (PW.pt (pw_or (pt_not (pt_val (pe_callB call_isi rfl b.isi boot_isinstance (pa_cons (pv 0) (pa_cons (pe_bltn (v := .ty "str") rfl b2.str boot_str rfl) pa_nil)))))
        (pw_or1 (pt_not (pt_chain op_le op_le pe_int (pe_callB call_len_str rfl b.len boot_len (pa_cons (pv 0) pa_nil)) (pe_glob (v := .int 8) rfl g ⟨t, rfl⟩)))))) pss_never pss_nil)
      (pss_one (ps_ret (pe_callB (cr_all rfl) rfl b2.all boot_all (pa_cons (pe_lc (own := [("sign", 1)]) (g := gName 1) (tt := tYes) rfl sc_is_name.nd (pi_str (pv 0)) (blkOk_by (N := N_is_name) (sc := defScope s_is_name) (by decide +kernel))
          (fun _ _ _ _ _ => pg_name (i := 1) sc_is_name.nd rfl (Or.inl rfl)) (fun _ _ _ _ _ => pts_nil) (fun _ _ _ _ _ => pe_chain op_le_str op_le_str pe_str (pv 1) pe_str)) pa_nil))))), ?_⟩
    refine ⟨_, rfl, _, _, _, _, true, rfl, ClsV.ty _, TyX.base (TyOf.str _), kit_ty (by decide +kernel), true, rfl, iteF ?_⟩
    refine ⟨_, rfl, _, rfl, hz, _, _, rfl, rfl, _, rfl, ?_⟩
    rw [SX.S_len]
    refine ite2 (fun _ => ?_) (fun z => absurd (decide_eq_true (by omega)) z)
    refine ⟨_, _, rfl, rfl, _, rfl, ?_⟩
    have e8 : decide ((l.length : Int) ≤ 8) = true := decide_eq_true (by omega)
    rw [e8]
    refine iteF ?_
    refine ⟨_, rfl, _, rfl, fun D hD => lc_it walk_str (fun i H2 => H2 D = some (.lst ((List.replicate i true).map V.bl)) ∧ Same H H2) ⟨upd_same, same_new hD⟩ (fun _ _ _ _ => trivial) ?_ ?_⟩
    · rintro i x H2 H3 hi ⟨hd, sm⟩ ⟨rfl, c', hc', rfl⟩
      have hi' : i < l.length := by simpa [S] using hi
      have hmem : c' ∈ l := by
        have : l[i]? = some c' := by simpa [S] using hc'
        exact List.mem_of_getElem? this
      have hcc := lc c' hmem
      refine ⟨rfl, ?_⟩
      refine ⟨_, rfl, _, _, rfl, rfl, _, rfl, ?_⟩
      have ea : (!decide ((⟨#[c']⟩ : Str).cps.toList < (Str.ofString "a").cps.toList)) = true := by
        have e1 : (Str.ofString "a").cps.toList = [97] := by decide +kernel
        rw [e1]
        have : ¬ (([c'] : List Nat) < [97]) := by
          rw [List.cons_lt_cons_iff]
          rintro (z | ⟨z, z'⟩)
          · omega
          · exact absurd z' (by simp)
        simp [this]
      have ez : (!decide ((Str.ofString "z").cps.toList < (⟨#[c']⟩ : Str).cps.toList)) = true := by
        have e1 : (Str.ofString "z").cps.toList = [122] := by decide +kernel
        rw [e1]
        have : ¬ (([122] : List Nat) < [c']) := by
          rw [List.cons_lt_cons_iff]
          rintro (z | ⟨z, z'⟩)
          · omega
          · exact absurd z' (by simp)
        simp [this]
      rw [ea]
      refine iteT ⟨_, _, rfl, rfl, ?_⟩
      rw [ez]
      refine ⟨_, hd, ?_, ?_, ?_⟩
      · rw [List.length_map, List.length_replicate]
        exact Nat.lt_of_lt_of_le (by omega : i < 64) (by decide)
      · rw [upd_same]
        simp [List.replicate_succ']
      · intro a o e
        rw [upd_ne (ne_of_none e hD)]
        exact sm a o e
    · rintro H2 ⟨hd, sm⟩
      refine ⟨D, _, rfl, SqL.of hd, ?_⟩
      have e3 : (List.replicate (S l).cps.size true).all id = true := by simp
      rw [e3]
      exact hQ H2 sm

/-- an order: one to eight unlike names -/
structure Ord (xs : List Str) : Prop where
  ne : xs ≠ []
  l8 : xs.length ≤ 8
  nd : xs.Nodup
  nm : ∀ x ∈ xs, ∃ l, x = S l ∧ NM.ok l
abbrev CalN (P : Program) (w : World) (K : PySem.W.Frag) (mg : Str → Option Value) (base : Heap) : Prop := Cal P w K mg base 1 "is_name" spName []
def spOrder : Sp := fun vs H Q _ => ∃ (ot : Addr) (xs : List Str), vs = [.ref ot] ∧ H ot = some (.tup (xs.map V.str)) ∧ Ord xs ∧ ∀ H', Same H H' → Q (.bl true) H'
theorem ok_order (F : Dn K d_is_order f fd) (b : Bl mg) (b2 : Bl2 mg) (g : ∃ t, mg "MOST_NAMES" = some (.int 8 t)) (cN : CalN P w K mg base) : FnOk P w K mg base CX0 2 f fd ["thing"] spOrder := by
  refine F.ok sc_is_order (fun vs H Q E h => ?_) (fun cdv A outer s H vs Q E hr h => ?_)
  · obtain ⟨ot, xs, rfl, _⟩ := h
    rfl
  · obtain ⟨ot, xs, rfl, hot, ox, hQ⟩ := h
    obtain ⟨t, g⟩ := g
    have xpos : 0 < xs.length := List.length_pos_iff.mpr ox.ne
    have l8 := ox.l8
    refine ⟨_, PSs.nox (pss_cons (ps_if (PW.pt (pw_or (pt_not (pt_val (pe_callB call_isi rfl b.isi boot_isinstance (pa_cons (pv 0) (pa_cons (pe_bltn (v := .ty "tuple") rfl b2.tup boot_tuple rfl) pa_nil)))))
        (pw_or1 (pt_not (pt_chain op_le op_le pe_int (pe_callB call_len_seq rfl b.len boot_len (pa_cons (pv 0) pa_nil)) (pe_glob (v := .int 8) rfl g ⟨t, rfl⟩)))))) pss_never pss_nil)
      (pss_one (ps_ret (pe_and (pe_callB (cr_all rfl) rfl b2.all boot_all (pa_cons (pe_lc (own := [("name", 1)]) (g := gName 1) (tt := tYes) rfl sc_is_order.nd (pi_tup (pv 0)) (blkOk_by (N := N_is_order) (sc := defScope s_is_order) (by decide +kernel))
          (fun _ _ _ _ _ => pg_name (i := 1) sc_is_order.nd rfl (Or.inl rfl)) (fun _ _ _ _ _ => pts_nil) (fun _ _ _ _ _ => pe_c cN hr (by decide) rfl (pa_cons (pv 1) pa_nil))) pa_nil))
        (pe_one (pe_cmpR op_eq (ST.pe_lenSet rfl rfl b.len rfl b2.set (pv 0)) (pe_callB call_len_seq rfl b.len boot_len (pa_cons (pv 0) pa_nil)) (nomark _))))))), ?_⟩
    refine ⟨_, rfl, _, _, _, _, true, rfl, ClsV.ty _, TyX.base (TyOf.tup hot), kit_ty (by decide +kernel), true, rfl, iteF ?_⟩
    refine ⟨_, rfl, ot, _, rfl, .inr (SqT.of hot), _, _, rfl, rfl, _, rfl, ?_⟩
    rw [List.length_map]
    refine ite2 (fun _ => ?_) (fun z => absurd (decide_eq_true (by omega)) z)
    refine ⟨_, _, rfl, rfl, _, rfl, ?_⟩
    have e8 : decide ((xs.length : Int) ≤ 8) = true := decide_eq_true (by omega)
    rw [e8]
    refine iteF ?_
    refine ⟨_, rfl, ot, rfl, ⟨_, SqT.of hot⟩, fun D hD => lc_tup (fun i H2 => H2 D = some (.lst ((List.replicate i true).map V.bl)) ∧ Same H H2) ⟨upd_same, same_new hD⟩ (fun _ H2 _ z => SqT.of (z.2 _ _ hot)) ?_ ?_⟩
    · rintro i x H2 hx ⟨hd, sm⟩
      have hi' : i < xs.length := by
        have := (List.getElem?_eq_some_iff.mp hx).1
        simpa using this
      rw [List.getElem?_map] at hx
      obtain ⟨y, hy, rfl⟩ := Option.map_eq_some_iff.mp hx
      obtain ⟨l, rfl, hl⟩ := ox.nm y (List.mem_of_getElem? hy)
      refine ⟨rfl, ?_⟩
      refine ⟨_, rfl, l, rfl, hl, fun H3 s3 => ⟨_, s3 _ _ hd, ?_, ?_, ?_⟩⟩
      · rw [List.length_map, List.length_replicate]
        exact Nat.lt_of_lt_of_le (by omega : i < 64) (by decide)
      · rw [upd_same]
        simp [List.replicate_succ']
      · intro a o e
        rw [upd_ne (ne_of_none e hD)]
        exact s3 a o (sm a o e)
    · rintro H2 ⟨hd, sm⟩
      refine ⟨D, _, rfl, SqL.of hd, true, ?_, ?_⟩
      · have e3 : (List.replicate (xs.map V.str).length true).all id = true := by simp
        rw [e3]
      refine iteT ?_
      refine ⟨_, rfl, ot, xs, rfl, .inr (SqT.of (sm _ _ hot)), ox.nd, by omega, _, rfl, ot, _, rfl, .inr (SqT.of (sm _ _ hot)), ?_⟩
      rw [List.length_map]
      exact ⟨rfl, by simpa using hQ H2 sm⟩
/-- a rule by the longest line -/
def LeastR (H : Hp) (r ot : Addr) (xs : List Str) (g : Int) : Prop := H r = some (.tup [.str "rounds", .ref ot]) ∧ H ot = some (.tup (xs.map V.str)) ∧ Ord xs ∧ 0 ≤ g ∧ g ≤ 1000
theorem LeastR.ext {H H' : Hp} {r ot : Addr} {xs : List Str} {g : Int} (h : LeastR H r ot xs g) (e : ∀ a ys, H a = some (.tup ys) → H' a = some (.tup ys)) : LeastR H' r ot xs g := ⟨e _ _ h.1, e _ _ h.2.1, h.2.2⟩
theorem LeastR.same {H H' : Hp} {r ot : Addr} {xs : List Str} {g : Int} (h : LeastR H r ot xs g) (e : Same H H') : LeastR H' r ot xs g := h.ext fun a ys z => e _ _ z
theorem no_least : decide (V.str "rounds" = V.str "least") = false := by decide +kernel
theorem no_longest : decide (V.str "rounds" = V.str "longest") = false := by decide +kernel
def spRule : Sp := fun vs H Q _ => ∃ (r ot : Addr) (xs : List Str) (g : Int), vs = [.ref r] ∧ LeastR H r ot xs g ∧ ∀ H', Same H H' → Q (.bl true) H'
theorem ok_rule (F : Dn K d_is_rule f fd) (b : Bl mg) (b2 : Bl2 mg) (cO : Cal P w K mg base 2 "is_order" spOrder []) : FnOk P w K mg base CX0 3 f fd ["thing"] spRule := by
  refine F.ok sc_is_rule (fun vs H Q E h => ?_) (fun cdv A outer s H vs Q E hr h => ?_)
  · obtain ⟨r, ot, xs, gr, rfl, _⟩ := h
    rfl
  · obtain ⟨r, ot, xs, gr, rfl, ⟨hrr, hot, ox, g0, g1⟩, hQ⟩ := h
    refine ⟨_, PSs.nox (pss_cons (ps_if (PW.pt (pw_or (pt_not (pt_val (pe_callB call_isi rfl b.isi boot_isinstance (pa_cons (pv 0) (pa_cons (pe_bltn (v := .ty "tuple") rfl b2.tup boot_tuple rfl) pa_nil)))))
        (pw_or (pt_cmpR op_lt (pe_callB call_len_seq rfl b.len boot_len (pa_cons (pv 0) pa_nil)) pe_int (nomark _))
        (pw_or1 (pt_not (pt_val (pe_c cO hr (by decide) rfl (pa_cons (pe_ix ix_tup (pv 0) pe_int (fun _ _ => rfl)) pa_nil)))))))) pss_never pss_nil)
      (pss_cons (ps_if (pt_cmpR op_eq (pe_ix ix_tup (pv 0) pe_int (fun _ _ => rfl)) pe_str (nomark _)) pss_never pss_nil)
      (pss_one (ps_ret (pe_and (pe_cmpR op_eq (pe_callB call_len_seq rfl b.len boot_len (pa_cons (pv 0) pa_nil)) pe_int (nomark _))
        (pe_one (pe_cmpR op_in_seq (pe_ix ix_tup (pv 0) pe_int (fun _ _ => rfl)) (pe_tup (pa_cons pe_str (pa_cons pe_str pa_nil))) (by rfl)))))))), ?_⟩
    refine ⟨_, rfl, _, _, _, _, true, rfl, ClsV.ty _, TyX.base (TyOf.tup hrr), kit_ty (by decide +kernel), true, rfl, iteF ?_⟩
    refine ⟨_, rfl, r, _, rfl, .inr (SqT.of hrr), _, _, rfl, rfl, _, rfl, iteF ?_⟩
    refine ⟨_, rfl, r, _, _, _, rfl, rfl, SqT.of hrr, rfl, ot, xs, rfl, hot, ox, fun H2 s2 => ⟨true, rfl, iteF ?_⟩⟩
    have hrr2 := s2 _ _ hrr
    refine ⟨_, rfl, r, _, _, _, rfl, rfl, SqT.of hrr2, rfl, rfl, _, rfl, ?_⟩
    rw [no_least]
    refine iteF ?_
    refine ⟨_, rfl, r, _, rfl, .inr (SqT.of hrr2), rfl, true, rfl, iteT ?_⟩
    refine ⟨_, rfl, r, _, _, _, rfl, rfl, SqT.of hrr2, rfl, by show 2 ≤ sizeLine; decide, fun t ft => ?_⟩
    refine ⟨t, _, rfl, .inr (SqT.of upd_same), rfl, rfl, ?_⟩
    have e : inV (.str "rounds") [.str "longest", .str "rounds"] = true := by decide +kernel
    simp only [Bool.false_eq_true, if_false]
    rw [e]
    exact hQ _ (s2.trans (same_new ft))
end
end K38
set_option Elab.async false
set_option linter.all false
set_option maxRecDepth 100000
set_option maxHeartbeats 4000000
namespace K38
open PySem PySem.Spec PyProof.Rows L2
open C8 (Cal Mak Met pe_c pe_mk pe_mt pe_mt0)
open SX (S)
theorem inV_strs (x : Str) : ∀ R : List Str, inV (.str x) (R.map V.str) = decide (x ∈ R)
  | [] => rfl
  | y :: R => by
    have ih := inV_strs x R
    unfold inV at ih ⊢
    rw [List.map_cons, List.any_cons, ih]
    have e : eqV (.str y) (.str x) = decide (x = y) := by
      show decide (y = x) = decide (x = y)
      exact decide_eq_decide.mpr ⟨Eq.symm, Eq.symm⟩
    rw [e]
    simp [Bool.decide_or]
theorem flat_strs (R : List Str) : (R.map V.str).all flatV = true := by
  rw [List.all_eq_true]
  intro v hv
  obtain ⟨y, _, rfl⟩ := List.mem_map.mp hv
  rfl
section
variable {P : Program} {w : World} {K : PySem.W.Frag} {mg : Str → Option Value} {base : Heap} {f C : Addr} {fd : FuncData}
def spNo : Sp := fun vs H Q _ => ∃ (ot rd : Addr) (xs R : List Str), vs = [.ref ot, .ref rd] ∧ H ot = some (.tup (xs.map V.str)) ∧ H rd = some (.lst (R.map V.str)) ∧ xs.length ≤ 13 ∧
  ∀ (t : Addr) (H' : Hp), Same H H' → H t = none → H' t = some (.tup ((xs.filter fun x => decide (x ∈ R)).map V.str)) → Q (.ref t) H'
theorem ok_no (F : Dn K d_names_of f fd) (b2 : Bl2 mg) : FnOk P w K mg base CX0 1 f fd ["order", "riders"] spNo := by
  refine F.ok sc_names_of (fun vs H Q E h => ?_) (fun cdv A outer s H vs Q E hr h => ?_)
  · obtain ⟨ot, rd, xs, R, rfl, _⟩ := h
    rfl
  · obtain ⟨ot, rd, xs, R, rfl, hot, hrd, l13, hQ⟩ := h
    refine ⟨_, PSs.nox (pss_one (ps_ret (pe_callTy call_tuple_of rfl b2.tup boot_tuple (pa_cons (pe_lc (own := [("name", 2)]) (g := gName 2) rfl sc_names_of.nd (pi_tup (pv 0)) (blkOk_by (N := N_names_of) (sc := defScope s_names_of) (by decide +kernel))
          (fun _ _ _ _ _ => pg_name (i := 2) sc_names_of.nd rfl (Or.inl rfl)) (fun _ _ _ _ _ => pts_one (pt_cmpR (r := rIn K false) op_in_seq (pv 2) (pv 1) (by rfl))) (fun _ _ _ _ _ => pv 2)) pa_nil)))), ?_⟩
    refine ⟨_, rfl, ot, rfl, ⟨_, SqT.of hot⟩, fun D hD => lc_tup (fun i H2 => H2 D = some (.lst (((xs.take i).filter fun x => decide (x ∈ R)).map V.str)) ∧ Same H H2) ⟨upd_same, same_new hD⟩ (fun _ H2 _ z => SqT.of (z.2 _ _ hot)) ?_ ?_⟩
    · rintro i x H2 hx ⟨hd, sm⟩
      have hi' : i < xs.length := by
        have := (List.getElem?_eq_some_iff.mp hx).1
        simpa using this
      rw [List.getElem?_map] at hx
      obtain ⟨y, hy, rfl⟩ := Option.map_eq_some_iff.mp hx
      have et : xs.take (i + 1) = xs.take i ++ [y] := by rw [List.take_succ, hy]; rfl
      refine ⟨rfl, ?_⟩
      refine ⟨_, rfl, _, rfl, rd, _, rfl, .inl (SqL.of (sm _ _ hrd)), rfl, flat_strs R, _, rfl, ?_⟩
      simp only [Bool.false_eq_true, if_false]
      rw [inV_strs]
      refine ite2 (fun hm => ?_) (fun hm => ?_)
      · refine ⟨_, rfl, _, hd, ?_, ?_, ?_⟩
        · rw [List.length_map]
          refine Nat.lt_of_le_of_lt (List.length_filter_le _ _) ?_
          rw [List.length_take]
          exact Nat.lt_of_lt_of_le (by omega : min i xs.length < 64) (by decide)
        · rw [upd_same, et, List.filter_append, List.map_append]
          simp [hm]
        · intro a o e
          rw [upd_ne (ne_of_none e hD)]
          exact sm a o e
      · refine ⟨?_, sm⟩
        rw [et, List.filter_append]
        simp [hm, hd]
    · rintro H2 ⟨hd, sm⟩
      rw [List.length_map, List.take_length] at hd
      refine ⟨D, _, rfl, .inl ⟨SqL.of hd, fun l fl => hQ l _ (sm.trans (same_new fl)) ?_ upd_same⟩⟩
      exact sm.free fl
theorem zs_take (xs : List Str) (i : Nat) (h : i < xs.length) : ((xs.take i).map fun _ => V.int 0) ++ [V.int 0] = (xs.take (i + 1)).map fun _ => V.int 0 := by
  rw [List.take_succ, List.getElem?_eq_getElem h, List.map_append]
  rfl
end
end K38
set_option Elab.async false
set_option linter.all false
set_option maxRecDepth 100000
set_option maxHeartbeats 4000000
/-! sorted(xs), xs a list of data at any depth -/
namespace SRT
open PySem PySem.Spec PyProof.Rows L2
/-- p stands not behind q -/
def leD (p q : V × PyData) : Bool := !PySem.W.dataLt q.2 p.2
/-- the sorted list -/
def srt (xs : List V) (ds : List PyData) : List V := ((xs.zip ds).mergeSort leD).map Prod.fst
theorem len_of {K : PySem.W.Frag} {H : Hp} : ∀ {xs : List V} {ds : List PyData}, DpAll K H xs ds → xs.length = ds.length
  | _, _, .nil => rfl
  | _, _, .cons _ t => congrArg (· + 1) (len_of t)
theorem srt_perm {xs : List V} {ds : List PyData} (h : xs.length = ds.length) : (srt xs ds).Perm xs := by
  unfold srt
  refine ((List.mergeSort_perm _ _).map Prod.fst).trans ?_
  rw [List.map_fst_zip (by omega)]
theorem vals_each : ∀ {xs : List V} {us : List Value} {ds : List PyData}, Vals xs us → xs.length = ds.length → PySem.W.EachIs (fun v (b : V × PyData) => RelV b.1 v) us (xs.zip ds)
  | [], _, [], .nil, _ => .nil
  | x :: xs, _, d :: ds, .cons r rs, h => .cons r (vals_each rs (by simpa using h))
theorem each_vals : ∀ {us : List Value} {bs : List (V × PyData)}, PySem.W.EachIs (fun v (b : V × PyData) => RelV b.1 v) us bs → Vals (bs.map Prod.fst) us
  | _, _, .nil => .nil
  | _, _, .cons r rs => .cons r (each_vals rs)
def rSortedD (K : PySem.W.Frag) : List V → Hp → VK → Prop := fun vs H Q => ∃ (a : Addr) (xs : List V) (ds : List PyData), vs = [V.ref a] ∧ (SqL K H a xs ∨ SqT K H a xs) ∧ DpAll K H xs ds ∧ PySem.W.AllAlike ds ∧ PySem.W.Sortable ds ∧ (∀ d ∈ ds, d.depth ≤ 60) ∧
  ∀ p : Addr, H p = none → Q (.ref p) (upd H p (.lst (srt xs ds)))
/-! sorted of a tuple -/
section
variable {prog : Program} {w : World} {A : Around} {E : Value → Shared → Prop} {s : Shared} {κ : KeyKind}
theorem gather_tup {b : Addr} {us : List Value} {R : List Value → Shared → Prop} (ht : s.heap.IsTuple b us.toArray) (hz : us.length ≤ sizeLine)
    (h : R us { s with heap := (s.heap.push (seqObj "list" #[] 0)).update s.heap.objs.size (Obj.mapSeq (· ++ us.toArray)) }) : wpAny (model prog w) A (collect (.ref b)) R E s := by
  obtain ⟨ob, e1, e2, k, e3⟩ := id ht
  have e4 : (s.heap.push (seqObj "list" #[] 0)).get? b = some ob := Heap.get?_push_of_some _ e1
  have em : (s.heap.push (seqObj "list" #[] 0)).get? s.heap.objs.size = some (seqObj "list" #[] 0) := Heap.get?_push_size _ rfl
  unfold collect
  refine wpAny_bind (wpAny_runValue (codeAny_builtin entry_proto_collect' ?_))
  show wpAny _ _ (do again (.builtin "list.__iadd__" ⟨[← newList [], .ref b], []⟩)) _ _ s
  refine wpAny_bind (wpAny_newList (wpAny_pure ⟨Code.quiet_builtin _ (by decide +kernel), codeAny_builtin entry_list_iadd' ?_⟩))
  show wpAny _ _ (Builtin.List.listExtendWith (.ref s.heap.objs.size) (.ref b) (.ref s.heap.objs.size)) _ _ { s with heap := s.heap.push (seqObj "list" #[] 0) }
  unfold Builtin.List.listExtendWith
  refine wpAny_bind (wpAny_typeOf (T := "tuple") ⟨ob, e4, e2⟩ ?_)
  have et : (Value.type "tuple" == Value.type "tuple") = true := by rfl
  rw [if_pos (by rw [et]; simp)]
  refine wpAny_bind (listItems_at e4 e3 (wpAny_bind (listItems_at em rfl ?_)))
  rw [if_neg (by simp)]
  refine wpAny_bind (listUpdate_at em rfl ?_ (Nat.zero_le _) (by simp only [Array.size_append, List.size_toArray, List.length_nil]; omega))
  refine wpAny_pure ?_
  show wpAny (model prog w) A (load s.heap.objs.size >>= fun o => match o.data with | .seq xs _ => pure xs.toList | _ => unsupported "internal:collect") R E _
  refine wpAny_bind (wpAny_load (get?_update_seq em _) ?_)
  show wpAny _ _ (pure ((#[] : Array Value) ++ us.toArray).toList) R E _
  have e5 : ((#[] : Array Value) ++ us.toArray).toList = us := by simp
  rw [e5]
  exact wpAny_pure h
theorem sorted_tupV {b : Addr} {us : List Value} {R : Value → Shared → Prop} (ht : s.heap.IsTuple b us.toArray) (hz : us.length ≤ sizeLine)
    (S : PySem.W.SortsAt prog w A.in1.in1 { s with heap := PySem.W.sortingHeap (PySem.W.copyHeap s.heap us) (s.heap.objs.size + 1) us } κ us)
    (h : R (.ref (s.heap.objs.size + 1)) { s with heap := sortedAll s.heap us (PySem.W.sortVals κ false us us).toArray }) : wpAny (model prog w) A (call (.builtin "sorted") [.ref b]) R E s := by
  refine Calls.call_function_entry kind_sorted plain_sorted entry_sorted (args_sorted1 _) ?_
  unfold Builtin.«sorted»
  refine wpAny_bind (m := checkCount "sorted" 1 1 _) (wpAny_pure (wpAny_bind (gather_tup ht hz (wpAny_bind (wpAny_newList ?_ hz)))))
  have e : ((s.heap.push (seqObj "list" #[] 0)).update s.heap.objs.size (Obj.mapSeq (· ++ us.toArray))).objs.size = s.heap.objs.size + 1 := (Heap.size_update ..).trans (size_push' ..)
  show wpAny _ _ _ _ _ { s with heap := PySem.W.copyHeap s.heap us }
  rw [e]
  refine wpAny_bind (wpAny_holding (wpAny_call_entry slot_list_sort ⟨_, PySem.W.copyHeap_at s.heap us, rfl⟩ entry_list_sort ?_ (args_list_sort _)))
  exact PySem.W.list_sort_vals (s := { s with heap := PySem.W.copyHeap s.heap us }) (PySem.W.copyHeap_at s.heap us) S hz ⟨_, rfl, wpAny_pure ⟨_, rfl, h⟩⟩
end
section
variable {X : Cx} {pins : List (Addr × Obj)} {σ : L2.St} {H : Hp} {s : Shared}
theorem reads_each (I : Inv X pins σ H s) : ∀ {ds : List PyData} {vs : List V} {us : List Value}, DpAll X.K H vs ds → Vals vs us → PySem.W.EachIs (fun v d => ∃ as, Reads s.heap v d as) us ds
  | [], _, _, h, r => by
    cases h
    cases r
    exact .nil
  | d :: ds, _, _, h, r => by
    cases h with
    | cons h1 h2 =>
      cases r with
      | cons r1 r2 => exact .cons (Dp.reads I d _ _ h1 r1) (reads_each I h2 r2)
theorem cr_sortedD (hu : X.A.units + 64 < cLine) : CallR X (.builtin "sorted") (rSortedD X.K) := by
  intro pins s σ H vs us Q I r h
  obtain ⟨a, xs, ds, rfl, hs, hd, al, so, dp, q⟩ := h
  rw [Vals.ref1 r]
  have ln := len_of hd
  have main : ∀ its : List Value, Vals xs its → xs.length ≤ sizeLine → ∃ κ : KeyKind, PySem.W.SortsAt X.prog X.w X.A.in1.in1 { s with heap := PySem.W.sortingHeap (PySem.W.copyHeap s.heap its) (s.heap.objs.size + 1) its } κ its ∧
      EP X pins σ Q (.ref (s.heap.objs.size + 1)) { s with heap := sortedAll s.heap its (PySem.W.sortVals κ false its its).toArray } := fun its rv hz => by
    have e := reads_each I hd rv
    have e2 : PySem.W.EachIs (fun v d => ∃ as, Reads (PySem.W.sortingHeap (PySem.W.copyHeap s.heap its) (s.heap.objs.size + 1) its) v d as) its ds := e.mono fun v d ⟨as, h⟩ => ⟨as, Reads.keeps (fun b o z => PySem.W.sorting_copy_old z) h⟩
    have S := PySem.W.SortsAt.data (prog := X.prog) (w := X.w) (A := X.A.in1.in1) (s := { s with heap := PySem.W.sortingHeap (PySem.W.copyHeap s.heap its) (s.heap.objs.size + 1) its }) e2 al so (fun d hd => by have := dp d hd; show X.A.units + 1 + 1 + d.depth < cLine; omega)
    refine ⟨_, S, ?_⟩
    have ek : PySem.W.EachIs (fun v (b : V × PyData) => (PySem.W.dataKind (PySem.W.sortingHeap (PySem.W.copyHeap s.heap its) (s.heap.objs.size + 1) its) ds).keyOf v = some (PySem.W.keyToks b.2)) its (xs.zip ds) := by
      have f := PySem.W.each_keys al e2
      have mz : (xs.zip ds).map Prod.snd = ds := List.map_snd_zip (by omega)
      rw [← mz] at f
      have f' := PySem.W.each_of_map (fun b : V × PyData => b.2) f
      rw [mz] at f'
      exact f'
    have eo := PySem.W.sortVals_each (κ := PySem.W.dataKind (PySem.W.sortingHeap (PySem.W.copyHeap s.heap its) (s.heap.objs.size + 1) its) ds) (rev := false) (fun b : V × PyData => PySem.W.keyToks b.2) (vals_each rv ln) ek
    have vo := each_vals eo
    generalize PySem.W.sortVals _ false its its = out at vo ⊢
    obtain ⟨ep, he'⟩ := PyProof.Rows.sortedAll_at s.heap its out.toArray
    have hlen : (srt xs ds).length ≤ sizeLine := by rw [(srt_perm ln).length_eq]; exact hz
    exact ⟨.ref _, upd H (s.heap.objs.size + 1) (.lst (srt xs ds)), I.laid (t' := s.toks) (fun _ _ => PyProof.Rows.sortedAll_old) (Nat.le_succ _) ⟨hlen, out, ep, vo, he'⟩, rfl, q _ (I.hok.fresh (Nat.le_succ _))⟩
  rcases hs with hs | hs
  · obtain ⟨its, rv, hl, hz⟩ := I.list hs
    obtain ⟨κ, S, k⟩ := main its rv hz
    exact PySem.W.sorted_vals hl.isList S (by rw [← rv.length]; exact hz) k
  · obtain ⟨its, rv, hl, hz⟩ := I.tuple hs
    obtain ⟨κ, S, k⟩ := main its rv hz
    exact sorted_tupV hl (by rw [← rv.length]; exact hz) S k
/-- texts -/
def leS (x y : Str) : Prop := ¬ y.cps.toList < x.cps.toList
theorem dpS {H : Hp} : ∀ xs : List Str, DpAll X.K H (xs.map V.str) (xs.map PyData.str)
  | [] => .nil
  | x :: xs => .cons (.str x) (dpS xs)
theorem srtS (xs : List Str) : ∃ ys : List Str, srt (xs.map V.str) (xs.map PyData.str) = ys.map V.str ∧ ys.Perm xs ∧ ys.Pairwise leS := by
  have tot := PySem.W.sortLe_total (listOrd itemOrd) false (fun p : V × PyData => PySem.W.keyToks p.2)
  have pw := PySem.W.sort_pairwise tot ((xs.map V.str).zip (xs.map PyData.str))
  have pm := List.mergeSort_perm ((xs.map V.str).zip (xs.map PyData.str)) leD
  have mem : ∀ p ∈ ((xs.map V.str).zip (xs.map PyData.str)).mergeSort leD, ∃ x, p = (V.str x, PyData.str x) := fun p hp => by
    have := pm.mem_iff.mp hp
    rw [List.zip_map'] at this
    obtain ⟨x, _, e⟩ := List.mem_map.mp this
    exact ⟨x, e.symm⟩
  have pw' : (((xs.map V.str).zip (xs.map PyData.str)).mergeSort leD).Pairwise fun a b => leD a b = true := pw
  unfold srt
  generalize ((xs.map V.str).zip (xs.map PyData.str)).mergeSort leD = L at pm mem pw'
  have : ∃ ys : List Str, L = ys.map fun x => (V.str x, PyData.str x) := by
    clear pm pw'
    induction L with
    | nil => exact ⟨[], rfl⟩
    | cons p L ih =>
      obtain ⟨x, e⟩ := mem p List.mem_cons_self
      obtain ⟨ys, e2⟩ := ih fun q hq => mem q (List.mem_cons_of_mem _ hq)
      exact ⟨x :: ys, by rw [e, e2]; rfl⟩
  obtain ⟨ys, rfl⟩ := this
  refine ⟨ys, ?_, ?_, ?_⟩
  · rw [List.map_map]
    rfl
  · have p2 := pm.map fun p : V × PyData => match p.1 with | .str x => x | _ => ""
    rw [List.map_map, List.zip_map', List.map_map] at p2
    simpa [Function.comp_def] using p2
  · refine (List.pairwise_map.mp pw').imp fun {a b} h => ?_
    have h' : (!PySem.W.dataLt (.str b) (.str a)) = true := h
    rw [PySem.W.dataLt_str] at h'
    simpa [leS] using h'
/-- sorted of texts, a list or a tuple -/
def rSortedTx (K : PySem.W.Frag) : List V → Hp → VK → Prop := fun vs H Q => ∃ (a : Addr) (xs : List Str), vs = [V.ref a] ∧ (SqL K H a (xs.map V.str) ∨ SqT K H a (xs.map V.str)) ∧
  ∀ (ys : List Str) (p : Addr), ys.Perm xs → ys.Pairwise leS → H p = none → Q (.ref p) (upd H p (.lst (ys.map V.str)))
theorem cr_sortedTx (hu : X.A.units + 64 < cLine) : CallR X (.builtin "sorted") (rSortedTx X.K) := by
  intro pins s σ H vs us Q I r h
  obtain ⟨a, xs, rfl, hs, q⟩ := h
  obtain ⟨ys, e, pm, pw⟩ := srtS xs
  refine cr_sortedD hu pins s σ H _ us Q I r ⟨a, _, xs.map PyData.str, rfl, hs, dpS xs, fun d h1 d' h2 => ?_, .inr fun d h1 => ?_, fun d h1 => ?_, fun p fp => ?_⟩
  · obtain ⟨x, _, rfl⟩ := List.mem_map.mp h1
    obtain ⟨y, _, rfl⟩ := List.mem_map.mp h2
    rfl
  · obtain ⟨x, _, rfl⟩ := List.mem_map.mp h1
    refine ⟨fun z => ?_, fun l z => ?_⟩ <;> cases z
  · obtain ⟨x, _, rfl⟩ := List.mem_map.mp h1
    show 0 ≤ 60
    decide
  · rw [e]
    exact q ys p pm pw fp
end
end SRT
set_option Elab.async false
set_option linter.all false
set_option maxRecDepth 100000
set_option maxHeartbeats 4000000
/-! SDC: a dict comprehension assigned to a plain local on one line; a dict comprehension over a list. -/
namespace SDC
open PySem PySem.Spec PyProof.Rows L2
section
variable {X : Cx}
theorem ps_setDc {i : Nat} {y : Str} {py : Pos} {kx vx tg iter : Expr} {ifs : List Expr} {scope : Scope} {own : List (Str × Nat)} {pos spos : Pos} {wi : TI} {g : TG} {tt : TT} {tk tv : TE} (hc : X.calm = true) (hN : X.N.Nodup) (hy : X.N[i]? = some y) (hyl : X.env.scope.names.lookup y = some .local)
    (hsw : swapsWith (.DictComp kx vx [⟨tg, iter, ifs, 0⟩] scope pos) (some (.Name y py)) spos.line X.env = pure true) (hi : PI X tg iter wi) (ok : BlkOk X.N X.env.scope scope own)
    (hg : ∀ (s : Shared) (H : Hp) (C : Addr) (cl : List (Str × Addr)) (fp : List Addr), PG (X.blk s H scope (compEnvC scope cl C X.env) fp) tg g) (ht : ∀ (s : Shared) (H : Hp) (C : Addr) (cl : List (Str × Addr)) (fp : List Addr), PTs (X.blk s H scope (compEnvC scope cl C X.env) fp) ifs tt)
    (hk : ∀ (s : Shared) (H : Hp) (C : Addr) (cl : List (Str × Addr)) (fp : List Addr), PE (X.blk s H scope (compEnvC scope cl C X.env) fp) kx tk)
    (he : ∀ (s : Shared) (H : Hp) (C : Addr) (cl : List (Str × Addr)) (fp : List Addr), PE (X.blk s H scope (compEnvC scope cl C X.env) fp) vx tv) (hs : ∀ x, foldedSetIterable iter X.env x = pure x := by intro _; rfl) :
    PS X (.Assign [.Name y py] (.DictComp kx vx [⟨tg, iter, ifs, 0⟩] scope pos) spos) (tAsg (tDc wi g tt tk tv (own.map (·.2))) (gName i)) := by
  refine ⟨fun pins s σ H D I h => ?_⟩
  rw [exec_Assign_Name_used _ _ _ _ hsw]
  refine wpAny_bind (wpAny_standAt (wpAny_bind ?_))
  show wpAny _ X.A (do let _ ← comprehension (.DictComp kx vx [⟨tg, iter, ifs, 0⟩] scope pos) scope X.env (firstIterPos [⟨tg, iter, ifs, 0⟩] pos) newDict false (eval iter X.env) (some (assign (.Name y py) X.env))) _ _ s
  have h : tDc wi g tt tk tv (own.map (·.2)) σ H (fun x H1 => gName i x σ H1 D.nx) := h
  refine wpAny_bind (thn (dc_core (Qf := fun _ s' => SP X pins D .next s') hc hN I hi ok hg ht hk he hs h fun L C s' m H' I' q hn f => ?_) fun _ s' hq => wpAny_pure (wpAny_pure hq))
  show wpAny _ _ (assign (.Name y py) X.env (.ref L)) _ _ _
  refine wpAny_assign_Name (store_ok2 (v := V.ref L) I' hN hy (.inl hyl) rfl (fun s2 I2 ⟨a, sb, ha⟩ => ?_) (.inr hyl))
  obtain ⟨f0, f1, f2, f3, f4, f5⟩ := f
  have haC : C ≠ a := by
    rcases ha with z | z
    · rw [z]; exact f1
    · exact fun e => f4 y a z e.symm
  refine ⟨m, hn.sameBut sb haC, fun h3 sb3 => ?_⟩
  exact ⟨_, H', I2.turned (t' := s2.toks) (fun b o hb e => (sb3.2 b hb).trans e) f0 f1 f3 f4 f5, q⟩
theorem sw_true {kx vx : Expr} {gs : List Comprehension} {scope : Scope} {pos py : Pos} {y : Str} {l : Nat} {env : Env} (hk : env.scope.kind = .function) (hy : env.scope.names.lookup y = some .local) (hl : (py.line == pos.line) = true)
    (ha : (scope.names.any fun (n, k) => n == y && (k == .local || k == .cell)) = false) : swapsWith (.DictComp kx vx gs scope pos) (some (.Name y py)) l env = pure true := by
  have ky : env.kindOf y = some .local := hy
  have hb : env.blockKind = .function := by unfold Env.blockKind; rw [hk]; rfl
  unfold swapsWith
  simp only [hb, ky, ha, Expr.pos, hl]
  rfl
end
theorem dc_list {K : PySem.W.Frag} {a : Addr} {xs : List V} {g : TG} {tt : TT} {tk tv : TE} {vs : List Nat} {σ : L2.St} {H1 : Hp} {D : Addr} {Qd : Hp → Prop} (Pv : Nat → Hp → Prop) (h0 : Pv 0 (upd H1 D (.dK []))) (hl : ∀ i H, i ≤ xs.length → Pv i H → SqL K H a xs)
    (hs : ∀ i x H, xs[i]? = some x → Pv i H → g x (wipe σ vs) H fun σ2 H2 => wipe σ2 vs = wipe σ vs ∧ tt σ2 H2 fun b H3 =>
      if b = true then tk σ2 H3 fun y H4 => tv σ2 H4 fun z H5 => ∃ kvs k, y = kV k ∧ H5 D = some (.dK kvs) ∧ kvs.length < sizeLine ∧ Pv (i + 1) (upd H5 D (.dK (putK kvs k z))) else Pv (i + 1) H3) (hd : ∀ H, Pv xs.length H → Qd H) :
    ∃ W : Nat → Nat → Hp → Prop, (∃ m, W 0 m (upd H1 D (.dK []))) ∧ ∀ i m H, W i m H →
      ((Itl K a).stop i H ∧ Qd H) ∨ ((Itl K a).go i H ∧ ∃ Nx : Hp → Prop, (∀ H', Nx H' → ∃ m', m' < m ∧ W (i + 1) m' H') ∧ ∀ x H', (Itl K a).yld i H x H' → g x (wipe σ vs) H' fun σ2 H2 => wipe σ2 vs = wipe σ vs ∧ tt σ2 H2 fun b H3 =>
        if b = true then tk σ2 H3 fun y H4 => tv σ2 H4 fun z H5 => ∃ kvs k, y = kV k ∧ H5 D = some (.dK kvs) ∧ kvs.length < sizeLine ∧ Nx (upd H5 D (.dK (putK kvs k z))) else Nx H3) := by
  refine ⟨fun i m H => m = xs.length - i ∧ i ≤ xs.length ∧ Pv i H, ⟨xs.length, by simp, Nat.zero_le _, h0⟩, ?_⟩
  rintro i m H ⟨rfl, hi, p⟩
  have q := hl i H hi p
  by_cases hlt : i < xs.length
  · refine .inr ⟨⟨xs, xs[i], q, by simp [hlt]⟩, Pv (i + 1), fun H' p' => ⟨xs.length - (i + 1), by omega, rfl, hlt, p'⟩, fun x H' y => ?_⟩
    obtain ⟨e, y⟩ := y
    subst e
    exact hs i x _ (y xs q) p
  · have e : i = xs.length := by omega
    subst e
    exact .inl ⟨⟨xs, q, Nat.le_refl _⟩, hd H p⟩
/-- a row that is put anew comes from one of the row -/
theorem perm_inv {α β : Type} {f : α → β} : ∀ {l' z : List β}, l'.Perm z → ∀ {l : List α}, l.map f = z → ∃ m : List α, m.Perm l ∧ l' = m.map f := by
  intro l' z h
  induction h with
  | nil =>
    intro l e
    cases l with
    | nil => exact ⟨[], .nil, rfl⟩
    | cons _ _ => cases e
  | cons x h ih =>
    intro l e
    cases l with
    | nil => cases e
    | cons a as =>
      simp only [List.map_cons, List.cons.injEq] at e
      obtain ⟨m, p, rfl⟩ := ih e.2
      exact ⟨a :: m, p.cons a, by rw [List.map_cons, e.1]⟩
  | swap x y t =>
    intro l e
    match l, e with
    | a :: b :: t', e =>
      simp only [List.map_cons, List.cons.injEq] at e
      obtain ⟨e1, e2, e3⟩ := e
      exact ⟨b :: a :: t', List.Perm.swap _ _ _, by rw [List.map_cons, List.map_cons, e1, e2, e3]⟩
  | trans h1 h2 ih1 ih2 =>
    intro l e
    obtain ⟨m2, p2, e2⟩ := ih2 e
    obtain ⟨m1, p1, e1⟩ := ih1 e2.symm
    exact ⟨m1, p1.trans p2, e1⟩
end SDC
set_option Elab.async false
set_option linter.all false
set_option maxRecDepth 100000
set_option maxHeartbeats 4000000
/-! {k: v for target in xs}, the keys tuples of whole numbers and texts -/
namespace DCT
open PySem PySem.Spec PyProof.Rows L2
section
variable {X : Cx}
/-- a key goes in -/
theorem put_key {pins : List (Addr × Obj)} {σ : L2.St} {H : Hp} {s : Shared} {E : Value → Shared → Prop} {D b : Addr} {kvs : List (List Key × V)} {k : List Key} {v : V} {u : Value} {Q : Unit → Shared → Prop} (hu : X.A.units < cLine)
    (I : Inv X pins σ H s) (hD : H D = some (.dT kvs)) (hb : H b = some (.tup (k.map kV))) (hz : kvs.length < sizeLine) (rv : RelV v u) (fin : ∀ s', Inv X pins σ (upd H D (.dT (putK kvs k v))) s' → Q () s') :
    wpAny (model X.prog X.w) X.A (dictSet D (.ref b) u) Q E s := by
  obtain ⟨_, nm, xs, rel, dd⟩ := dt_of I.hok hD
  have ln := Paired.length rel
  have lp := length_putK kvs k v
  refine wpAny_dictSet_heap (hsz := by omega) (knd := tupleKind (mixKind X.prog X.w)) hu (key_of I.hok hb) dd fun h' new sb => fin _ ?_
  obtain ⟨o, es, ep, w1, w2, w3, w4, _, w5⟩ := new
  refine d_write I (by rw [hD]; exact True.intro) sb ⟨o, w1⟩ ⟨by omega, nm, _, (rel.put k hb rv).keeps fun c ys ec => ?_, o, es, ep, w1, w2, w3, w4, w5⟩
  rw [upd_ne (ne_of ec hD (fun z => nomatch z))]
  exact ec
/-- what is left to show: W by the turn, a measure and the heap, the new dict at D within -/
def tDt (wi : TI) (g : TG) (tk tv : TE) (vs : List Nat) : TE := fun σ H Q => wi σ H fun J H1 => ∀ D, H1 D = none → ∃ W : Nat → Nat → Hp → Prop, (∃ m, W 0 m (upd H1 D (.dT []))) ∧ ∀ i m Hi, W i m Hi →
  (J.stop i Hi ∧ Q (.ref D) Hi) ∨ (J.go i Hi ∧ ∃ Nx : Hp → Prop, (∀ H', Nx H' → ∃ m', m' < m ∧ W (i + 1) m' H') ∧ ∀ x H', J.yld i Hi x H' → g x (wipe σ vs) H' fun σ2 H2 => wipe σ2 vs = wipe σ vs ∧
    tk σ2 H2 fun y H3 => tv σ2 H3 fun z H4 => ∃ (b : Addr) (kvs : List (List Key × V)) (k : List Key), y = .ref b ∧ H4 b = some (.tup (k.map kV)) ∧ H4 D = some (.dT kvs) ∧ kvs.length < sizeLine ∧ Nx (upd H4 D (.dT (putK kvs k z))))
theorem core {pins : List (Addr × Obj)} {s : Shared} {σ : L2.St} {H : Hp} {Q : VK} {kx vx tg iter : Expr} {scope : Scope} {own : List (Str × Nat)} {pos pos' : Pos} {wi : TI} {g : TG} {tk tv : TE} {use : Option (Value → Sem Unit)} {Qf : Value → Shared → Prop}
    (hu : X.A.units < cLine) (hc : X.calm = true) (hN : X.N.Nodup) (I : Inv X pins σ H s) (hi : PI X tg iter wi) (ok : BlkOk X.N X.env.scope scope own)
    (hg : ∀ (s : Shared) (H : Hp) (C : Addr) (cl : List (Str × Addr)) (fp : List Addr), PG (X.blk s H scope (compEnvC scope cl C X.env) fp) tg g)
    (hk : ∀ (s : Shared) (H : Hp) (C : Addr) (cl : List (Str × Addr)) (fp : List Addr), PE (X.blk s H scope (compEnvC scope cl C X.env) fp) kx tk)
    (hv : ∀ (s : Shared) (H : Hp) (C : Addr) (cl : List (Str × Addr)) (fp : List Addr), PE (X.blk s H scope (compEnvC scope cl C X.env) fp) vx tv) (hs : ∀ x, foldedSetIterable iter X.env x = pure x)
    (h : tDt wi g tk tv (own.map (·.2)) σ H Q)
    (out : ∀ D C s' m H', Inv X pins σ H' s' → Q (.ref D) H' → s'.heap.Ns C m → FpOk X pins H' C → compPost (model X.prog X.w) X.A X.xe use Qf (.ref D) C (.ok .next) s') :
    wpAny (model X.prog X.w) X.A (comprehension (.DictComp kx vx [⟨tg, iter, [], 0⟩] scope pos) scope X.env pos' newDict false (eval iter X.env) use) Qf X.xe s := by
  have cells : ∀ y ∈ scope.names, y.2 = .free → ∃ c, X.env.cells.lookup y.1 = some c := fun y hy e => (ok.free y hy e).elim (fun q => I.ok.has _ (.inl q)) fun q => I.ok.has _ (.inr q)
  refine wpAny_comprehension_free (use := use) rfl hs (closure_ok cells) ok.kind (fun y hy e => by rw [ok.uniq y hy, e]) (thn (hi.run pins s σ H _ I h) fun _ s1 h1 => thn h1 fun _ s2 h2 => ?_)
  obtain ⟨it, fp, tn, J, HI, rfl, I2, T, st, ft, rest⟩ := h2
  refine wpAny_newObj_type (newEnv_comp ?_)
  -- the new dict
  obtain ⟨D, eD⟩ : ∃ D, D = s2.heap.objs.size := ⟨_, rfl⟩
  rw [← eD]
  have fD : HI D = none := I2.hok.fresh (Nat.le_of_eq eD.symm)
  obtain ⟨W, ⟨m0, w0⟩, turn⟩ := rest D fD
  obtain ⟨s3, e3⟩ : ∃ s3 : Shared, s3 = { s2 with heap := s2.heap.push { cls := .type "dict", data := .dict #[] } } := ⟨_, rfl⟩
  have h3 : s3.heap = s2.heap.push { cls := .type "dict", data := .dict #[] } := by rw [e3]
  have I3 : Inv X pins σ (upd HI D (.dT [])) s3 := by
    rw [e3]
    refine I2.laid (t' := s2.toks) (fun _ _ e => Heap.get?_push_of_some _ e) (Nat.le_of_eq eD.symm) ?_
    rw [eD]
    exact dt_empty s2.heap I2.big
  have foot : ∀ b ∈ fp, FpOk X pins (upd HI D (.dT [])) b ∧ b < s3.heap.objs.size := fun b hb => by
    obtain ⟨_, e, _⟩ := T.obj _ _ st b hb
    have lt := Heap.lt_size e
    refine ⟨⟨?_, (ft b hb).2⟩, by rw [h3, Heap.size_push]; exact Nat.lt_succ_of_lt lt⟩
    rw [upd_ne (by rw [eD]; exact Nat.ne_of_lt lt)]
    exact (ft b hb).1
  have st3 : tn 0 s3.heap := T.keep _ _ _ st fun b _ o e => by rw [h3]; exact Heap.get?_push_of_some _ e
  have I4 := block_start I3 ok hN foot
  have G := hg s3 (upd HI D (.dT [])) s3.heap.objs.size (cellsFrom (s3.heap.objs.size + 1) scope.names (cloFrom X.env.cells scope.names [])) fp
  have Kx := hk s3 (upd HI D (.dT [])) s3.heap.objs.size (cellsFrom (s3.heap.objs.size + 1) scope.names (cloFrom X.env.cells scope.names [])) fp
  have Vx := hv s3 (upd HI D (.dT [])) s3.heap.objs.size (cellsFrom (s3.heap.objs.size + 1) scope.names (cloFrom X.env.cells scope.names [])) fp
  rw [← e3]
  show codeAny _ _ (.compStart _ 0 (.ref it) (.ref D) (compEnvC scope (cellsFrom (s3.heap.objs.size + 1) scope.names (cloFrom X.env.cells scope.names [])) s3.heap.objs.size X.env)) _ { s3 with heap := pushCells (s3.heap.push { cls := .type "dict", data := .dict #[] }) scope.names }
  generalize eC : compEnvC scope (cellsFrom (s3.heap.objs.size + 1) scope.names (cloFrom X.env.cells scope.names [])) s3.heap.objs.size X.env = ce at I4 G Kx Vx ⊢
  have cL : ce.locals = s3.heap.objs.size := by rw [← eC]; rfl
  have nfp : ∀ b ∈ fp, (upd HI D (.dT [])) b = none := fun b hb => (foot b hb).1.1
  generalize upd HI D (.dT []) = H3 at I3 I4 G Kx Vx w0 nfp foot
  generalize e4 : ({ s3 with heap := pushCells (s3.heap.push { cls := .type "dict", data := .dict #[] }) scope.names } : Shared) = s4 at I4 ⊢
  have st4 : tn 0 s4.heap := T.keep _ _ _ st3 fun b _ o e => by rw [← e4]; exact pushCells_keeps _ _ _ _ (Heap.get?_push_of_some _ e)
  have stay : ∀ {σ' : L2.St} {H' : Hp} {s' : Shared}, Inv (X.blk s3 H3 scope ce fp) [] σ' H' s' → (∀ b ∈ fp, H' b = none) → ∀ b ∈ fp, FpOk (X.blk s3 H3 scope ce fp) [] H' b := fun {σ' H' s'} I' n b hb =>
    ⟨n b hb, (I'.ok.exf b hb).1, I'.ok.exfs b hb, .inl hb, fun x c e => (I'.ok.exf b hb).2 x c e, fun p hp => absurd (show p ∈ ([] : List (Addr × Obj)) ++ [] from hp) (by simp)⟩
  refine codeAny_compStart_dict ?loop (T.self X.A 0 _ _ _ st4 ?loop)
  refine compLoop_anyD (fun n s' => ∃ i Hi, Inv (X.blk s3 H3 scope ce fp) [] (wipe σ (own.map (·.2))) Hi s' ∧ tn i s'.heap ∧ (∀ b ∈ fp, Hi b = none) ∧ W i n Hi) ?_ m0 ⟨0, H3, I4, st4, nfp, w0⟩
  rintro n s5 ⟨i, H5, I5, st5, n5, w5⟩
  rcases turn i n H5 w5 with ⟨stop, done⟩ | ⟨go, Nx, less, step⟩
  · refine thnF (T.done (X.blk s3 H3 scope ce fp) rfl rfl rfl hc i [] s5 _ H5 (fun _ _ => False) I5 (stay I5 n5) st5 stop) fun r s6 ⟨er, I6⟩ => ?_
    subst er
    have I7 : Inv X pins σ H5 s6 := I3.call' (ch := fp) I6.os I6.base I6.hok I6.bare fun b hb => ⟨(foot b hb).1.2.2.2.1, (foot b hb).1.2.1, (foot b hb).1.2.2.2.2.1, (foot b hb).1.2.2.2.2.2⟩
    have nC : H5 s3.heap.objs.size = none := by rw [← cL]; exact I6.free
    obtain ⟨m, ns, _⟩ := I6.loc
    have ns : s6.heap.Ns ce.locals m := ns
    rw [cL] at ns
    exact out D s3.heap.objs.size s6 m H5 I7 done ns (I3.fpOk (Nat.le_refl _) nC)
  · refine thnF (T.item (X.blk s3 H3 scope ce fp) rfl rfl rfl hc i [] s5 _ H5 (fun _ _ => False) I5 (stay I5 n5) st5 go) fun r s6 ⟨u, er, h6⟩ => ?_
    subst er
    refine thnF h6 fun _ s7 ⟨x, H7, I7, r7, y7, st7, n7⟩ => ?_
    refine thnF (G.run _ s7 _ H7 x u _ (I7.pinned (stay I7 n7) (T.obj _ _ st7)) r7 (step x H7 y7)) fun _ s8 ⟨σ8, H8, I8, wi8, q8⟩ => ?_
    refine thnF ((pts_nil (X := X.blk s3 H3 scope ce fp)).run _ s8 σ8 H8 (fun b H' => b = true ∧ H' = H8) I8 ⟨rfl, rfl⟩) fun b s9 ⟨H9, I9, eb, e9⟩ => ?_
    subst eb e9
    simp only [if_true]
    refine thnF (Kx.run _ s9 σ8 _ _ I9 q8) fun ku s10 ⟨yk, H10, I10, r10, q10⟩ => ?_
    refine thnF (Vx.run _ s10 σ8 H10 _ I10 q10) fun vu s11 ⟨yv, H11, I11, r11, b, kvs, k, ek, hb, hD, hz, nx⟩ => ?_
    subst ek
    obtain rfl : ku = Value.ref b := r10
    refine put_key (X := X.blk s3 H3 scope ce fp) hu I11 hD hb hz r11 fun s12 I12 => ?_
    obtain ⟨m', lt, w'⟩ := less _ nx
    have pin : ∀ b ∈ fp, ∀ o, s7.heap.get? b = some o → s12.heap.get? b = some o ∧ (upd H11 D (.dT (putK kvs k yv))) b = none := fun b hb o e =>
      let z := I12.pin (b, o) (List.mem_append_right _ (List.mem_append_right _ (mem_pinsAt hb e)))
      ⟨z.1, z.2.1⟩
    have ls : (wipe σ (own.map (·.2))).length = σ8.length := by rw [← wi8, wipe_length]
    refine ⟨m', lt, i + 1, _, (I12.unpinned (pins := [])).weak ls (fun j v e => ?_), T.keep _ _ _ st7 fun b hb o e => (pin b hb o e).1, fun b hb => ?_, w'⟩
    · rw [← wi8] at e
      exact (wipe_some e).1
    · obtain ⟨o, e, _⟩ := T.obj _ _ st7 b hb
      exact (pin b hb o e).2
theorem pe_dt {kx vx tg iter : Expr} {scope : Scope} {own : List (Str × Nat)} {pos : Pos} {wi : TI} {g : TG} {tk tv : TE} (hu : X.A.units < cLine) (hc : X.calm = true) (hN : X.N.Nodup) (hi : PI X tg iter wi) (ok : BlkOk X.N X.env.scope scope own)
    (hg : ∀ (s : Shared) (H : Hp) (C : Addr) (cl : List (Str × Addr)) (fp : List Addr), PG (X.blk s H scope (compEnvC scope cl C X.env) fp) tg g)
    (hk : ∀ (s : Shared) (H : Hp) (C : Addr) (cl : List (Str × Addr)) (fp : List Addr), PE (X.blk s H scope (compEnvC scope cl C X.env) fp) kx tk)
    (hv : ∀ (s : Shared) (H : Hp) (C : Addr) (cl : List (Str × Addr)) (fp : List Addr), PE (X.blk s H scope (compEnvC scope cl C X.env) fp) vx tv) (hs : ∀ x, foldedSetIterable iter X.env x = pure x := by intro _; rfl) :
    PE X (.DictComp kx vx [⟨tg, iter, [], 0⟩] scope pos) (tDt wi g tk tv (own.map (·.2))) := by
  refine ⟨fun pins s σ H Q I h => ?_⟩
  rw [arm_eval_DictComp]
  refine core hu hc hN I hi ok hg hk hv hs h fun D C s' m H' I' q ns f => ⟨m, ns, fun h'' sb => ?_⟩
  obtain ⟨g0, g1, g2, g3, g4, g5⟩ := f
  exact ⟨.ref D, H', I'.turned (t' := s'.toks) (fun b o hb e => (sb.2 b hb).trans e) g0 g1 g3 g4 g5, rfl, q⟩
/-- put into a local name on one line -/
theorem ps_setDt {i : Nat} {y : Str} {py : Pos} {kx vx tg iter : Expr} {scope : Scope} {own : List (Str × Nat)} {pos spos : Pos} {wi : TI} {g : TG} {tk tv : TE} (hu : X.A.units < cLine) (hc : X.calm = true) (hN : X.N.Nodup) (hy : X.N[i]? = some y) (hyl : X.env.scope.names.lookup y = some .local)
    (hsw : swapsWith (.DictComp kx vx [⟨tg, iter, [], 0⟩] scope pos) (some (.Name y py)) spos.line X.env = pure true) (hi : PI X tg iter wi) (ok : BlkOk X.N X.env.scope scope own)
    (hg : ∀ (s : Shared) (H : Hp) (C : Addr) (cl : List (Str × Addr)) (fp : List Addr), PG (X.blk s H scope (compEnvC scope cl C X.env) fp) tg g)
    (hk : ∀ (s : Shared) (H : Hp) (C : Addr) (cl : List (Str × Addr)) (fp : List Addr), PE (X.blk s H scope (compEnvC scope cl C X.env) fp) kx tk)
    (hv : ∀ (s : Shared) (H : Hp) (C : Addr) (cl : List (Str × Addr)) (fp : List Addr), PE (X.blk s H scope (compEnvC scope cl C X.env) fp) vx tv) (hs : ∀ x, foldedSetIterable iter X.env x = pure x := by intro _; rfl) :
    PS X (.Assign [.Name y py] (.DictComp kx vx [⟨tg, iter, [], 0⟩] scope pos) spos) (tAsg (tDt wi g tk tv (own.map (·.2))) (gName i)) := by
  refine ⟨fun pins s σ H D I h => ?_⟩
  rw [exec_Assign_Name_used _ _ _ _ hsw]
  refine wpAny_bind (wpAny_standAt (wpAny_bind ?_))
  show wpAny _ X.A (do let _ ← comprehension (.DictComp kx vx [⟨tg, iter, [], 0⟩] scope pos) scope X.env (firstIterPos [⟨tg, iter, [], 0⟩] pos) newDict false (eval iter X.env) (some (assign (.Name y py) X.env))) _ _ s
  have h : tDt wi g tk tv (own.map (·.2)) σ H (fun x H1 => gName i x σ H1 D.nx) := h
  refine wpAny_bind (thn (core (Qf := fun _ s' => SP X pins D .next s') hu hc hN I hi ok hg hk hv hs h fun L C s' m H' I' q ns f => ?_) fun _ s' hq => wpAny_pure (wpAny_pure hq))
  show wpAny _ _ (assign (.Name y py) X.env (.ref L)) _ _ _
  refine wpAny_assign_Name (store_ok2 (v := V.ref L) I' hN hy (.inl hyl) rfl (fun s2 I2 ⟨a, sb, ha⟩ => ?_) (.inr hyl))
  obtain ⟨g0, g1, g2, g3, g4, g5⟩ := f
  have ca : C ≠ a := by
    rcases ha with z | z
    · rw [z]; exact g1
    · exact fun e => g4 y a z e.symm
  refine ⟨m, ns.sameBut sb ca, fun h3 sb3 => ?_⟩
  exact ⟨_, H', I2.turned (t' := s2.toks) (fun b o hb e => (sb3.2 b hb).trans e) g0 g1 g3 g4 g5, q⟩
end
/-- over anything that is walked -/
theorem dt_it {J : It} {n : Nat} {G : Hp → Prop} {Y : Nat → Hp → V → Hp → Prop} (w : Walk J n G Y) {g : TG} {tk tv : TE} {vs : List Nat} {σ : L2.St} {H1 : Hp} {D : Addr} {Qd : Hp → Prop} (Pv : Nat → Hp → Prop) (h0 : Pv 0 (upd H1 D (.dT []))) (hG : ∀ i H, i ≤ n → Pv i H → G H)
    (hs : ∀ i x H H', i < n → Pv i H → Y i H x H' → g x (wipe σ vs) H' fun σ2 H2 => wipe σ2 vs = wipe σ vs ∧
      tk σ2 H2 fun y H3 => tv σ2 H3 fun z H4 => ∃ (b : Addr) (kvs : List (List Key × V)) (k : List Key), y = .ref b ∧ H4 b = some (.tup (k.map kV)) ∧ H4 D = some (.dT kvs) ∧ kvs.length < sizeLine ∧ Pv (i + 1) (upd H4 D (.dT (putK kvs k z)))) (hd : ∀ H, Pv n H → Qd H) :
    ∃ W : Nat → Nat → Hp → Prop, (∃ m, W 0 m (upd H1 D (.dT []))) ∧ ∀ i m Hi, W i m Hi →
      (J.stop i Hi ∧ Qd Hi) ∨ (J.go i Hi ∧ ∃ Nx : Hp → Prop, (∀ H', Nx H' → ∃ m', m' < m ∧ W (i + 1) m' H') ∧ ∀ x H', J.yld i Hi x H' → g x (wipe σ vs) H' fun σ2 H2 => wipe σ2 vs = wipe σ vs ∧
        tk σ2 H2 fun y H3 => tv σ2 H3 fun z H4 => ∃ (b : Addr) (kvs : List (List Key × V)) (k : List Key), y = .ref b ∧ H4 b = some (.tup (k.map kV)) ∧ H4 D = some (.dT kvs) ∧ kvs.length < sizeLine ∧ Nx (upd H4 D (.dT (putK kvs k z)))) := by
  refine ⟨fun i m H => m + i = n ∧ Pv i H, ⟨n, by simp, h0⟩, ?_⟩
  rintro i m H ⟨em, p⟩
  have hi : i ≤ n := by omega
  have q := hG i H hi p
  rcases Nat.lt_or_eq_of_le hi with lt | e
  · exact .inr ⟨w.goes i H lt q, Pv (i + 1), fun H' p' => ⟨n - (i + 1), by omega, by omega, p'⟩, fun x H' y => hs i x H H' lt p (w.yields i H x H' lt q y)⟩
  · subst e
    exact .inl ⟨w.stops H q, hd H p⟩
end DCT
set_option Elab.async false
set_option linter.all false
set_option maxRecDepth 100000
set_option maxHeartbeats 4000000
/-! sorted rows of (texts, many) -/
namespace ES
open PySem PySem.Spec PyProof.Rows L2
def pD (p : List Str × Nat) : PyData := .tuple [.tuple (p.1.map .str), .int (p.2 : Nat)]
/-- p stands not behind q -/
def leP (p q : List Str × Nat) : Prop := PySem.W.dataLt (pD q) (pD p) = false
theorem toks_strs : ∀ (a b : List Str) (l m : List (Int ⊕ List Nat)), PySem.W.keyToksAll (a.map .str) ++ l = PySem.W.keyToksAll (b.map .str) ++ m → a = b ∧ l = m
  | [], [], l, m, h => ⟨rfl, List.append_cancel_left h⟩
  | [], y :: b, l, m, h => by
    rw [List.map_nil, List.map_cons, PySem.W.toks_all_cons, PySem.W.keyToksAll] at h
    simp at h
  | x :: a, [], l, m, h => by
    rw [List.map_nil, List.map_cons, PySem.W.toks_all_cons, PySem.W.keyToksAll] at h
    simp at h
  | x :: a, y :: b, l, m, h => by
    rw [List.map_cons, List.map_cons, PySem.W.toks_all_cons, PySem.W.toks_all_cons] at h
    simp only [PySem.W.keyToks, List.cons_append, List.nil_append, List.cons.injEq, true_and, Sum.inr.injEq] at h
    obtain ⟨h1, h2⟩ := h
    obtain ⟨e1, e2⟩ := toks_strs a b l m h2
    exact ⟨by rw [PySem.W.str_of_cps h1, e1], e2⟩
theorem toks_inj {p q : List Str × Nat} (h : PySem.W.keyToks (pD p) = PySem.W.keyToks (pD q)) : p = q := by
  unfold pD at h
  simp only [PySem.W.keyToks, PySem.W.toks_all_cons, List.cons.injEq, true_and] at h
  obtain ⟨e1, e2⟩ := toks_strs _ _ _ _ h
  simp only [List.cons_append, List.nil_append, List.cons.injEq, true_and, Sum.inl.injEq] at e2
  exact Prod.ext e1 (by omega)
theorem leP_anti {p q : List Str × Nat} (h1 : leP p q) (h2 : leP q p) : p = q := toks_inj (lex_total _ _ h2 h1)
/-- two sorted rows of the same are one -/
theorem same {l m : List (List Str × Nat)} (h1 : l.Pairwise leP) (h2 : m.Pairwise leP) (p : l.Perm m) : l = m :=
  List.Perm.eq_of_pairwise (le := leP) (fun a b _ _ x y => leP_anti x y) h1 h2 p
/-- unlike rows with the same members -/
theorem perm_of {l m : List (List Str × Nat)} (h1 : l.Nodup) (h2 : m.Nodup) (h : ∀ x, x ∈ l ↔ x ∈ m) : l.Perm m := (List.perm_ext_iff_of_nodup h1 h2).mpr h
theorem srtE {α : Type} (g : α → V) (p : α → List Str × Nat) (l : List α) : ∃ l' : List α, SRT.srt (l.map g) (l.map fun a => pD (p a)) = l'.map g ∧ l'.Perm l ∧ (l'.map p).Pairwise leP := by
  have tot := PySem.W.sortLe_total (listOrd itemOrd) false (fun p : V × PyData => PySem.W.keyToks p.2)
  have pw := PySem.W.sort_pairwise tot ((l.map g).zip (l.map fun a => pD (p a)))
  have pm := List.mergeSort_perm ((l.map g).zip (l.map fun a => pD (p a))) SRT.leD
  have pw' : (((l.map g).zip (l.map fun a => pD (p a))).mergeSort SRT.leD).Pairwise fun a b => SRT.leD a b = true := pw
  unfold SRT.srt
  generalize ((l.map g).zip (l.map fun a => pD (p a))).mergeSort SRT.leD = L at pm pw'
  rw [List.zip_map'] at pm
  obtain ⟨l', p1, rfl⟩ := SDC.perm_inv pm (l := l) rfl
  refine ⟨l', by rw [List.map_map]; rfl, p1, List.pairwise_map.mpr ((List.pairwise_map.mp pw').imp fun {a b} h => ?_)⟩
  have h' : (!PySem.W.dataLt (pD (p b)) (pD (p a))) = true := h
  simpa [leP] using h'
end ES
set_option Elab.async false
set_option linter.all false
set_option maxRecDepth 100000
set_option maxHeartbeats 4000000
/-! what rounds remember: sets and how often they rode, by length -/
namespace RM
open PySem PySem.Spec PyProof.Rows L2
abbrev Pr := List Str × Nat
def kS (ns : List Str) : List Key := ns.map Sum.inr
theorem kS_map (ns : List Str) : (kS ns).map kV = ns.map V.str := by
  unfold kS
  rw [List.map_map]
  rfl
theorem kS_inj {a b : List Str} (h : kS a = kS b) : a = b := by
  unfold kS at h
  exact (List.map_inj_right fun x y e => Sum.inr.inj e).mp h
/-- as a table -/
def enc (Q : List Pr) : List (List Key × V) := Q.map fun q => (kS q.1, V.int (q.2 : Nat))
def put (Q : List Pr) (ns : List Str) (m : Nat) : List Pr := if ns ∈ Q.map (·.1) then Q.map (fun q => if q.1 = ns then (q.1, m) else q) else Q ++ [(ns, m)]
theorem any_enc (ns : List Str) : ∀ Q : List Pr, ((enc Q).any fun kv => decide (kv.1 = kS ns)) = decide (ns ∈ Q.map (·.1))
  | [] => rfl
  | q :: Q => by
    have ih := any_enc ns Q
    unfold enc at ih ⊢
    rw [List.map_cons, List.any_cons, ih, List.map_cons]
    by_cases e : q.1 = ns
    · simp [e]
    · have e2 : ¬ kS q.1 = kS ns := fun z => e (kS_inj z)
      have e3 : ¬ ns = q.1 := fun z => e z.symm
      simp [e2, e3]
theorem putK_enc (Q : List Pr) (ns : List Str) (m : Nat) : putK (enc Q) (kS ns) (.int (m : Nat)) = enc (put Q ns m) := by
  unfold putK
  rw [any_enc]
  unfold put
  by_cases h : ns ∈ Q.map (·.1)
  · rw [if_pos (decide_eq_true h), if_pos h]
    unfold enc
    rw [List.map_map, List.map_map]
    refine List.map_congr_left fun q _ => ?_
    show (if kS q.1 = kS ns then (kS q.1, V.int (m : Nat)) else (kS q.1, V.int (q.2 : Nat))) = _
    by_cases e : q.1 = ns
    · simp [e]
    · have e2 : ¬ kS q.1 = kS ns := fun z => e (kS_inj z)
      simp [e, e2]
  · rw [if_neg (by simpa using h), if_neg h]
    unfold enc
    rw [List.map_append]
    rfl
theorem val_in {ns : List Str} {m : Nat} : ∀ {Q : List Pr}, (Q.map (·.1)).Nodup → (ns, m) ∈ Q → valV (enc Q) (kS ns) = some (.int (m : Nat))
  | q :: Q, nd, h => by
    rw [List.map_cons] at nd
    have n := List.nodup_cons.mp nd
    unfold enc
    rw [List.map_cons]
    rcases List.mem_cons.mp h with e | h
    · subst e
      exact valV_pos (p := (kS ns, V.int (m : Nat))) rfl
    · have ne : ¬ q.1 = ns := fun e => n.1 (by rw [e]; exact List.mem_map.mpr ⟨_, h, rfl⟩)
      rw [valV_neg (p := (kS q.1, V.int (q.2 : Nat))) (fun z => ne (kS_inj z))]
      exact val_in n.2 h
theorem val_no {ns : List Str} {Q : List Pr} (h : ns ∉ Q.map (·.1)) : valV (enc Q) (kS ns) = none := by
  have := any_enc ns Q
  rw [valV_any, decide_eq_false h] at this
  cases e : valV (enc Q) (kS ns) with
  | none => rfl
  | some v => rw [e] at this; cases this
theorem put_names {Q : List Pr} {ns : List Str} {m : Nat} (nd : (Q.map (·.1)).Nodup) : ((put Q ns m).map (·.1)).Nodup := by
  unfold put
  split
  · rw [List.map_map]
    have : (Q.map ((·.1) ∘ fun q : Pr => if q.1 = ns then (q.1, m) else q)) = Q.map (·.1) := List.map_congr_left fun q _ => by
      show (if q.1 = ns then (q.1, m) else q).1 = q.1
      split <;> rfl
    rw [this]
    exact nd
  · rename_i h
    rw [List.map_append]
    refine List.nodup_append.mpr ⟨nd, by simp, ?_⟩
    intro a ha b hb e
    simp at hb
    exact h (by rw [← hb, ← e]; exact ha)
theorem put_mem {Q : List Pr} {ns x : List Str} {m k : Nat} (nd : (Q.map (·.1)).Nodup) : (x, k) ∈ put Q ns m ↔ if x = ns then k = m else (x, k) ∈ Q := by
  unfold put
  split
  · rename_i h
    rw [List.mem_map]
    constructor
    · rintro ⟨q, hq, e⟩
      by_cases c : q.1 = ns
      · rw [if_pos c] at e
        cases e
        rw [if_pos c]
      · rw [if_neg c] at e
        subst e
        rw [if_neg c]
        exact hq
    · intro e
      by_cases c : x = ns
      · rw [if_pos c] at e
        obtain ⟨q, hq, e2⟩ := List.mem_map.mp h
        exact ⟨q, hq, by rw [if_pos e2, e2, c, e]⟩
      · rw [if_neg c] at e
        exact ⟨(x, k), e, if_neg c⟩
  · rename_i h
    rw [List.mem_append, List.mem_singleton]
    constructor
    · rintro (e | e)
      · have : ¬ x = ns := fun c => h (by rw [← c]; exact List.mem_map.mpr ⟨_, e, rfl⟩)
        rw [if_neg this]
        exact e
      · cases e
        rw [if_pos rfl]
    · intro e
      by_cases c : x = ns
      · rw [if_pos c] at e
        exact .inr (by rw [c, e])
      · rw [if_neg c] at e
        exact .inl e
/-- the sets amid their round behind some days -/
structure Amid (rode : List (List Str)) (P : List Pr) : Prop where
  nd : (P.map (·.1)).Nodup
  mem : ∀ ns m, (ns, m) ∈ P ↔ (ns ∈ rode ∧ m = rode.count ns % ns.length ∧ 0 < m)
  ln : P.length ≤ rode.length
theorem Amid.nil : Amid [] [] := ⟨by simp, fun ns m => by simp, Nat.le_refl _⟩
theorem nodup_of {P : List Pr} (h : (P.map (·.1)).Nodup) : P.Nodup := (List.pairwise_map.mp h).imp fun {a b} n e => n (by rw [e])
/-- what is remembered is told by the days alone, but for its order -/
theorem Amid.perm {rode : List (List Str)} {P Q : List Pr} (a : Amid rode P) (b : Amid rode Q) : P.Perm Q := ES.perm_of (nodup_of a.nd) (nodup_of b.nd) fun x => (a.mem x.1 x.2).trans (b.mem x.1 x.2).symm
theorem Amid.of_perm {rode : List (List Str)} {P Q : List Pr} (a : Amid rode P) (p : Q.Perm P) : Amid rode Q := ⟨(p.map (·.1)).symm.nodup a.nd, fun ns m => p.mem_iff.trans (a.mem ns m), by rw [p.length_eq]; exact a.ln⟩
theorem Amid.one {rode : List (List Str)} {P Q : List Pr} (a : Amid rode P) (b : Amid rode Q) (sp : P.Pairwise ES.leP) (sq : Q.Pairwise ES.leP) : P = Q := ES.same sp sq (a.perm b)
theorem Amid.get {rode : List (List Str)} {P : List Pr} (a : Amid rode P) (ns : List Str) : (valV (enc P) (kS ns)).getD (.int 0) = .int ((rode.count ns % ns.length : Nat) : Int) := by
  by_cases h : ns ∈ P.map (·.1)
  · obtain ⟨q, hq, e⟩ := List.mem_map.mp h
    have hq' : (ns, q.2) ∈ P := by rw [← e]; exact hq
    rw [val_in a.nd hq', ((a.mem _ _).mp hq').2.1]
    rfl
  · rw [val_no h]
    by_cases r : ns ∈ rode
    · have : rode.count ns % ns.length = 0 := by
        rcases Nat.eq_zero_or_pos (rode.count ns % ns.length) with z | z
        · exact z
        · exact absurd (List.mem_map.mpr ⟨_, (a.mem ns _).mpr ⟨r, rfl, z⟩, rfl⟩) h
      rw [this]
      rfl
    · rw [List.count_eq_zero.mpr r, Nat.zero_mod]
      rfl
theorem Amid.next {rode : List (List Str)} {P : List Pr} (a : Amid rode P) (fs : List Str) : Amid (rode ++ [fs]) ((put P fs ((rode.count fs % fs.length + 1) % fs.length)).filter fun q => decide (0 < q.2)) := by
  have nd := put_names (ns := fs) (m := (rode.count fs % fs.length + 1) % fs.length) a.nd
  refine ⟨nd.sublist (List.filter_sublist.map _), fun ns m => ?_, ?_⟩
  · rw [List.mem_filter, put_mem a.nd, List.count_append]
    by_cases c : ns = fs
    · subst c
      rw [if_pos rfl]
      have e : (rode.count ns % ns.length + 1) % ns.length = (rode.count ns + [ns].count ns) % ns.length := by
        rw [List.count_singleton_self, Nat.mod_add_mod]
      rw [e]
      simp
    · have e0 : [fs].count ns = 0 := List.count_eq_zero.mpr (by simpa using c)
      rw [if_neg c, a.mem, e0]
      simp [c]
  · refine Nat.le_trans (List.length_filter_le _ _) ?_
    have := a.ln
    rw [List.length_append]
    unfold put
    split
    · rw [List.length_map]
      exact Nat.le_trans this (Nat.le_add_right _ _)
    · rw [List.length_append]
      simp
      omega
end RM
set_option Elab.async false
set_option linter.all false
set_option maxRecDepth 100000
set_option maxHeartbeats 4000000
namespace K38
open PySem PySem.Spec PyProof.Rows L2
open C8 (Cal Mak Met pe_c pe_mk pe_mt pe_mt0)
open SX (S)
/-- credits stand at a -/
def Crd (H : Hp) (a : Addr) (xs : List Str) (c : Str → Int) : Prop := H a = some (.tup (xs.map fun x => V.int (c x)))
/-- credits behind a day -/
def nxt (R : List Str) (d : Str) (c : Str → Int) (x : Str) : Int := c x - (if x ∈ R then (840 : Int).fdiv (R.length : Int) else 0) + (if x = d then 840 else 0)
theorem Crd.same {H H' : Hp} {a : Addr} {xs : List Str} {c : Str → Int} (h : Crd H a xs c) (e : Same H H') : Crd H' a xs c := e _ _ h
/-- the riders, as in the order -/
def fs (xs R : List Str) : List Str := xs.filter fun x => decide (x ∈ R)
theorem fs_ne {xs R : List Str} (dy : DayOk xs R) : fs xs R ≠ [] := fun z => by
  obtain ⟨y, hy⟩ := List.exists_mem_of_ne_nil R dy.ne
  have : y ∈ fs xs R := List.mem_filter.mpr ⟨dy.sub y hy, decide_eq_true hy⟩
  rw [z] at this
  cases this
theorem fs_pos {xs R : List Str} (dy : DayOk xs R) : 0 < (fs xs R).length := List.length_pos_iff.mpr (fs_ne dy)
/-- who drives by the rounds -/
def Drv (rode : List (List Str)) (xs R : List Str) (y : Str) : Prop := (fs xs R)[rode.count (fs xs R) % (fs xs R).length]? = some y
theorem Drv.same {rode : List (List Str)} {xs R : List Str} {y z : Str} (a : Drv rode xs R y) (b : Drv rode xs R z) : y = z := Option.some.inj (a.symm.trans b)
theorem Drv.mem {rode : List (List Str)} {xs R : List Str} {y : Str} (a : Drv rode xs R y) : y ∈ R ∧ y ∈ xs := by
  have := List.mem_filter.mp (List.mem_of_getElem? a)
  exact ⟨of_decide_eq_true this.2, this.1⟩
/-- a set amid its round -/
structure Ent where
  pt : Addr
  nt : Addr
  p : RM.Pr
def EntOk (H : Hp) (e : Ent) : Prop := H e.pt = some (.tup [.ref e.nt, .int (e.p.2 : Nat)]) ∧ H e.nt = some (.tup (e.p.1.map V.str))
theorem EntOk.ext {H H' : Hp} {e : Ent} (h : EntOk H e) (k : ∀ a ys, H a = some (.tup ys) → H' a = some (.tup ys)) : EntOk H' e := ⟨k _ _ h.1, k _ _ h.2⟩
/-- what rounds remember behind the days -/
def KeptX (rode : List (List Str)) (H : Hp) (kp : Addr) : Prop := ∃ es : List Ent, H kp = some (.tup (es.map fun e => V.ref e.pt)) ∧ (∀ e ∈ es, EntOk H e) ∧ RM.Amid rode (es.map Ent.p) ∧ (es.map Ent.p).Pairwise ES.leP
theorem KeptX.ext {rode : List (List Str)} {H H' : Hp} {kp : Addr} (h : KeptX rode H kp) (k : ∀ a ys, H a = some (.tup ys) → H' a = some (.tup ys)) : KeptX rode H' kp := by
  obtain ⟨es, h, q, l, s⟩ := h
  exact ⟨es, k _ _ h, fun e he => (q e he).ext k, l, s⟩
theorem KeptX.same {rode : List (List Str)} {H H' : Hp} {kp : Addr} (h : KeptX rode H kp) (s : Same H H') : KeptX rode H' kp := h.ext fun a ys e => s _ _ e
section
variable {P : Program} {w : World} {K : PySem.W.Frag} {mg : Str → Option Value} {base : Heap} {f C : Addr} {fd : FuncData}
def spFm : Sp := fun vs H Q _ => ∃ (r ot : Addr) (xs : List Str) (g : Int), vs = [.ref r] ∧ LeastR H r ot xs g ∧ ∀ (t : Addr) (H' : Hp), Same H H' → KeptX [] H' t → Q (.ref t) H'
theorem ok_fm (F : Dn K d_first_memory f fd) : FnOk P w K mg base CX0 1 f fd ["rule"] spFm := by
  refine F.ok sc_first_memory (fun vs H Q E h => ?_) (fun cdv A outer s H vs Q E hr h => ?_)
  · obtain ⟨r, ot, xs, g, rfl, _⟩ := h
    rfl
  · obtain ⟨r, ot, xs, g, rfl, ⟨hrr, hot, ox, g0, g1⟩, hQ⟩ := h
    refine ⟨_, PSs.nox (pss_cons (ps_if (pt_cmpR op_eq (pe_ix ix_tup (pv 0) pe_int (fun _ _ => rfl)) pe_str (nomark _)) pss_never pss_nil)
      (pss_cons (ps_if (pt_cmpR op_eq (pe_ix ix_tup (pv 0) pe_int (fun _ _ => rfl)) pe_str (nomark _)) pss_never pss_nil) (pss_one (ps_ret (pe_tup pa_nil))))), ?_⟩
    refine ⟨_, rfl, r, _, _, _, rfl, rfl, SqT.of hrr, rfl, rfl, _, rfl, ?_⟩
    rw [no_least]
    refine iteF ?_
    refine ⟨_, rfl, r, _, _, _, rfl, rfl, SqT.of hrr, rfl, rfl, _, rfl, ?_⟩
    rw [no_longest]
    refine iteF ?_
    exact ⟨by show 0 ≤ sizeLine; decide, fun t ft => hQ t _ (same_new ft) ⟨[], upd_same, fun e he => (by cases he), RM.Amid.nil, List.Pairwise.nil⟩⟩
theorem kpos {es : List Ent} {H : Hp} (i : Nat) : True := trivial
def spDb : Sp := fun vs H Q _ => ∃ (r ot kp rd : Addr) (xs R : List Str) (rode : List (List Str)) (g : Int), vs = [.ref r, .ref kp, .ref rd] ∧ LeastR H r ot xs g ∧ KeptX rode H kp ∧ rode.length ≤ 1000 ∧ H rd = some (.lst (R.map V.str)) ∧ DayOk xs R ∧
  ∀ H1, Same H H1 → ∀ y, Drv rode xs R y → Q (.str y) H1
theorem ok_db (F : Dn K d_driver_by f fd) (cNo : Cal P w K mg base 1 "names_of" spNo []) : FnOk P w K mg base CX0 2 f fd ["rule", "memory", "riders"] spDb := by
  refine F.ok sc_driver_by (fun vs H Q E h => ?_) (fun cdv A outer s H vs Q E hr h => ?_)
  · obtain ⟨r, ot, kp, rd, xs, R, rode, g, rfl, _⟩ := h
    rfl
  · obtain ⟨r, ot, kp, rd, xs, R, rode, g, rfl, ⟨hrr, hot, ox, g0, g1⟩, ⟨es, hk, hes, am, sr⟩, n1, hrd, dy, hQ⟩ := h
    have l8 := ox.l8
    have hu := hu_of hr
    have hu0 : (A.deeper (envOfC d_driver_by.qual d_driver_by.scope s.heap.objs.size f cdv)).units < cLine := by have := hr.un; omega
    have le : es.length ≤ 1000 := by
      have := am.ln
      rw [List.length_map] at this
      omega
    refine ⟨_, PSs.nox (pss_cons (ps_set (i := 3) sc_driver_by.nd rfl (.inl rfl) (pe_c cNo hr (by decide) rfl (pa_cons (pe_ix ix_tup (pv 0) pe_int (fun _ _ => rfl)) (pa_cons (pv 2) pa_nil))))
      (pss_cons (ps_if (pt_cmpR op_eq (pe_ix ix_tup (pv 0) pe_int (fun _ _ => rfl)) pe_str (nomark _)) pss_never pss_nil)
      (pss_cons (ps_if (pt_cmpR op_eq (pe_ix ix_tup (pv 0) pe_int (fun _ _ => rfl)) pe_str (nomark _)) pss_never pss_nil)
      (pss_cons (DCT.ps_setDt (i := 4) (own := [("same", 5), ("many", 6)]) (g := gTup K 2 (gCons (gName 5) (gCons (gName 6) gNil))) hu0 rfl sc_driver_by.nd rfl rfl (SDC.sw_true rfl rfl rfl (by decide +kernel)) (pi_tup (pv 1)) (blkOk_by (N := N_driver_by) (sc := defScope s_driver_by) (by decide +kernel))
        (fun _ _ _ _ _ => pg_tup rfl (pgs_cons (pg_name (i := 5) sc_driver_by.nd rfl (.inl rfl)) (pgs_cons (pg_name (i := 6) sc_driver_by.nd rfl (.inl rfl)) pgs_nil))) (fun _ _ _ _ _ => pv 5) (fun _ _ _ _ _ => pv 6))
      (pss_one (ps_ret (pe_ix ix_tup (pv 3) (pe_dget2 hu (pv 4) (pv 3) pe_int ⟨rfl, rfl, rfl, rfl⟩) (fun _ _ => rfl)))))))), ?_⟩
    refine ⟨_, rfl, r, _, _, _, rfl, rfl, SqT.of hrr, rfl, _, rfl, ot, rd, xs, R, rfl, hot, hrd, by omega, fun t H2 s2 ft ht => ?_⟩
    refine ⟨_, rfl, r, _, _, _, rfl, rfl, SqT.of (s2 _ _ hrr), rfl, rfl, _, rfl, ?_⟩
    rw [no_least]
    refine iteF ?_
    refine ⟨_, rfl, r, _, _, _, rfl, rfl, SqT.of (s2 _ _ hrr), rfl, rfl, _, rfl, ?_⟩
    rw [no_longest]
    refine iteF ?_
    have hk2 := s2 _ _ hk
    have hes2 : ∀ e ∈ es, EntOk H2 e := fun e he => (hes e he).ext fun a ys z => s2 _ _ z
    refine ⟨_, rfl, kp, rfl, ⟨_, SqT.of hk2⟩, fun D hD => DCT.dt_it walk_tup (fun i H3 => H3 D = some (.dT (RM.enc ((es.take i).map Ent.p))) ∧ Same H2 H3) ⟨upd_same, same_new hD⟩ (fun i H3 _ z => SqT.of (z.2 _ _ hk2)) ?_ ?_⟩
    · rintro i x H3 H3' hi ⟨hd, sm⟩ ⟨rfl, hx⟩
      rw [List.getElem?_map] at hx
      obtain ⟨e, he, rfl⟩ := Option.map_eq_some_iff.mp hx
      rw [List.length_map] at hi
      obtain ⟨e1, e2⟩ := (hes2 e (List.mem_of_getElem? he)).ext fun a ys z => sm _ _ z
      refine ⟨e.pt, _, rfl, SqT.of e1, rfl, _, _, rfl, _, _, rfl, rfl, rfl, ?_⟩
      refine ⟨_, rfl, _, rfl, e.nt, _, RM.kS e.p.1, rfl, by rw [RM.kS_map]; exact e2, hd, ?_, ?_, ?_⟩
      · unfold RM.enc
        rw [List.length_map, List.length_map, List.length_take]
        exact Nat.lt_of_le_of_lt (by omega : min i es.length ≤ 1000) (by decide)
      · rw [upd_same, RM.putK_enc]
        have et : es.take (i + 1) = es.take i ++ [e] := by rw [List.take_succ, he]; rfl
        have ni : e.p.1 ∉ ((es.take i).map Ent.p).map (·.1) := fun hm => by
          have nd := am.nd
          rw [List.map_map] at nd hm
          obtain ⟨e', he', ee⟩ := List.mem_map.mp hm
          obtain ⟨j, hj, rfl⟩ := List.mem_iff_getElem.mp he'
          rw [List.length_take] at hj
          rw [List.getElem_take] at ee
          have a1 : (es.map ((·.1) ∘ Ent.p))[j]? = (es.map ((·.1) ∘ Ent.p))[i]? := by
            rw [List.getElem?_map, List.getElem?_map, he, List.getElem?_eq_getElem (by omega)]
            exact congrArg some ee
          have := (List.getElem?_inj (by rw [List.length_map]; omega) nd).mp a1
          omega
        unfold RM.put
        rw [if_neg ni, et, List.map_append]
        rfl
      · intro a o z
        rw [upd_ne (ne_of_none z hD)]
        exact sm a o z
    · rintro H3 ⟨hd, sm⟩
      rw [List.length_map, List.take_length] at hd
      have ht3 := sm _ _ ht
      have fpos := fs_pos dy
      have em := am.get (fs xs R)
      refine ⟨_, rfl, _, rfl, D, rfl, .inr ⟨_, .inl hd⟩, _, rfl, _, DGet.t hd (k := RM.kS (fs xs R)) (by rw [RM.kS_map]; exact ht3), ?_⟩
      rw [em]
      have lm : rode.count (fs xs R) % (fs xs R).length < (fs xs R).length := Nat.mod_lt _ fpos
      refine ⟨t, _, _, .str ((fs xs R)[rode.count (fs xs R) % (fs xs R).length]), rfl, rfl, SqT.of ht3, atI_nat ?_, hQ H3 (s2.trans sm) _ (List.getElem?_eq_getElem lm)⟩
      show ((fs xs R).map V.str)[_]? = _
      rw [List.getElem?_map, List.getElem?_eq_getElem lm]
      rfl
end
end K38
set_option Elab.async false
set_option linter.all false
set_option maxRecDepth 100000
set_option maxHeartbeats 4000000
namespace K38
open PySem PySem.Spec PyProof.Rows L2
open C8 (Cal Mak Met pe_c pe_mk pe_mt pe_mt0)
open SX (S)
theorem dpStrs {K : PySem.W.Frag} {H : Hp} : ∀ ns : List Str, DpAll K H (ns.map V.str) (ns.map PyData.str)
  | [] => .nil
  | _ :: t => .cons (Dp.str _) (dpStrs t)
theorem dp_ent {K : PySem.W.Frag} {H : Hp} {e : Ent} (h : EntOk H e) : Dp K H (.ref e.pt) (ES.pD e.p) :=
  Dp.tup (SqT.of h.1) (.cons (Dp.tup (SqT.of h.2) (dpStrs e.p.1)) (.cons (Dp.int _) .nil))
theorem dp_ents {K : PySem.W.Frag} {H : Hp} : ∀ {es : List Ent}, (∀ e ∈ es, EntOk H e) → DpAll K H (es.map fun e => V.ref e.pt) (es.map fun e => ES.pD e.p)
  | [], _ => .nil
  | e :: es, h => .cons (dp_ent (h e List.mem_cons_self)) (dp_ents fun x hx => h x (List.mem_cons_of_mem _ hx))
theorem alikeS : ∀ a b : List Str, PySem.W.alikeAll (a.map PyData.str) (b.map PyData.str) = true
  | [], _ => by simp [PySem.W.alikeAll]
  | _ :: _, [] => by simp [PySem.W.alikeAll]
  | _ :: a, _ :: b => by simp [PySem.W.alikeAll, PySem.W.alike, alikeS a b]
theorem depthS : ∀ a : List Str, PyData.depthAll (a.map PyData.str) ≤ 1
  | [] => by simp [PyData.depthAll]
  | _ :: a => by
    have := depthS a
    simp [PyData.depthAll, PyData.depth]
    omega
theorem alikeP (p q : RM.Pr) : PySem.W.alike (ES.pD p) (ES.pD q) = true := by
  unfold ES.pD
  simp [PySem.W.alike, PySem.W.alikeAll, alikeS]
theorem depthP (p : RM.Pr) : (ES.pD p).depth ≤ 60 := by
  have := depthS p.1
  unfold ES.pD
  simp [PyData.depth, PyData.depthAll]
  omega
section
variable {P : Program} {w : World} {K : PySem.W.Frag} {mg : Str → Option Value} {base : Heap} {f C : Addr} {fd : FuncData}
def spPb : Sp := fun vs H Q _ => ∃ (ot hd rd : Addr) (xs R : List Str) (d : Str) (c : Str → Int), vs = [.ref ot, .ref hd, .ref rd, .str d] ∧ H ot = some (.tup (xs.map V.str)) ∧ xs.length ≤ 13 ∧ Crd H hd xs c ∧ H rd = some (.lst (R.map V.str)) ∧ R ≠ [] ∧ R.length ≤ 13 ∧
  ∀ (t : Addr) (H' : Hp), Same H H' → H t = none → Crd H' t xs (nxt R d c) → Q (.ref t) H'
theorem ok_pb (F : Dn K d_parts_behind f fd) (b : Bl mg) (b2 : Bl2 mg) (gp : ∃ t, mg "RIDE_PARTS" = some (.int 840 t)) : FnOk P w K mg base CX0 1 f fd ["order", "held", "riders", "driver"] spPb := by
  refine F.ok sc_parts_behind (fun vs H Q E h => ?_) (fun cdv A outer s H vs Q E hr h => ?_)
  · obtain ⟨ot, hd, rd, xs, R, d, c, rfl, _⟩ := h
    rfl
  · obtain ⟨ot, hd, rd, xs, R, d, c, rfl, hot, l13, hc, hrd, rne, r13, hQ⟩ := h
    obtain ⟨t, gp⟩ := gp
    have rpos : 0 < R.length := List.length_pos_iff.mpr rne
    refine ⟨_, PSs.nox (pss_cons (ps_set (i := 4) sc_parts_behind.nd rfl (.inl rfl) (pe_lst pa_nil))
      (pss_cons (ps_for PassesOwn.never rfl (RZ.pi_zipA rfl b2.zip (pa_cons (pv 0) (pa_cons (pv 1) pa_nil))) (pg_tup rfl (pgs_cons (pg_name (i := 5) sc_parts_behind.nd rfl (.inl rfl)) (pgs_cons (pg_name (i := 6) sc_parts_behind.nd rfl (.inl rfl)) pgs_nil)))
        (C8.pss_cut (ps_set (i := 7) sc_parts_behind.nd rfl (.inl rfl) (pe_ifExp (pt_cmpR op_in_seq (pv 5) (pv 2) (by rfl)) (pe_op op_fdW (pe_glob (v := .int 840) rfl gp ⟨t, rfl⟩) (pe_callB call_len_seq rfl b.len boot_len (pa_cons (pv 2) pa_nil))) pe_int))
        (C8.pss_cut (ps_set (i := 8) sc_parts_behind.nd rfl (.inl rfl) (pe_ifExp (pt_cmpR op_eq (pv 5) (pv 3) (nomark _)) (pe_glob (v := .int 840) rfl gp ⟨t, rfl⟩) pe_int))
        (pss_one (ps_expr (pe_bm PySem.F.plainAttrs_list PySem.F.slot_list_append PySem.F.type_list_append mt_append (pv 4) (pa_cons (pe_op op_add (pe_op op_sub (pv 6) (pv 7)) (pv 8)) pa_nil)))))))
      (pss_one (ps_ret (pe_callTy call_tuple_of rfl b2.tup boot_tuple (pa_cons (pv 4) pa_nil)))))), ?_⟩
    refine ⟨by show 0 ≤ sizeLine; decide, fun o fo => ?_⟩
    have so := same_new (o := .lst []) fo
    refine ⟨_, rfl, _, rfl, ot, hd, _, _, rfl, .inr ⟨SqT.of (so _ _ hot), SqT.of (so _ _ hc), ?_⟩⟩
    refine RZ.for_zipT (by simp) (fun i σ H2 => ∃ (v5 v6 v7 v8 : Option V), σ = [some (.ref ot), some (.ref hd), some (.ref rd), some (.str d), some (.ref o), v5, v6, v7, v8] ∧ H2 o = some (.lst ((xs.take i).map fun x => V.int (nxt R d c x))) ∧ Same H H2)
      ⟨_, _, _, _, rfl, upd_same, so⟩ (fun i σ H2 ⟨_, _, _, _, _, _, sm⟩ => ⟨SqT.of (sm _ _ hot), SqT.of (sm _ _ hc)⟩) ?_ ?_
    · rintro i x y T σ H2 hx hy ⟨v5, v6, v7, v8, rfl, ho, sm⟩ hT
      have hi' : i < xs.length := by
        have := (List.getElem?_eq_some_iff.mp hx).1
        simpa using this
      rw [List.getElem?_map] at hx hy
      obtain ⟨z, hz, rfl⟩ := Option.map_eq_some_iff.mp hx
      rw [hz] at hy
      cases hy
      have et : xs.take (i + 1) = xs.take i ++ [z] := by rw [List.take_succ, hz]; rfl
      have sT := same_new (o := .tup [V.str z, V.int (c z)]) hT
      refine ⟨T, _, rfl, SqT.of upd_same, rfl, _, _, rfl, _, _, rfl, rfl, ?_⟩
      refine ⟨fun σ' H' => H' = upd H2 T (.tup [V.str z, V.int (c z)]) ∧ ∃ v8, σ' = [some (.ref ot), some (.ref hd), some (.ref rd), some (.str d), some (.ref o), some (.str z), some (.int (c z)), some (.int (if z ∈ R then (840 : Int).fdiv (R.length : Int) else 0)), v8], ?_, ?_⟩
      · refine ⟨_, rfl, _, rfl, rd, _, rfl, .inl (SqL.of (sT _ _ (sm _ _ hrd))), rfl, flat_strs R, _, rfl, ?_⟩
        simp only [Bool.false_eq_true, if_false]
        rw [inV_strs]
        refine ite2 (fun hm => ?_) (fun hm => ?_)
        · refine ⟨_, rfl, rd, _, rfl, .inl (SqL.of (sT _ _ (sm _ _ hrd))), _, _, rfl, rfl, ?_, rfl, v8, ?_⟩
          · rw [List.length_map]
            exact ⟨by omega, log_lt (n := 4) (by omega) (by decide) (by decide)⟩
          · rw [if_pos (of_decide_eq_true hm), List.length_map]
            rfl
        · refine ⟨rfl, v8, ?_⟩
          rw [if_neg (fun q => hm (decide_eq_true q))]
          rfl
      rintro σ' H' ⟨rfl, v8, rfl⟩
      refine ⟨fun σ' H' => H' = upd H2 T (.tup [V.str z, V.int (c z)]) ∧ σ' = [some (.ref ot), some (.ref hd), some (.ref rd), some (.str d), some (.ref o), some (.str z), some (.int (c z)), some (.int (if z ∈ R then (840 : Int).fdiv (R.length : Int) else 0)), some (.int (if z = d then 840 else 0))], ?_, ?_⟩
      · refine ⟨_, rfl, _, rfl, rfl, _, rfl, ?_⟩
        by_cases e : z = d
        · have z0 : decide (V.str z = V.str d) = true := by simp [e]
          rw [z0]
          refine iteT ⟨rfl, ?_⟩
          rw [if_pos e]
          rfl
        · have z0 : decide (V.str z = V.str d) = false := by simp [e]
          rw [z0]
          refine iteF ⟨rfl, ?_⟩
          rw [if_neg e]
          rfl
      rintro σ' H' ⟨rfl, rfl⟩
      refine ⟨_, rfl, Or.inl ⟨rfl, _, SqL.of (sT _ _ ho)⟩, _, rfl, _, rfl, _, _, rfl, rfl, _, rfl, _, _, rfl, rfl, o, _, _, rfl, rfl, sT _ _ ho, ?_, _, _, _, _, rfl, ?_, ?_⟩
      · rw [List.length_map, List.length_take]
        exact Nat.lt_of_lt_of_le (by omega : min i xs.length < 64) (by decide)
      · rw [upd_same, et, List.map_append]
        rfl
      · intro a u e
        rw [upd_ne (ne_of_none e fo)]
        exact sT a u (sm a u e)
    · rintro σ H2 ⟨v5, v6, v7, v8, rfl, ho, sm⟩
      rw [List.length_map, List.take_length] at ho
      exact ⟨_, rfl, o, _, rfl, .inl ⟨SqL.of ho, fun l fl => hQ l _ (sm.trans (same_new fl)) (sm.free fl) upd_same⟩⟩
def spRb : Sp := fun vs H Q _ => ∃ (ot kp rd : Addr) (xs R : List Str) (rode : List (List Str)), vs = [.ref ot, .ref kp, .ref rd] ∧ H ot = some (.tup (xs.map V.str)) ∧ xs.length ≤ 8 ∧ KeptX rode H kp ∧ rode.length ≤ 1000 ∧ H rd = some (.lst (R.map V.str)) ∧ DayOk xs R ∧
  ∀ (t : Addr) (H' : Hp), Same H H' → KeptX (rode ++ [fs xs R]) H' t → Q (.ref t) H'
theorem ok_rb (F : Dn K d_rounds_behind f fd) (b : Bl mg) (b2 : Bl2 mg) (srt : mg "sorted" = none) (cNo : Cal P w K mg base 1 "names_of" spNo []) : FnOk P w K mg base CX0 2 f fd ["order", "rounds", "riders"] spRb := by
  refine F.ok sc_rounds_behind (fun vs H Q E h => ?_) (fun cdv A outer s H vs Q E hr h => ?_)
  · obtain ⟨ot, kp, rd, xs, R, rode, rfl, _⟩ := h
    rfl
  · obtain ⟨ot, kp, rd, xs, R, rode, rfl, hot, l8, ⟨es, hk, hes, am, sr⟩, n1, hrd, dy, hQ⟩ := h
    have hu := hu_of hr
    have hu0 : (A.deeper (envOfC d_rounds_behind.qual d_rounds_behind.scope s.heap.objs.size f cdv)).units < cLine := by have := hr.un; omega
    have hu64 : (A.deeper (envOfC d_rounds_behind.qual d_rounds_behind.scope s.heap.objs.size f cdv)).units + 64 < cLine := by have := hr.un; omega
    have le : es.length ≤ 1000 := by
      have := am.ln
      rw [List.length_map] at this
      omega
    refine ⟨_, PSs.nox (pss_cons (ps_set (i := 3) sc_rounds_behind.nd rfl (.inl rfl) (pe_c cNo hr (by decide) rfl (pa_cons (pv 0) (pa_cons (pv 2) pa_nil))))
      (pss_cons (ps_set (i := 4) sc_rounds_behind.nd rfl (.inr rfl) (DCT.pe_dt (own := [("same", 5), ("many", 6)]) (g := gTup K 2 (gCons (gName 5) (gCons (gName 6) gNil))) hu0 rfl sc_rounds_behind.nd (pi_tup (pv 1)) (blkOk_by (N := N_rounds_behind) (sc := defScope s_rounds_behind) (by decide +kernel))
          (fun _ _ _ _ _ => pg_tup rfl (pgs_cons (pg_name (i := 5) sc_rounds_behind.nd rfl (.inl rfl)) (pgs_cons (pg_name (i := 6) sc_rounds_behind.nd rfl (.inl rfl)) pgs_nil))) (fun _ _ _ _ _ => pv 5) (fun _ _ _ _ _ => pv 6)))
      (pss_cons (ps_dput hu (pv 4) (pv 3) (pe_op op_mod (pe_op op_add (pe_dget2 hu (pv 4) (pv 3) pe_int ⟨rfl, rfl, rfl, rfl⟩) pe_int) (pe_callB call_len_seq rfl b.len boot_len (pa_cons (pv 3) pa_nil))) rfl)
      (pss_one (ps_ret (pe_callTy call_tuple_of rfl b2.tup boot_tuple (pa_cons (pe_callB (SRT.cr_sortedD hu64) rfl srt boot_sorted (pa_cons (pe_lock (pe_lc (own := [("same", 5)]) (g := gName 5) rfl sc_rounds_behind.nd (pi_keys (pv 4)) (blkOk_by (N := N_rounds_behind) (sc := defScope s_rounds_behind) (by decide +kernel))
          (fun _ _ _ _ _ => pg_name (i := 5) sc_rounds_behind.nd rfl (Or.inl rfl)) (fun _ _ _ _ _ => pts_one (pt_cmpR op_gt (pe_dget hu (pv 4) (pv 5) (fun _ _ => rfl)) pe_int (nomark _))) (fun _ _ _ _ _ => pe_tup (pa_cons (pv 5) (pa_cons (pe_dget hu (pv 4) (pv 5) (fun _ _ => rfl)) pa_nil))))) pa_nil)) pa_nil))))))), ?_⟩
    refine ⟨_, rfl, _, rfl, ot, rd, xs, R, rfl, hot, hrd, by omega, fun t H2 s2 ft ht => ?_⟩
    have hk2 := s2 _ _ hk
    have hes2 : ∀ e ∈ es, EntOk H2 e := fun e he => (hes e he).ext fun a ys z => s2 _ _ z
    refine ⟨_, rfl, kp, rfl, ⟨_, SqT.of hk2⟩, fun D hD => DCT.dt_it walk_tup (fun i H3 => H3 D = some (.dT (RM.enc ((es.take i).map Ent.p))) ∧ Same H2 H3) ⟨upd_same, same_new hD⟩ (fun i H3 _ z => SqT.of (z.2 _ _ hk2)) ?_ ?_⟩
    · rintro i x H3 H3' hi ⟨hd, sm⟩ ⟨rfl, hx⟩
      rw [List.getElem?_map] at hx
      obtain ⟨e, he, rfl⟩ := Option.map_eq_some_iff.mp hx
      rw [List.length_map] at hi
      obtain ⟨e1, e2⟩ := (hes2 e (List.mem_of_getElem? he)).ext fun a ys z => sm _ _ z
      refine ⟨e.pt, _, rfl, SqT.of e1, rfl, _, _, rfl, _, _, rfl, rfl, rfl, ?_⟩
      refine ⟨_, rfl, _, rfl, e.nt, _, RM.kS e.p.1, rfl, by rw [RM.kS_map]; exact e2, hd, ?_, ?_, ?_⟩
      · unfold RM.enc
        rw [List.length_map, List.length_map, List.length_take]
        exact Nat.lt_of_le_of_lt (by omega : min i es.length ≤ 1000) (by decide)
      · rw [upd_same, RM.putK_enc]
        have et : es.take (i + 1) = es.take i ++ [e] := by rw [List.take_succ, he]; rfl
        have ni : e.p.1 ∉ ((es.take i).map Ent.p).map (·.1) := fun hm => by
          have nd := am.nd
          rw [List.map_map] at nd hm
          obtain ⟨e', he', ee⟩ := List.mem_map.mp hm
          obtain ⟨j, hj, rfl⟩ := List.mem_iff_getElem.mp he'
          rw [List.length_take] at hj
          rw [List.getElem_take] at ee
          have a1 : (es.map ((·.1) ∘ Ent.p))[j]? = (es.map ((·.1) ∘ Ent.p))[i]? := by
            rw [List.getElem?_map, List.getElem?_map, he, List.getElem?_eq_getElem (by omega)]
            exact congrArg some ee
          have := (List.getElem?_inj (by rw [List.length_map]; omega) nd).mp a1
          omega
        unfold RM.put
        rw [if_neg ni, et, List.map_append]
        rfl
      · intro a o z
        rw [upd_ne (ne_of_none z hD)]
        exact sm a o z
    · rintro H3 ⟨hd, sm⟩
      rw [List.length_map, List.take_length] at hd
      have ht3 := sm _ _ ht
      have fpos := fs_pos dy
      have em := am.get (fs xs R)
      refine ⟨_, rfl, D, rfl, .inr ⟨_, .inl hd⟩, _, rfl, _, DGet.t hd (k := RM.kS (fs xs R)) (by rw [RM.kS_map]; exact ht3), ?_⟩
      rw [em]
      refine ⟨_, _, rfl, rfl, _, rfl, t, _, rfl, .inr (SqT.of ht3), _, _, rfl, rfl, by rw [List.length_map]; exact Int.natCast_pos.mpr fpos, ?_⟩
      have nx := am.next (fs xs R)
      have hput := DPut.t (v := .int (((rode.count (fs xs R) % (fs xs R).length + 1) % (fs xs R).length : Nat))) hd (k := RM.kS (fs xs R)) (by rw [RM.kS_map]; exact ht3) (by unfold RM.enc; rw [List.length_map, List.length_map]; exact Nat.lt_of_le_of_lt le (by decide))
      rw [RM.putK_enc] at hput
      have lkv : (RM.put (es.map Ent.p) (fs xs R) ((rode.count (fs xs R) % (fs xs R).length + 1) % (fs xs R).length)).length ≤ 1001 := by
        unfold RM.put
        split
        · rw [List.length_map, List.length_map]; omega
        · rw [List.length_append, List.length_map]; simp; omega
      have ndq := RM.put_names (ns := fs xs R) (m := (rode.count (fs xs R) % (fs xs R).length + 1) % (fs xs R).length) am.nd
      have ev : (((rode.count (fs xs R) % (fs xs R).length : Nat) : Int) + 1) % (((fs xs R).length : Nat) : Int) = (((rode.count (fs xs R) % (fs xs R).length + 1) % (fs xs R).length : Nat) : Int) := by push_cast; rfl
      generalize hm' : (rode.count (fs xs R) % (fs xs R).length + 1) % (fs xs R).length = m' at nx hput lkv ndq ev
      generalize RM.put (es.map Ent.p) (fs xs R) m' = Q2 at nx hput lkv ndq
      have hd4 : (upd H3 D (.dT (RM.enc Q2))) D = some (.dT (RM.enc Q2)) := upd_same
      have s4 : ∀ a o, a ≠ D → H2 a = some o → (upd H3 D (.dT (RM.enc Q2))) a = some o := fun a o na e => by
        rw [upd_ne na]
        exact sm a o e
      generalize upd H3 D (.dT (RM.enc Q2)) = H4 at hd4 s4 hput
      have nD : ∀ {a : Addr} {o : HO}, H2 a = some o → a ≠ D := fun e => ne_of_none e hD
      refine ⟨_, rfl, _, rfl, D, H4, rfl, ?_, ?_⟩
      · show DPut H3 D (.ref t) (V.int ((((rode.count (fs xs R) % (fs xs R).length : Nat) : Int) + 1) % ((((fs xs R).map V.str).length : Nat) : Int))) H4
        rw [List.length_map, ev]
        exact hput
      refine ⟨D, _, hd4, trivial, fun od => ?_⟩
      refine ⟨_, rfl, D, od, rfl, .inr ⟨_, upd_same, fun Dn hDn => ?_⟩⟩
      have nDn : Dn ≠ D := (ne_of_none upd_same hDn).symm
      have fDn : H4 Dn = none := by rw [upd_ne nDn] at hDn; exact hDn
      refine lc_it walk_keysT (fun j H' => ∃ es' : List Ent, H' Dn = some (.lst (es'.map fun e => V.ref e.pt)) ∧ (∀ e ∈ es', EntOk H' e) ∧ es'.map Ent.p = (Q2.take j).filter (fun q => decide (0 < q.2)) ∧ H' D = some (.frz od (.dT (RM.enc Q2))) ∧ ∀ a o, a ≠ D → H4 a = some o → H' a = some o) ?_ (fun j H' _ z => by
        obtain ⟨_, _, _, _, e, _⟩ := z
        exact e) ?_ ?_
      · refine ⟨[], upd_same, (fun e he => nomatch he), rfl, by rw [upd_ne nDn.symm]; exact upd_same, fun a o na e => ?_⟩
        rw [upd_ne (ne_of_none e fDn), upd_ne na]
        exact e
      · rintro j y Ha Hb hj ⟨es', hdn, hes', ep, hDa, ka⟩ ⟨rfl, k, v, q, ek, rfl, hq⟩
        unfold RM.enc at ek hj
        rw [List.length_map] at hj
        rw [List.getElem?_map] at ek
        obtain ⟨z, hz, ez⟩ := Option.map_eq_some_iff.mp ek
        cases ez
        have hzq := List.mem_of_getElem? hz
        have et : Q2.take (j + 1) = Q2.take j ++ [z] := by rw [List.take_succ, hz]; rfl
        have dg : DGet Hb D (.ref q) (some (.int (z.2 : Nat))) := .inr ⟨_, RM.kS z.1, q, .inr ⟨od, hDa⟩, rfl, hq, (RM.val_in ndq hzq).symm⟩
        refine ⟨rfl, ?_⟩
        refine ⟨_, rfl, _, rfl, D, _, rfl, dg, _, _, rfl, rfl, _, rfl, ?_⟩
        refine ite2 (fun hm => ?_) (fun hm => ?_)
        · have hm0 : 0 < z.2 := by have := of_decide_eq_true hm; omega
          refine ⟨_, rfl, _, rfl, _, rfl, D, _, rfl, dg, by show 2 ≤ sizeLine; decide, fun T fT => ?_⟩
          have sT := same_new (o := .tup [.ref q, .int (z.2 : Nat)]) fT
          have hdn2 := sT _ _ hdn
          have noL : ∀ {a : Addr} {zs : List V}, (upd Hb T (.tup [.ref q, .int (z.2 : Nat)])) a = some (.tup zs) → a ≠ Dn := fun e z => by rw [z, hdn2] at e; cases e
          have lj : es'.length ≤ j := by
            have := congrArg List.length ep
            rw [List.length_map] at this
            rw [this]
            exact Nat.le_trans (List.length_filter_le _ _) (by rw [List.length_take]; exact Nat.min_le_left _ _)
          refine ⟨_, hdn2, Nat.lt_of_le_of_lt (by rw [List.length_map]; omega : _ ≤ 2000) (by decide), es' ++ [⟨T, q, z⟩], ?_, ?_, ?_, ?_, ?_⟩
          · rw [upd_same, List.map_append]
            rfl
          · intro e he
            refine EntOk.ext ?_ fun a ys z => by
              rw [upd_ne (noL z)]
              exact z
            rcases List.mem_append.mp he with he | he
            · exact (hes' e he).ext fun a ys z => sT _ _ z
            · rw [List.mem_singleton] at he
              subst he
              exact ⟨upd_same, by rw [← RM.kS_map]; exact sT _ _ hq⟩
          · rw [List.map_append, ep, et, List.filter_append]
            simp [hm0]
          · rw [upd_ne nDn.symm]
            exact sT _ _ hDa
          · intro a o na e
            rw [upd_ne (ne_of_none e fDn)]
            exact sT _ _ (ka a o na e)
        · refine ⟨es', hdn, hes', ?_, hDa, ka⟩
          have hm0 : ¬ 0 < z.2 := fun q => hm (decide_eq_true (by omega))
          rw [ep, et, List.filter_append]
          simp [hm0]
      · rintro H5 ⟨es', hdn, hes', ep, hD5, k5⟩
        unfold RM.enc at ep
        rw [List.length_map, List.take_length] at ep
        refine ⟨hD5, ?_⟩
        have hdn6 : (upd H5 D (.dT (RM.enc Q2))) Dn = some (.lst (es'.map fun e => V.ref e.pt)) := by rw [upd_ne nDn]; exact hdn
        have hes6 : ∀ e ∈ es', EntOk (upd H5 D (.dT (RM.enc Q2))) e := fun e he => (hes' e he).ext fun a ys z => by
          rw [upd_ne (fun q => by rw [q, hD5] at z; cases z)]
          exact z
        have s6 : Same H2 (upd H5 D (.dT (RM.enc Q2))) := fun a o e => by
          rw [upd_ne (nD e)]
          exact k5 a o (nD e) (s4 a o (nD e) e)
        generalize upd H5 D (.dT (RM.enc Q2)) = H6 at hdn6 hes6 s6 ⊢
        refine ⟨Dn, _, es'.map fun e => ES.pD e.p, rfl, .inl (SqL.of hdn6), dp_ents hes6, ?_, ?_, ?_, fun sl fsl => ?_⟩
        · intro x hx y hy
          obtain ⟨e, _, rfl⟩ := List.mem_map.mp hx
          obtain ⟨e', _, rfl⟩ := List.mem_map.mp hy
          exact alikeP _ _
        · refine .inl fun x hx => ?_
          obtain ⟨e, _, rfl⟩ := List.mem_map.mp hx
          exact ⟨_, _, rfl⟩
        · intro x hx
          obtain ⟨e, _, rfl⟩ := List.mem_map.mp hx
          exact depthP _
        obtain ⟨gs, eg, pm, pw⟩ := ES.srtE (fun e : Ent => V.ref e.pt) Ent.p es'
        rw [eg]
        have ss := same_new (o := .lst (gs.map fun e => V.ref e.pt)) fsl
        have am2 : RM.Amid (rode ++ [fs xs R]) (gs.map Ent.p) := (ep ▸ nx : RM.Amid (rode ++ [fs xs R]) (es'.map Ent.p)).of_perm (pm.map _)
        exact ⟨sl, _, rfl, .inl ⟨SqL.of upd_same, fun l fl => hQ l _ (((s2.trans s6).trans ss).trans (same_new fl)) ⟨gs, upd_same, fun e he => (hes6 e (pm.mem_iff.mp he)).ext fun a ys z => same_new fl _ _ (ss _ _ z), am2, pw⟩⟩⟩
def spMb : Sp := fun vs H Q _ => ∃ (r ot kp rd : Addr) (xs R : List Str) (rode : List (List Str)) (g : Int), vs = [.ref r, .ref kp, .ref rd] ∧ LeastR H r ot xs g ∧ KeptX rode H kp ∧ rode.length ≤ 1000 ∧ H rd = some (.lst (R.map V.str)) ∧ DayOk xs R ∧
  ∀ (t : Addr) (H1 : Hp), Same H H1 → KeptX (rode ++ [fs xs R]) H1 t → Q (.ref t) H1
theorem ok_mb (F : Dn K d_memory_behind f fd) (cRb : Cal P w K mg base 2 "rounds_behind" spRb []) : FnOk P w K mg base CX0 3 f fd ["rule", "memory", "riders"] spMb := by
  refine F.ok sc_memory_behind (fun vs H Q E h => ?_) (fun cdv A outer s H vs Q E hr h => ?_)
  · obtain ⟨r, ot, kp, rd, xs, R, rode, g, rfl, _⟩ := h
    rfl
  · obtain ⟨r, ot, kp, rd, xs, R, rode, g, rfl, ⟨hrr, hot, ox, g0, g1⟩, kt, n1, hrd, dy, hQ⟩ := h
    have l8 := ox.l8
    refine ⟨_, PSs.nox (pss_cons (ps_if (pt_cmpR op_eq (pe_ix ix_tup (pv 0) pe_int (fun _ _ => rfl)) pe_str (nomark _)) (pss_one (ps_ret (pe_c cRb hr (by decide) rfl (pa_cons (pe_ix ix_tup (pv 0) pe_int (fun _ _ => rfl)) (pa_cons (pv 1) (pa_cons (pv 2) pa_nil)))))) pss_nil) pss_never), ?_⟩
    refine ⟨_, rfl, r, _, _, _, rfl, rfl, SqT.of hrr, rfl, rfl, _, rfl, iteT ?_⟩
    exact ⟨_, rfl, r, _, _, _, rfl, rfl, SqT.of hrr, rfl, _, rfl, _, rfl, ot, kp, rd, xs, R, rode, rfl, hot, l8, kt, n1, hrd, dy, fun t H3 s3 ht => hQ t H3 s3 ht⟩
end
end K38
set_option Elab.async false
set_option linter.all false
set_option maxRecDepth 100000
set_option maxHeartbeats 4000000
namespace K38
open PySem PySem.Spec PyProof.Rows L2
open C8 (Cal Mak Met pe_c pe_mk pe_mt pe_mt0)
open SX (S)
/-- the fields of a Turns -/
def trF (r hd kp ps : Addr) : List (Str × V) := putF "past" (.ref ps) (putF "kept" (.ref kp) (putF "held" (.ref hd) (putF "rule" (.ref r) [])))
theorem f1 : ¬ (("rule" : Str) = "held") := by decide +kernel
theorem f2 : ¬ (("rule" : Str) = "kept") := by decide +kernel
theorem f3 : ¬ (("rule" : Str) = "past") := by decide +kernel
theorem f4 : ¬ (("held" : Str) = "kept") := by decide +kernel
theorem f5 : ¬ (("held" : Str) = "past") := by decide +kernel
theorem f6 : ¬ (("kept" : Str) = "past") := by decide +kernel
theorem trF_eq (r hd kp ps : Addr) : trF r hd kp ps = [(("rule" : Str), V.ref r), (("held" : Str), V.ref hd), (("kept" : Str), V.ref kp), (("past" : Str), V.ref ps)] := by
  unfold trF putF
  simp only [putF, if_neg f1, if_neg f2, if_neg f3, if_neg f4, if_neg f5, if_neg f6]
theorem tr_rule (r hd kp ps : Addr) : (trF r hd kp ps).lookup ("rule" : Str) = some (.ref r) := by
  unfold trF
  rw [lookup_putF, if_neg f3, lookup_putF, if_neg f2, lookup_putF, if_neg f1, lookup_putF, if_pos rfl]
theorem tr_held (r hd kp ps : Addr) : (trF r hd kp ps).lookup ("held" : Str) = some (.ref hd) := by
  unfold trF
  rw [lookup_putF, if_neg f5, lookup_putF, if_neg f4, lookup_putF, if_pos rfl]
theorem tr_kept (r hd kp ps : Addr) : (trF r hd kp ps).lookup ("kept" : Str) = some (.ref kp) := by
  unfold trF
  rw [lookup_putF, if_neg f6, lookup_putF, if_pos rfl]
theorem tr_past (r hd kp ps : Addr) : (trF r hd kp ps).lookup ("past" : Str) = some (.ref ps) := by
  unfold trF
  rw [lookup_putF, if_pos rfl]
theorem tr_no (r hd kp ps : Addr) {m : Str} (h1 : ¬ m = "rule") (h2 : ¬ m = "held") (h3 : ¬ m = "kept") (h4 : ¬ m = "past") : (trF r hd kp ps).lookup m = none := by
  unfold trF
  rw [lookup_putF, if_neg h4, lookup_putF, if_neg h3, lookup_putF, if_neg h2, lookup_putF, if_neg h1]
  all_goals rfl
theorem put_held (r hd kp ps hd' : Addr) : putF "held" (.ref hd') (trF r hd kp ps) = trF r hd' kp ps := by
  rw [trF_eq, trF_eq]
  simp only [putF, if_neg f1, if_pos]
theorem put_kept (r hd kp ps kp' : Addr) : putF "kept" (.ref kp') (trF r hd kp ps) = trF r hd kp' ps := by
  rw [trF_eq, trF_eq]
  simp only [putF, if_neg f2, if_neg f4, if_pos]
/-- a Turns by a rule, its credits twice, the past -/
def Tr (CT : Addr) (H : Hp) (tu r hd kp ps : Addr) : Prop := ∃ dx, H tu = some (.ins CT dx (trF r hd kp ps))
/-- what is known of the class -/
structure ClT (K : PySem.W.Frag) (CT : Addr) : Prop where
  cl : Cls K CT
  nr : NoAttr K CT "rule"
  nh : NoAttr K CT "held"
  nk : NoAttr K CT "kept"
  np : NoAttr K CT "past"
section
variable {P : Program} {w : World} {K : PySem.W.Frag} {mg : Str → Option Value} {base : Heap} {f C CT : Addr} {fd : FuncData}
def spTi (CT : Addr) : Sp := fun vs H Q _ => ∃ (p dx r ot : Addr) (xs : List Str) (g : Int), vs = [.ref p, .ref r] ∧ H p = some (.ins CT dx []) ∧ LeastR H r ot xs g ∧
  ∀ (H' : Hp) (hd kp ps : Addr), (∀ a o, a ≠ p → H a = some o → H' a = some o) → H ps = none → H' p = some (.ins CT dx (trF r hd kp ps)) → Crd H' hd xs (fun _ => 0) → KeptX [] H' kp → H' ps = some (.lst []) → Q .non H'
theorem ok_ti (F : Dn K d_Turns_init f fd) (b2 : Bl2 mg) (T : ClT K CT) (cR : Cal P w K mg base 3 "is_rule" spRule []) (cFm : Cal P w K mg base 1 "first_memory" spFm []) : FnOk P w K mg base CX0 4 f fd ["self", "rule"] (spTi CT) := by
  refine F.ok sc_Turns_init (fun vs H Q E h => ?_) (fun cdv A outer s H vs Q E hr h => ?_)
  · obtain ⟨p, dx, r, ot, xs, g, rfl, _⟩ := h
    rfl
  · obtain ⟨p, dx, r, ot, xs, g, rfl, hp, lr, hQ⟩ := h
    obtain ⟨hrr, hot, ox, g0, g1⟩ := id lr
    have l8 := ox.l8
    refine ⟨_, PSs.nox (pss_cons (ps_if (pt_not (pt_val (pe_c cR hr (by decide) rfl (pa_cons (pv 1) pa_nil)))) pss_never pss_nil)
      (pss_cons (ps_fld (pv 0) (pv 1) rfl)
      (pss_cons (ps_fld (pv 0) (pe_callTy call_tuple_of rfl b2.tup boot_tuple (pa_cons (pe_lc (own := [("name", 2)]) (g := gName 2) (tt := tYes) rfl sc_Turns_init.nd (pi_tup (pe_ix ix_tup (pv 1) pe_int (fun _ _ => rfl))) (blkOk_by (N := N_Turns_init) (sc := defScope s_Turns_init) (by decide +kernel))
          (fun _ _ _ _ _ => pg_name (i := 2) sc_Turns_init.nd rfl (Or.inl rfl)) (fun _ _ _ _ _ => pts_nil) (fun _ _ _ _ _ => pe_int)) pa_nil)) rfl)
      (pss_cons (ps_fld (pv 0) (pe_c cFm hr (by decide) rfl (pa_cons (pv 1) pa_nil)) rfl)
      (pss_one (ps_fld (pv 0) (pe_lst pa_nil) rfl)))))), ?_⟩
    refine ⟨_, rfl, r, ot, xs, g, rfl, lr, fun H1 s1 => ⟨true, rfl, iteF ?_⟩⟩
    refine ⟨_, rfl, _, rfl, p, CT, dx, _, rfl, s1 _ _ hp, T.cl, T.nr, by show 0 < 1000; decide, ?_⟩
    have tn : ∀ {a : Addr} {ys : List V} {H2 : Hp}, H2 p = some (.ins CT dx []) → H2 a = some (.tup ys) → a ≠ p := fun e1 e2 z => by rw [z, e1] at e2; cases e2
    have hrr1 : (upd H1 p (.ins CT dx (putF "rule" (.ref r) []))) r = some (.tup [.str "rounds", .ref ot]) := by rw [upd_ne (tn hp hrr)]; exact s1 _ _ hrr
    have hot1 : (upd H1 p (.ins CT dx (putF "rule" (.ref r) []))) ot = some (.tup (xs.map V.str)) := by rw [upd_ne (tn hp hot)]; exact s1 _ _ hot
    refine ⟨_, rfl, r, _, _, _, rfl, rfl, SqT.of hrr1, rfl, ot, rfl, ⟨_, SqT.of hot1⟩, fun D hD => lc_tup (fun i H2 => H2 D = some (.lst ((xs.take i).map fun _ => V.int 0)) ∧ Same (upd H1 p (.ins CT dx (putF "rule" (.ref r) []))) H2) ⟨upd_same, same_new hD⟩ (fun _ H2 _ z => SqT.of (z.2 _ _ hot1)) ?_ ?_⟩
    · rintro i x H2 hx ⟨hd, sm⟩
      have hi' : i < xs.length := by
        have := (List.getElem?_eq_some_iff.mp hx).1
        simpa using this
      refine ⟨rfl, _, hd, ?_, ?_, ?_⟩
      · rw [List.length_map, List.length_take]
        exact Nat.lt_of_lt_of_le (by omega : min i xs.length < 64) (by decide)
      · rw [upd_same, zs_take xs i hi']
      · intro a o e
        rw [upd_ne (ne_of_none e hD)]
        exact sm a o e
    · rintro H2 ⟨hd, sm⟩
      rw [List.length_map, List.take_length] at hd
      refine ⟨D, _, rfl, .inl ⟨SqL.of hd, fun hl fl => ?_⟩⟩
      have s3 := sm.trans (same_new (o := .tup (xs.map fun _ => V.int 0)) fl)
      have hp3 := s3 _ _ (upd_same : (upd H1 p (.ins CT dx (putF "rule" (.ref r) []))) p = _)
      refine ⟨_, rfl, p, CT, dx, _, rfl, hp3, T.cl, T.nh, by show 1 < 1000; decide, ?_⟩
      have nhl : hl ≠ p := fun z => by rw [z] at fl; rw [sm _ _ (upd_same : (upd H1 p (.ins CT dx (putF "rule" (.ref r) []))) p = _)] at fl; cases fl
      have key : ∀ (a : Addr) (ys : List V), a ≠ p → (upd H1 p (.ins CT dx (putF "rule" (.ref r) []))) a = some (.tup ys) → (upd (upd H2 hl (.tup (xs.map fun _ => V.int 0))) p (.ins CT dx (putF "held" (.ref hl) (putF "rule" (.ref r) [])))) a = some (.tup ys) := fun a ys na e => by
        rw [upd_ne na]
        exact s3 _ _ e
      refine ⟨_, rfl, r, ot, xs, g, rfl, ⟨key _ _ (tn hp hrr) hrr1, key _ _ (tn hp hot) hot1, ox, g0, g1⟩, fun kl H4 s4 hk => ?_⟩
      have hp4 := s4 _ _ (upd_same : (upd (upd H2 hl (.tup (xs.map fun _ => V.int 0))) p (.ins CT dx (putF "held" (.ref hl) (putF "rule" (.ref r) [])))) p = _)
      refine ⟨_, rfl, p, CT, dx, _, rfl, hp4, T.cl, T.nk, by show (putF "held" (V.ref hl) (putF "rule" (V.ref r) [])).length < 1000; simp only [putF, if_neg f1]; show 2 < 1000; decide, ?_⟩
      refine ⟨by show 0 ≤ sizeLine; decide, fun pl fp => ?_⟩
      have npl : pl ≠ p := fun z => by rw [z, upd_same] at fp; cases fp
      have hp5 : (upd (upd H4 p (.ins CT dx (putF "kept" (.ref kl) (putF "held" (.ref hl) (putF "rule" (.ref r) []))))) pl (.lst [])) p = some (.ins CT dx (putF "kept" (.ref kl) (putF "held" (.ref hl) (putF "rule" (.ref r) [])))) := by
        rw [upd_ne npl.symm, upd_same]
      refine ⟨_, rfl, p, CT, dx, _, rfl, hp5, T.cl, T.np, by show (putF "kept" (V.ref kl) (putF "held" (V.ref hl) (putF "rule" (V.ref r) []))).length < 1000; simp only [putF, if_neg f1, if_neg f2, if_neg f4]; show 3 < 1000; decide, ?_⟩
      have back : ∀ a o, a ≠ p → H a = some o → H4 a = some o := fun a o na e => by
        refine s4 _ _ ?_
        rw [upd_ne na]
        refine s3 _ _ ?_
        rw [upd_ne na]
        exact s1 _ _ e
      rw [upd_ne npl] at fp
      have fpH : H pl = none := by
        cases e : H pl with
        | none => rfl
        | some o => rw [back pl o npl e] at fp; cases fp
      have hhl4 : H4 hl = some (.tup (xs.map fun _ => V.int 0)) := s4 _ _ (by rw [upd_ne nhl, upd_same])
      have nph : hl ≠ pl := ne_of_none hhl4 fp
      refine hQ _ hl kl pl (fun a o na e => ?_) fpH upd_same ?_ ?_ ?_
      · have e4 := back a o na e
        rw [upd_ne na, upd_ne (ne_of_none e4 fp), upd_ne na]
        exact e4
      · show (upd _ p _) hl = _
        rw [upd_ne nhl, upd_ne nph, upd_ne nhl]
        exact hhl4
      · refine hk.ext fun a ys e => ?_
        have na : a ≠ p := fun z => by rw [z, hp4] at e; cases e
        rw [upd_ne na, upd_ne (ne_of_none e fp), upd_ne na]
        exact e
      · rw [upd_ne npl, upd_same]
end
end K38
set_option Elab.async false
set_option linter.all false
set_option maxRecDepth 100000
set_option maxHeartbeats 4000000
namespace K38
open PySem PySem.Spec PyProof.Rows L2
open C8 (Cal Mak Met pe_c pe_mk pe_mt pe_mt0)
open SX (S)
theorem cut_strs (R : List Str) (i : Nat) (h : i ≤ R.length) : cutV (R.map V.str) none (some (i : Int)) = (R.take i).map V.str := by
  have z : ¬ ((i : Int) < 0) := by omega
  have z2 : ((i : Int) ≤ (R.length : Int)) := by omega
  unfold cutV HT.sIx
  simp [z, z2, Nat.min_eq_left h]
section
variable {P : Program} {w : World} {K : PySem.W.Frag} {mg : Str → Option Value} {base : Heap} {f C CT : Addr} {fd : FuncData}
def spCk (CT : Addr) : Sp := fun vs H Q _ => ∃ (tu rd r ot hd kp ps : Addr) (xs R : List Str) (g : Int), vs = [.ref tu, .ref rd] ∧ Tr CT H tu r hd kp ps ∧ LeastR H r ot xs g ∧ H rd = some (.lst (R.map V.str)) ∧ DayOk xs R ∧ ∀ H', Same H H' → Q .non H'
theorem ok_ck (F : Dn K d_Turns_check_riders f fd) (b : Bl mg) (b2 : Bl2 mg) (T : ClT K CT) : FnOk P w K mg base CX0 1 f fd ["self", "riders"] (spCk CT) := by
  refine F.ok sc_Turns_check_riders (fun vs H Q E h => ?_) (fun cdv A outer s H vs Q E hr h => ?_)
  · obtain ⟨tu, rd, r, ot, hd, kp, ps, xs, R, g, rfl, _⟩ := h
    rfl
  · obtain ⟨tu, rd, r, ot, hd, kp, ps, xs, R, g, rfl, ⟨dx, htu⟩, lr, hrd, dy, hQ⟩ := h
    obtain ⟨hrr, hot, ox, g0, g1⟩ := id lr
    have rpos : 0 < R.length := List.length_pos_iff.mpr dy.ne
    refine ⟨_, PSs.nox (pss_cons (ps_if (pt_cmpR op_eq (pe_callB call_len_seq rfl b.len boot_len (pa_cons (pv 1) pa_nil)) pe_int (nomark _)) pss_never pss_nil)
      (pss_one (ps_for PassesOwn.never rfl (pi_enum rfl b2.enum (pa_cons (pv 1) pa_nil)) (pg_tup rfl (pgs_cons (pg_name (i := 2) sc_Turns_check_riders.nd rfl (.inl rfl)) (pgs_cons (pg_name (i := 3) sc_Turns_check_riders.nd rfl (.inl rfl)) pgs_nil)))
        (pss_one (ps_if (PW.pt (pw_or (pt_cmpR op_notIn_seq (pv 3) (pe_ix ix_tup (pe_fld (pv 0) rfl) pe_int (fun _ _ => rfl)) (by rfl)) (pw_or1 (pt_cmpR op_in_seq (pv 3) (pe_slice sl_list (pv 1) po_none (po_some (pv 2))) (by rfl))))) pss_never pss_nil))))), ?_⟩
    refine ⟨_, rfl, rd, _, rfl, .inl (SqL.of hrd), rfl, _, rfl, ?_⟩
    have z0 : decide (V.int ((R.map V.str).length : Nat) = V.int 0) = false := by
      rw [List.length_map]
      exact decide_eq_false fun q => by injection q with q; omega
    rw [z0]
    refine iteF ?_
    refine ⟨_, rfl, rd, _, rfl, SqL.of hrd, for_it walk_enum (fun i σ H2 => ∃ v2 v3 : Option V, σ = [some (.ref tu), some (.ref rd), v2, v3] ∧ Same H H2) ⟨_, _, rfl, fun _ _ e => e⟩ (fun i σ H2 _ ⟨_, _, _, sm⟩ => SqL.of (sm _ _ hrd)) ?_ ?_⟩
    · rintro i x σ H2 H3 hi ⟨v2, v3, rfl, sm⟩ ⟨Tp, x1, x2, rfl, hT, rfl, e1, e2⟩
      rw [List.length_map] at hi
      cases e1
      have e2 : (List.map V.str R)[i]? = some x2 := e2
      rw [List.getElem?_map] at e2
      obtain ⟨z, hz, rfl⟩ := Option.map_eq_some_iff.mp e2
      have sT := same_new (o := .tup [V.int (i : Nat), V.str z]) hT
      have s3 := sm.trans sT
      refine ⟨Tp, _, rfl, SqT.of upd_same, rfl, _, _, rfl, _, _, rfl, rfl, ?_⟩
      refine ⟨_, rfl, _, rfl, tu, CT, dx, _, _, rfl, s3 _ _ htu, T.cl, T.nr, tr_rule _ _ _ _, r, _, _, _, rfl, rfl, SqT.of (s3 _ _ hrr), rfl, ot, _, rfl, .inr (SqT.of (s3 _ _ hot)), rfl, flat_strs xs, _, rfl, ?_⟩
      rw [inV_strs, decide_eq_true (dy.sub z (List.mem_of_getElem? hz))]
      refine iteF ?_
      refine ⟨_, rfl, _, rfl, _, rfl, _, rfl, rd, _, rfl, SqL.of (s3 _ _ hrd), fun sl fsl => ?_⟩
      rw [cut_strs R i (by omega)]
      have s4 := s3.trans (same_new (o := .lst ((R.take i).map V.str)) fsl)
      refine ⟨sl, _, rfl, .inl (SqL.of upd_same), rfl, flat_strs _, _, rfl, ?_⟩
      have nin : ¬ z ∈ R.take i := fun hm => by
        obtain ⟨j, hj, e⟩ := List.mem_iff_getElem.mp hm
        rw [List.getElem_take] at e
        rw [List.length_take] at hj
        have e3 : R[j]? = R[i]? := by rw [hz, List.getElem?_eq_getElem (by omega), e]
        have := (List.getElem?_inj (by omega) dy.nd).mp e3
        omega
      simp only [Bool.false_eq_true, if_false]
      rw [inV_strs, decide_eq_false nin]
      exact iteF ⟨_, _, rfl, s4⟩
    · rintro σ H2 ⟨v2, v3, rfl, sm⟩
      exact hQ H2 sm
def spWho (CT : Addr) : Sp := fun vs H Q _ => ∃ (tu rd r ot hd kp ps : Addr) (xs R : List Str) (rode : List (List Str)) (g : Int), vs = [.ref tu, .ref rd] ∧ Tr CT H tu r hd kp ps ∧ LeastR H r ot xs g ∧ KeptX rode H kp ∧ rode.length ≤ 1000 ∧ H rd = some (.lst (R.map V.str)) ∧ DayOk xs R ∧
  ∀ H1, Same H H1 → ∀ y, Drv rode xs R y → Q (.str y) H1
theorem ok_who (F : Dn K d_Turns_who f fd) (T : ClT K CT) (mC : Met P w K mg base 1 CT "check_riders" (spCk CT) []) (cDb : Cal P w K mg base 2 "driver_by" spDb []) : FnOk P w K mg base CX0 3 f fd ["self", "riders"] (spWho CT) := by
  refine F.ok sc_Turns_who (fun vs H Q E h => ?_) (fun cdv A outer s H vs Q E hr h => ?_)
  · obtain ⟨tu, rd, r, ot, hd, kp, ps, xs, R, rode, g, rfl, _⟩ := h
    rfl
  · obtain ⟨tu, rd, r, ot, hd, kp, ps, xs, R, rode, g, rfl, tr, lr, hk, pm, hrd, dy, hQ⟩ := h
    obtain ⟨dx, htu⟩ := id tr
    refine ⟨_, PSs.nox (pss_cons (ps_expr (pe_mt mC hr (by decide) (pv 0) (pa_cons (pv 1) pa_nil)))
      (pss_one (ps_ret (pe_c cDb hr (by decide) rfl (pa_cons (pe_fld (pv 0) rfl) (pa_cons (pe_fld (pv 0) rfl) (pa_cons (pv 1) pa_nil))))))), ?_⟩
    refine ⟨_, rfl, tu, dx, _, rfl, htu, tr_no _ _ _ _ (by decide +kernel) (by decide +kernel) (by decide +kernel) (by decide +kernel), _, rfl, tu, rd, r, ot, hd, kp, ps, xs, R, g, rfl, tr, lr, hrd, dy, fun H2 s2 => ?_⟩
    have htu2 := s2 _ _ htu
    refine ⟨_, rfl, tu, CT, dx, _, _, rfl, htu2, T.cl, T.nr, tr_rule _ _ _ _, _, rfl, tu, CT, dx, _, _, rfl, htu2, T.cl, T.nk, tr_kept _ _ _ _, _, rfl, r, ot, kp, rd, xs, R, rode, g, rfl, lr.same s2, hk.same s2, pm, s2 _ _ hrd, dy, fun H3 s3 y hy => hQ H3 (s2.trans s3) y hy⟩
/-- all is kept but the Turns and its past -/
def KpT (tu ps : Addr) (H H' : Hp) : Prop := ∀ b o, H b = some o → b ≠ tu → b ≠ ps → H' b = some o
def spRide (CT : Addr) : Sp := fun vs H Q _ => ∃ (tu rd r ot hd kp ps : Addr) (xs R : List Str) (rode : List (List Str)) (g : Int) (c : Str → Int) (past : List V), vs = [.ref tu, .ref rd] ∧ Tr CT H tu r hd kp ps ∧ LeastR H r ot xs g ∧ Crd H hd xs c ∧ KeptX rode H kp ∧ rode.length ≤ 1000 ∧ H rd = some (.lst (R.map V.str)) ∧ DayOk xs R ∧
  H ps = some (.lst past) ∧ past.length ≤ 1000 ∧ rd ≠ ps ∧
  ∀ (H1 : Hp) (hd' kp' : Addr) (y : Str), KpT tu ps H H1 → Drv rode xs R y → Tr CT H1 tu r hd' kp' ps → Crd H1 hd' xs (nxt R y c) → KeptX (rode ++ [fs xs R]) H1 kp' → H1 ps = some (.lst (past ++ [.str y])) → Q (.str y) H1
theorem ok_ride (F : Dn K d_Turns_ride f fd) (T : ClT K CT) (mW : Met P w K mg base 3 CT "who" (spWho CT) []) (cPb : Cal P w K mg base 1 "parts_behind" spPb []) (cMb : Cal P w K mg base 3 "memory_behind" spMb []) : FnOk P w K mg base CX0 4 f fd ["self", "riders"] (spRide CT) := by
  refine F.ok sc_Turns_ride (fun vs H Q E h => ?_) (fun cdv A outer s H vs Q E hr h => ?_)
  · obtain ⟨tu, rd, r, ot, hd, kp, ps, xs, R, rode, g, c, past, rfl, _⟩ := h
    rfl
  · obtain ⟨tu, rd, r, ot, hd, kp, ps, xs, R, rode, g, c, past, rfl, tr, lr, hcd, hck, pm, hrd, dy, hps, pl, nrp, hQ⟩ := h
    obtain ⟨dx, htu⟩ := id tr
    have l8 := lr.2.2.1.l8
    have r8 := dy.ln
    refine ⟨_, PSs.nox (pss_cons (ps_set (i := 2) sc_Turns_ride.nd rfl (.inl rfl) (pe_mt mW hr (by decide) (pv 0) (pa_cons (pv 1) pa_nil)))
      (pss_cons (ps_fld (pv 0) (pe_c cPb hr (by decide) rfl (pa_cons (pe_ix ix_tup (pe_fld (pv 0) rfl) pe_int (fun _ _ => rfl)) (pa_cons (pe_fld (pv 0) rfl) (pa_cons (pv 1) (pa_cons (pv 2) pa_nil))))) rfl)
      (pss_cons (ps_fld (pv 0) (pe_c cMb hr (by decide) rfl (pa_cons (pe_fld (pv 0) rfl) (pa_cons (pe_fld (pv 0) rfl) (pa_cons (pv 1) pa_nil)))) rfl)
      (pss_cons (ps_expr (pe_bm PySem.F.plainAttrs_list PySem.F.slot_list_append PySem.F.type_list_append mt_append (pe_fld (pv 0) rfl) (pa_cons (pv 2) pa_nil)))
      (pss_one (ps_ret (pv 2))))))), ?_⟩
    refine ⟨_, rfl, tu, dx, _, rfl, htu, tr_no _ _ _ _ (by decide +kernel) (by decide +kernel) (by decide +kernel) (by decide +kernel), _, rfl, tu, rd, r, ot, hd, kp, ps, xs, R, rode, g, rfl, tr, lr, hck, pm, hrd, dy, fun H2 e2 y hy => ?_⟩
    have htu2 : H2 tu = some (.ins CT dx (trF r hd kp ps)) := e2 _ _ htu
    have hrd2 : H2 rd = some (.lst (R.map V.str)) := e2 _ _ hrd
    have hps2 : H2 ps = some (.lst past) := e2 _ _ hps
    have lr2 := lr.same e2
    obtain ⟨hrr2, hot2, _⟩ := id lr2
    refine ⟨_, rfl, tu, CT, dx, _, _, rfl, htu2, T.cl, T.nr, tr_rule _ _ _ _, r, _, _, _, rfl, rfl, SqT.of hrr2, rfl, _, rfl, tu, CT, dx, _, _, rfl, htu2, T.cl, T.nh, tr_held _ _ _ _, _, rfl, _, rfl, ot, hd, rd, xs, R, y, c, rfl, hot2, by omega, hcd.same e2, hrd2, dy.ne, by omega, fun hd' H3 s3 fh hh => ?_⟩
    have len4 : ∀ a b c d : Addr, (trF a b c d).length < 1000 := fun a b c d => by rw [trF_eq]; show 4 < 1000; decide
    refine ⟨_, rfl, tu, CT, dx, _, rfl, s3 _ _ htu2, T.cl, T.nh, len4 _ _ _ _, ?_⟩
    rw [put_held]
    have nt : ∀ {a : Addr} {ys : List V}, H3 a = some (.tup ys) → a ≠ tu := fun e z => by rw [z, s3 _ _ htu2] at e; cases e
    have nl' : ∀ {a : Addr} {ys : List V}, H3 a = some (.lst ys) → a ≠ tu := fun e z => by rw [z, s3 _ _ htu2] at e; cases e
    have lr4 : LeastR (upd H3 tu (.ins CT dx (trF r hd' kp ps))) r ot xs g := (lr2.same s3).ext fun a ys e => by rw [upd_ne (nt e)]; exact e
    have hck4 : KeptX rode (upd H3 tu (.ins CT dx (trF r hd' kp ps))) kp := ((hck.same e2).same s3).ext fun a ys e => by rw [upd_ne (nt e)]; exact e
    have hrd4 : (upd H3 tu (.ins CT dx (trF r hd' kp ps))) rd = some (.lst (R.map V.str)) := by
      rw [upd_ne (nl' (s3 _ _ hrd2))]
      exact s3 _ _ hrd2
    refine ⟨_, rfl, tu, CT, dx, _, _, rfl, upd_same, T.cl, T.nr, tr_rule _ _ _ _, _, rfl, tu, CT, dx, _, _, rfl, upd_same, T.cl, T.nk, tr_kept _ _ _ _, _, rfl, r, ot, kp, rd, xs, R, rode, g, rfl, lr4, hck4, pm, hrd4, dy, fun kp' H5 e5 hk' => ?_⟩
    have htu5 : H5 tu = some (.ins CT dx (trF r hd' kp ps)) := e5 _ _ upd_same
    refine ⟨_, rfl, tu, CT, dx, _, rfl, htu5, T.cl, T.nk, len4 _ _ _ _, ?_⟩
    rw [put_kept]
    have nt5 : ∀ {a : Addr} {ys : List V}, H5 a = some (.tup ys) → a ≠ tu := fun e z => by rw [z, htu5] at e; cases e
    have hps4 : (upd H3 tu (.ins CT dx (trF r hd' kp ps))) ps = some (.lst past) := by
      rw [upd_ne (nl' (s3 _ _ hps2))]
      exact s3 _ _ hps2
    have hps5 : H5 ps = some (.lst past) := e5 _ _ hps4
    have npt : ps ≠ tu := fun z => by rw [z, htu5] at hps5; cases hps5
    have hps6 : (upd H5 tu (.ins CT dx (trF r hd' kp' ps))) ps = some (.lst past) := by rw [upd_ne npt]; exact hps5
    have hh5 : Crd H5 hd' xs (nxt R y c) := e5 _ _ (by rw [upd_ne (nt hh)]; exact hh)
    have ntp : ∀ {a : Addr} {ys : List V}, H5 a = some (.tup ys) → a ≠ ps := fun e z => by rw [z, hps5] at e; cases e
    refine ⟨_, rfl, tu, CT, dx, _, _, rfl, upd_same, T.cl, T.np, tr_past _ _ _ _, Or.inl ⟨rfl, _, SqL.of hps6⟩, _, rfl, ps, _, _, rfl, rfl, hps6, Nat.lt_of_le_of_lt pl (by decide), _, rfl, ?_⟩
    refine hQ _ hd' kp' y (fun b o e n1 n2 => ?_) hy ⟨dx, by rw [upd_ne npt.symm, upd_same]⟩ ?_ ?_ upd_same
    · rw [upd_ne n2, upd_ne n1]
      refine e5 _ _ ?_
      rw [upd_ne n1]
      exact s3 _ _ (e2 _ _ e)
    · show (upd _ ps _) hd' = _
      rw [upd_ne (ntp hh5), upd_ne (nt5 hh5)]
      exact hh5
    · refine hk'.ext fun a ys e => ?_
      rw [upd_ne (ntp e), upd_ne (nt5 e)]
      exact e
end
end K38
set_option Elab.async false
set_option linter.all false
set_option maxRecDepth 100000
set_option maxHeartbeats 4000000
/-! data: texts, pairs -/
namespace DQ
open PySem PySem.Spec PyProof.Rows L2
def pD (q : Int × Int) : PyData := .tuple [.int q.1, .int q.2]
theorem all_strs : ∀ xs : List Str, (∀ x ∈ xs, PyData.strOk x = true) → PyData.canLayAll0 (xs.map PyData.str) = true ∧ PyData.depthAll (xs.map PyData.str) = 0
  | [], _ => ⟨rfl, rfl⟩
  | x :: r, h => by
    obtain ⟨h1, h2⟩ := all_strs r fun y hy => h y (List.mem_cons_of_mem _ hy)
    have h3 := h x List.mem_cons_self
    exact ⟨by simp [PyData.canLayAll0, PyData.canLay0, h1, h3], by simp [PyData.depthAll, PyData.depth, h2]⟩
theorem sh_strs {xs : List Str} (h : ∀ x ∈ xs, PyData.strOk x = true) : SeqAt.shaped (.list (xs.map PyData.str)) = true := by
  obtain ⟨h1, h2⟩ := all_strs xs h
  simp [SeqAt.shaped, PyData.canLay0, PyData.depth, h1, h2]
theorem all_pairs : ∀ qs : List (Int × Int), PyData.canLayAll0 (qs.map pD) = true ∧ PyData.depthAll (qs.map pD) ≤ 2
  | [] => ⟨rfl, by decide⟩
  | _ :: r => by
    obtain ⟨h1, h2⟩ := all_pairs r
    refine ⟨by simp [PyData.canLayAll0, PyData.canLay0, pD, h1], ?_⟩
    show max (PyData.depth (pD _)) (PyData.depthAll (r.map pD)) ≤ 2
    have h3 : ∀ q, PyData.depth (pD q) ≤ 2 := fun q => by show 1 ≤ 2; decide
    exact Nat.max_le.mpr ⟨h3 _, h2⟩
theorem sh_pair (q : Int × Int) : SeqAt.shaped (pD q) = true := rfl
theorem sh_pairs (qs : List (Int × Int)) : SeqAt.shaped (.list (qs.map pD)) = true := by
  obtain ⟨h1, h2⟩ := all_pairs qs
  have h3 : PyData.depthAll (qs.map pD) + 1 ≤ 64 := by omega
  simp [SeqAt.shaped, PyData.canLay0, PyData.depth, h1]
  omega
theorem eq_strs (xs : List Str) : PyData.eqv (.list (xs.map PyData.str)) (.list (xs.map PyData.str)) = true := by
  refine PySem.W.eqv_refl_alike _ ?_
  induction xs with
  | nil => rfl
  | cons x xs ih => simpa [PySem.W.alike, PySem.W.alikeAll] using ih
theorem eq_pair (q : Int × Int) : PyData.eqv (pD q) (pD q) = true := PySem.W.eqv_refl_alike _ rfl
theorem eq_pairs (qs : List (Int × Int)) : PyData.eqv (.list (qs.map pD)) (.list (qs.map pD)) = true := by
  refine PySem.W.eqv_refl_alike _ ?_
  induction qs with
  | nil => rfl
  | cons x xs ih => simpa [PySem.W.alike, PySem.W.alikeAll, pD] using ih
theorem dp_strs {K : PySem.W.Frag} {H : Hp} : ∀ xs : List Str, DpAll K H (xs.map V.str) (xs.map PyData.str)
  | [] => .nil
  | x :: xs => .cons (.str x) (dp_strs xs)
theorem dp_pair {K : PySem.W.Frag} {H : Hp} {t : Addr} {q : Int × Int} (h : H t = some (.tup [.int q.1, .int q.2])) : Dp K H (.ref t) (pD q) := .tup (SqT.of h) (.cons (.int _) (.cons (.int _) .nil))
theorem dp_pairs {K : PySem.W.Frag} {H : Hp} : ∀ L : List (Addr × (Int × Int)), (∀ p ∈ L, H p.1 = some (.tup [.int p.2.1, .int p.2.2])) → DpAll K H (L.map fun p => V.ref p.1) ((L.map (·.2)).map pD)
  | [], _ => .nil
  | p :: L, h => .cons (dp_pair (h p List.mem_cons_self)) (dp_pairs L fun q hq => h q (List.mem_cons_of_mem _ hq))
/-- a dict by names -/
theorem val_map (f : Str → V) {y : Str} : ∀ {l : List Str}, y ∈ l → valV (l.map fun x => ((Sum.inr x : Key), f x)) (Sum.inr y) = some (f y)
  | x :: l, h => by
    rw [List.map_cons]
    by_cases e : x = y
    · rw [valV_pos (by rw [e])]
      rw [e]
    · rw [valV_neg (fun z => e (Sum.inr.inj z))]
      exact val_map f ((List.mem_cons.mp h).resolve_left fun z => e z.symm)
theorem val_none (f : Str → V) {y : Str} : ∀ {l : List Str}, y ∉ l → valV (l.map fun x => ((Sum.inr x : Key), f x)) (Sum.inr y) = none
  | [], _ => rfl
  | x :: l, h => by
    rw [List.map_cons, valV_neg (fun z => h (by rw [Sum.inr.inj z]; exact List.mem_cons_self))]
    exact val_none f fun z => h (List.mem_cons_of_mem _ z)
theorem put_new (f : Str → V) {y : Str} {l : List Str} (h : y ∉ l) : putK (l.map fun x => ((Sum.inr x : Key), f x)) (Sum.inr y) (f y) = (l ++ [y]).map fun x => ((Sum.inr x : Key), f x) := by
  rw [putK_new _ (val_none f h), List.map_append]
  rfl
theorem put_old (f : Str → V) {y : Str} {v : V} {l : List Str} (h : y ∈ l) : putK (l.map fun x => ((Sum.inr x : Key), f x)) (Sum.inr y) v = l.map fun x => ((Sum.inr x : Key), if x = y then v else f x) := by
  have a : ((l.map fun x => ((Sum.inr x : Key), f x)).any fun kv => decide (kv.1 = Sum.inr y)) = true := by
    rw [List.any_eq_true]
    exact ⟨(Sum.inr y, f y), List.mem_map.mpr ⟨y, h, rfl⟩, by simp⟩
  unfold putK
  rw [if_pos a, List.map_map]
  refine List.map_congr_left fun x _ => ?_
  show (if (Sum.inr x : Key) = Sum.inr y then ((Sum.inr x : Key), v) else (Sum.inr x, f x)) = _
  by_cases e : x = y
  · rw [if_pos (by rw [e]), if_pos e]
  · rw [if_neg (fun z => e (Sum.inr.inj z)), if_neg e]
theorem merge_map (f : Str → V) : ∀ {l m : List Str}, (m ++ l).Nodup → mergeK (m.map fun x => ((Sum.inr x : Key), f x)) (l.map fun x => ((Sum.inr x : Key), f x)) = (m ++ l).map fun x => ((Sum.inr x : Key), f x)
  | [], m, _ => by rw [List.append_nil]; rfl
  | y :: l, m, h => by
    have h' : (m ++ [y] ++ l).Nodup := by rw [List.append_assoc]; exact h
    have ny : y ∉ m := fun z => by
      have := (List.nodup_append.mp h).2.2 y z y List.mem_cons_self
      exact this rfl
    show mergeK (putK _ (Sum.inr y) (f y)) (l.map fun x => ((Sum.inr x : Key), f x)) = _
    rw [put_new f ny, merge_map f h', List.append_assoc]
    rfl
end DQ
set_option Elab.async false
set_option linter.all false
set_option maxRecDepth 100000
set_option maxHeartbeats 4000000
/-! xs.count(x), texts -/
namespace CS
open PySem PySem.Spec PyProof.Rows L2
def eqs (z : Str) : Value → Bool
  | .str c _ => c == z
  | _ => false
theorem vals_str {bs : List Str} : ∀ {us : List Value}, Vals (bs.map V.str) us → (∀ u ∈ us, ∃ c t, u = Value.str c t) ∧ ∀ z, us.countP (eqs z) = bs.count z := by
  induction bs with
  | nil =>
    intro us r
    cases r
    exact ⟨fun u h => by simp at h, fun z => rfl⟩
  | cons b bs ih =>
    intro us r
    rw [List.map_cons] at r
    cases r with
    | cons h t =>
      obtain ⟨i1, i2⟩ := ih t
      obtain ⟨tk, rfl⟩ := h
      refine ⟨fun u hu => ?_, fun z => ?_⟩
      · rcases List.mem_cons.mp hu with e | hu
        · exact ⟨b, tk, e⟩
        · exact i1 u hu
      · rw [List.countP_cons, List.count_cons, i2]
        rfl
def rCntS (K : PySem.W.Frag) : V → List V → Hp → VK → Prop := fun x xs H Q => ∃ (p : Addr) (bs : List Str) (z : Str), x = .ref p ∧ xs = [.str z] ∧ SqL K H p (bs.map V.str) ∧ Q (.int (bs.count z : Nat)) H
theorem mt_scount {X : Cx} : MtR X "list.count" (rCntS X.K) := by
  intro pins s σ H x xs v us Q I rx rxs h
  obtain ⟨p, bs, z, rfl, rfl, hs, q⟩ := h
  cases rx
  obtain ⟨u, rfl, ru⟩ := rxs.one
  obtain ⟨tz, rfl⟩ := ru
  obtain ⟨its, rv, ⟨⟨cls, dd, data, sl⟩, n, ho, hc, hdn, hd⟩, hlen⟩ := I.list hs
  simp only at hc hd
  subst hc hd
  obtain ⟨i1, i2⟩ := vals_str rv
  refine call_meets PySem.F.slot_list_count ⟨_, ho, rfl⟩ PySem.F.entry_list_count (PySem.F.args_list_count_2 _ _) (SeqAt.list_countAt p _ n dd sl (.str z tz) (eqs z)) ⟨ho, fun y hy => ?_, ?_⟩
  · obtain ⟨c, t, rfl⟩ := i1 y (by simpa using hy)
    exact SeqAt.EqAt.str_str c t z tz
  · refine ⟨.int (bs.count z : Nat), H, I.tok _, ⟨s.toks, ?_⟩, q⟩
    show Value.int ((its.toArray.toList.countP (eqs z) : Nat) : Int) s.toks = Value.int ((bs.count z : Nat) : Int) s.toks
    rw [show its.toArray.toList = its from rfl, i2]
end CS
set_option Elab.async false
set_option linter.all false
set_option maxRecDepth 100000
set_option maxHeartbeats 4000000
namespace K38
open PySem PySem.Spec PyProof.Rows L2
open C8 (Cal Mak Met pe_c pe_mk pe_mt pe_mt0)
open KM (pr)
/-- a dict over zip of two tuples of one length -/
theorem dc_zipT {K : PySem.W.Frag} {a b : Addr} {xs ys : List V} {g : TG} {tt : TT} {tk tv : TE} {vs : List Nat} {σ : L2.St} {H1 : Hp} {D : Addr} {Qd : Hp → Prop} (hl : xs.length = ys.length) (Pv : Nat → Hp → Prop) (h0 : Pv 0 (upd H1 D (.dK []))) (hq : ∀ i H, Pv i H → SqT K H a xs ∧ SqT K H b ys)
    (hs : ∀ (i : Nat) (x y : V) (T : Addr) (H : Hp), xs[i]? = some x → ys[i]? = some y → Pv i H → H T = none → g (.ref T) (wipe σ vs) (upd H T (.tup [x, y])) fun σ2 H2 => wipe σ2 vs = wipe σ vs ∧ tt σ2 H2 fun b H3 =>
      if b = true then tk σ2 H3 fun y H4 => tv σ2 H4 fun z H5 => ∃ kvs k, y = kV k ∧ H5 D = some (.dK kvs) ∧ kvs.length < sizeLine ∧ Pv (i + 1) (upd H5 D (.dK (putK kvs k z))) else Pv (i + 1) H3) (hd : ∀ H, Pv xs.length H → Qd H) :
    ∃ W : Nat → Nat → Hp → Prop, (∃ m, W 0 m (upd H1 D (.dK []))) ∧ ∀ i m H, W i m H →
      ((RZ.ItzT K a b).stop i H ∧ Qd H) ∨ ((RZ.ItzT K a b).go i H ∧ ∃ Nx : Hp → Prop, (∀ H', Nx H' → ∃ m', m' < m ∧ W (i + 1) m' H') ∧ ∀ x H', (RZ.ItzT K a b).yld i H x H' → g x (wipe σ vs) H' fun σ2 H2 => wipe σ2 vs = wipe σ vs ∧ tt σ2 H2 fun b H3 =>
        if b = true then tk σ2 H3 fun y H4 => tv σ2 H4 fun z H5 => ∃ kvs k, y = kV k ∧ H5 D = some (.dK kvs) ∧ kvs.length < sizeLine ∧ Nx (upd H5 D (.dK (putK kvs k z))) else Nx H3) := by
  refine ⟨fun i m H => m = xs.length - i ∧ i ≤ xs.length ∧ Pv i H, ⟨xs.length, rfl, Nat.zero_le _, h0⟩, ?_⟩
  rintro i m H ⟨rfl, hi, p⟩
  obtain ⟨qx, qy⟩ := hq i H p
  by_cases hlt : i < xs.length
  · have hx : xs[i]? = some xs[i] := List.getElem?_eq_getElem hlt
    have hlt2 : i < ys.length := by omega
    have hy : ys[i]? = some ys[i] := List.getElem?_eq_getElem hlt2
    refine .inr ⟨⟨xs, ys, _, _, qx, qy, hx, hy⟩, Pv (i + 1), fun H' p' => ⟨xs.length - (i + 1), by omega, rfl, hlt, p'⟩, fun v H' y => ?_⟩
    obtain ⟨T, x', y', rfl, hT, rfl, f1, f2⟩ := y
    exact hs i x' y' T H (f1 xs qx) (f2 ys qy) p hT
  · have e : i = xs.length := by omega
    subst e
    exact .inl ⟨⟨xs, ys, qx, qy, Or.inl (Nat.le_refl _)⟩, hd H p⟩
section
variable {P : Program} {w : World} {K : PySem.W.Frag} {mg : Str → Option Value} {base : Heap} {f C CT : Addr} {fd : FuncData}
/-- a dict by names -/
def dctO (l : List Str) (g : Str → V) : HO := .dK (l.map fun x => ((Sum.inr x : Key), g x))
/-- a credit as a share of a ride -/
def rt (c : Int) : Rat := Rat.divInt c 840
theorem nin_take {xs : List Str} (nd : xs.Nodup) {i : Nat} {z : Str} (h : xs[i]? = some z) : z ∉ xs.take i := fun hm => by
  obtain ⟨j, hj, e⟩ := List.mem_iff_getElem.mp hm
  rw [List.getElem_take] at e
  rw [List.length_take] at hj
  have e3 : xs[j]? = xs[i]? := by rw [h, List.getElem?_eq_getElem (by omega), e]
  have := (List.getElem?_inj (by omega) nd).mp e3
  omega
theorem map_ne {l : List Str} {z : Str} (h : z ∉ l) {f g : Str → V} (e : ∀ x, x ≠ z → f x = g x) : (l.map fun x => ((Sum.inr x : Key), f x)) = l.map fun x => ((Sum.inr x : Key), g x) :=
  List.map_congr_left fun x hx => by rw [e x fun q => h (q ▸ hx)]
def spSt (C CT : Addr) : Sp := fun vs H Q _ => ∃ (tu r ot hd kp ps : Addr) (xs : List Str) (g : Int) (c : Str → Int), vs = [.ref tu] ∧ Tr CT H tu r hd kp ps ∧ LeastR H r ot xs g ∧ Crd H hd xs c ∧
  ∀ (D : Addr) (H' : Hp) (ad : Str → Addr), Same H H' → H D = none → H' D = some (dctO xs fun x => .ref (ad x)) → (∀ x ∈ xs, Sh C H' (ad x) (pr (rt (c x)))) → Q (.ref D) H'
theorem ok_st (F : Dn K d_Turns_stands f fd) (b2 : Bl2 mg) (T : ClT K CT) (gp : ∃ t, mg "RIDE_PARTS" = some (.int 840 t)) (MS : MakS P w K mg base C) : FnOk P w K mg base CX0 4 f fd ["self"] (spSt C CT) := by
  refine F.ok sc_Turns_stands (fun vs H Q E h => ?_) (fun cdv A outer s H vs Q E hr h => ?_)
  · obtain ⟨tu, r, ot, hd, kp, ps, xs, g, c, rfl, _⟩ := h
    rfl
  · obtain ⟨tu, r, ot, hd, kp, ps, xs, g, c, rfl, ⟨dx, htu⟩, lr, hc, hQ⟩ := h
    obtain ⟨hrr, hot, ox, g0, g1⟩ := id lr
    obtain ⟨t, gp⟩ := gp
    have l8 := ox.l8
    refine ⟨_, PSs.nox (pss_one (ps_ret (pe_dc (own := [("name", 1), ("parts", 2)]) (g := gTup K 2 (gCons (gName 1) (gCons (gName 2) gNil))) (tt := tYes) rfl sc_Turns_stands.nd (RZ.pi_zipA rfl b2.zip (pa_cons (pe_ix ix_tup (pe_fld (pv 0) rfl) pe_int (fun _ _ => rfl)) (pa_cons (pe_fld (pv 0) rfl) pa_nil)))
      (blkOk_by (N := N_Turns_stands) (sc := defScope s_Turns_stands) (by decide +kernel)) (fun _ _ _ _ _ => pg_tup rfl (pgs_cons (pg_name (i := 1) sc_Turns_stands.nd rfl (.inl rfl)) (pgs_cons (pg_name (i := 2) sc_Turns_stands.nd rfl (.inl rfl)) pgs_nil))) (fun _ _ _ _ _ => pts_nil)
      (fun _ _ _ _ _ => pv 1) (fun _ _ _ _ _ => pe_mk MS hr (by decide) rfl (pa_cons (pv 2) (pa_cons (pe_glob (v := .int 840) rfl gp ⟨t, rfl⟩) pa_nil)))))), ?_⟩
    refine ⟨_, rfl, tu, CT, dx, _, _, rfl, htu, T.cl, T.nr, tr_rule _ _ _ _, r, _, _, _, rfl, rfl, SqT.of hrr, rfl, _, rfl, tu, CT, dx, _, _, rfl, htu, T.cl, T.nh, tr_held _ _ _ _, ot, hd, _, _, rfl, .inr ⟨SqT.of hot, SqT.of hc, fun D hD => ?_⟩⟩
    refine dc_zipT (by simp) (fun i H2 => ∃ ad : Str → Addr, H2 D = some (dctO (xs.take i) fun x => .ref (ad x)) ∧ Same H H2 ∧ ∀ x ∈ xs.take i, Sh C H2 (ad x) (pr (rt (c x))))
      ⟨fun _ => 0, upd_same, same_new hD, fun x hx => by simp at hx⟩ (fun i H2 ⟨_, _, sm, _⟩ => ⟨SqT.of (sm _ _ hot), SqT.of (sm _ _ hc)⟩) ?_ ?_
    · rintro i x y Tp H2 hx hy ⟨ad, hdd, sm, hval⟩ hT
      have hi' : i < xs.length := by
        have := (List.getElem?_eq_some_iff.mp hx).1
        simpa using this
      rw [List.getElem?_map] at hx hy
      obtain ⟨z, hz, rfl⟩ := Option.map_eq_some_iff.mp hx
      rw [hz] at hy
      cases hy
      have nz := nin_take ox.nd hz
      have et : xs.take (i + 1) = xs.take i ++ [z] := by rw [List.take_succ, hz]; rfl
      have sT := same_new (o := .tup [V.str z, V.int (c z)]) hT
      refine ⟨Tp, _, rfl, SqT.of upd_same, rfl, _, _, rfl, _, _, rfl, rfl, rfl, ?_⟩
      refine ⟨_, rfl, _, rfl, ?_⟩
      intro q dq nq nd ne
      refine mk_in (n := 10) nq nd (by decide) (by decide) (by decide) (by decide) fun H3 s3 hq => ⟨rfl, ?_⟩
      have s23 := sT.trans s3
      have hD3 := s23 _ _ hdd
      refine ⟨_, Sum.inr z, rfl, hD3, ?_, fun x => if x = z then q else ad x, ?_, ?_, ?_⟩
      · rw [List.length_map, List.length_take]
        exact Nat.lt_of_lt_of_le (by omega : min i xs.length < 64) (by decide)
      · rw [upd_same, et]
        have e1 : (xs.take i).map (fun x => ((Sum.inr x : Key), V.ref (ad x))) = (xs.take i).map fun x => ((Sum.inr x : Key), V.ref (if x = z then q else ad x)) := map_ne nz fun x n => by rw [if_neg n]
        unfold dctO
        rw [e1]
        have e2 := DQ.put_new (fun x => V.ref (if x = z then q else ad x)) nz
        rw [if_pos rfl] at e2
        rw [e2]
      · intro a o e
        rw [upd_ne (ne_of_none e hD)]
        exact s23 a o (sm a o e)
      · have keep : ∀ {p : Addr} {v : Int × Int} {o : HO}, Sh C H3 p v → Sh C (upd H3 D o) p v := fun {p v o} ⟨dp, hp⟩ => ⟨dp, by
          rw [upd_ne (fun e => by rw [e, hD3] at hp; cases hp)]
          exact hp⟩
        intro x hx
        rw [et] at hx
        rcases List.mem_append.mp hx with hx | hx
        · have n : x ≠ z := fun e => nz (e ▸ hx)
          show Sh C _ (if x = z then q else ad x) _
          rw [if_neg n]
          exact keep ((hval x hx).keep s23)
        · rw [List.mem_singleton] at hx
          show Sh C _ (if x = z then q else ad x) _
          rw [hx, if_pos rfl]
          exact keep hq
    · rintro H2 ⟨ad, hdd, sm, hval⟩
      rw [List.length_map, List.take_length] at hdd hval
      exact hQ D H2 ad sm hD hdd hval
def spDr (CT : Addr) : Sp := fun vs H Q _ => ∃ (tu r ot hd kp ps : Addr) (xs past : List Str) (g : Int), vs = [.ref tu] ∧ Tr CT H tu r hd kp ps ∧ LeastR H r ot xs g ∧ H ps = some (.lst (past.map V.str)) ∧
  ∀ (D : Addr) (H' : Hp), Same H H' → H D = none → H' D = some (dctO xs fun x => .int (past.count x : Nat)) → Q (.ref D) H'
theorem ok_dr (F : Dn K d_Turns_drives f fd) (T : ClT K CT) : FnOk P w K mg base CX0 1 f fd ["self"] (spDr CT) := by
  refine F.ok sc_Turns_drives (fun vs H Q E h => ?_) (fun cdv A outer s H vs Q E hr h => ?_)
  · obtain ⟨tu, r, ot, hd, kp, ps, xs, past, g, rfl, _⟩ := h
    rfl
  · obtain ⟨tu, r, ot, hd, kp, ps, xs, past, g, rfl, ⟨dx, htu⟩, lr, hps, hQ⟩ := h
    obtain ⟨hrr, hot, ox, g0, g1⟩ := id lr
    have l8 := ox.l8
    refine ⟨_, PSs.nox (pss_one (ps_ret (pe_dc (own := [("name", 1)]) (g := gName 1) (tt := tYes) (tv := tBM K "list" (CS.rCntS K) (tFld K (tVar 0) "past") (tCons (tVar 1) tNil)) rfl sc_Turns_drives.nd (pi_tup (pe_ix ix_tup (pe_fld (pv 0) rfl) pe_int (fun _ _ => rfl)))
      (blkOk_by (N := N_Turns_drives) (sc := defScope s_Turns_drives) (by decide +kernel)) (fun _ _ _ _ _ => pg_name (i := 1) sc_Turns_drives.nd rfl (.inl rfl)) (fun _ _ _ _ _ => pts_nil)
      (fun _ _ _ _ _ => pv 1) (fun _ _ _ _ _ => pe_bm (r := CS.rCntS K) PySem.F.plainAttrs_list PySem.F.slot_list_count PySem.F.type_list_count CS.mt_scount (pe_fld (pv 0) rfl) (pa_cons (pv 1) pa_nil))))), ?_⟩
    refine ⟨_, rfl, tu, CT, dx, _, _, rfl, htu, T.cl, T.nr, tr_rule _ _ _ _, r, _, _, _, rfl, rfl, SqT.of hrr, rfl, ot, rfl, ⟨_, SqT.of hot⟩, fun D hD => ?_⟩
    refine dc_tup (fun i H2 => H2 D = some (dctO (xs.take i) fun x => .int (past.count x : Nat)) ∧ Same H H2) ⟨upd_same, same_new hD⟩ (fun i H2 _ z => SqT.of (z.2 _ _ hot)) ?_ ?_
    · rintro i x H2 hx ⟨hdd, sm⟩
      have hi' : i < xs.length := by
        have := (List.getElem?_eq_some_iff.mp hx).1
        simpa using this
      rw [List.getElem?_map] at hx
      obtain ⟨z, hz, rfl⟩ := Option.map_eq_some_iff.mp hx
      have nz := nin_take ox.nd hz
      have et : xs.take (i + 1) = xs.take i ++ [z] := by rw [List.take_succ, hz]; rfl
      refine ⟨rfl, ?_⟩
      refine ⟨_, rfl, _, rfl, tu, CT, dx, _, _, rfl, sm _ _ htu, T.cl, T.np, tr_past _ _ _ _, Or.inl ⟨rfl, _, SqL.of (sm _ _ hps)⟩, _, rfl, ps, past, z, rfl, rfl, SqL.of (sm _ _ hps), ?_⟩
      refine ⟨_, Sum.inr z, rfl, hdd, ?_, ?_, ?_⟩
      · rw [List.length_map, List.length_take]
        exact Nat.lt_of_lt_of_le (by omega : min i xs.length < 64) (by decide)
      · rw [upd_same, et]
        exact congrArg (fun l => some (HO.dK l)) (DQ.put_new (fun x => V.int (past.count x : Nat)) nz)
      · intro a o e
        rw [upd_ne (ne_of_none e hD)]
        exact sm a o e
    · rintro H2 ⟨hdd, sm⟩
      rw [List.length_map, List.take_length] at hdd
      exact hQ D H2 sm hD hdd
def spLen (CT : Addr) : Sp := fun vs H Q _ => ∃ (tu r hd kp ps : Addr) (past : List V), vs = [.ref tu] ∧ Tr CT H tu r hd kp ps ∧ H ps = some (.lst past) ∧ Q (.int (past.length : Nat)) H
theorem ok_len (F : Dn K d_Turns_len f fd) (b : Bl mg) (T : ClT K CT) : FnOk P w K mg base CX0 1 f fd ["self"] (spLen CT) := by
  refine F.ok sc_Turns_len (fun vs H Q E h => ?_) (fun cdv A outer s H vs Q E hr h => ?_)
  · obtain ⟨tu, r, hd, kp, ps, past, rfl, _⟩ := h
    rfl
  · obtain ⟨tu, r, hd, kp, ps, past, rfl, ⟨dx, htu⟩, hps, hQ⟩ := h
    refine ⟨_, PSs.nox (pss_one (ps_ret (pe_callB call_len_seq rfl b.len boot_len (pa_cons (pe_fld (pv 0) rfl) pa_nil)))), ?_⟩
    exact ⟨_, rfl, tu, CT, dx, _, _, rfl, htu, T.cl, T.np, tr_past _ _ _ _, ps, _, rfl, .inl (SqL.of hps), hQ⟩
end
end K38
set_option Elab.async false
set_option linter.all false
set_option maxRecDepth 100000
set_option maxHeartbeats 4000000
/-! tuples of texts that are known to have no dict of their own: so that their methods can be called -/
namespace NTU
open PySem PySem.Spec PyProof.Rows L2
def NTp (a : Addr) (ns : List Str) (h : Heap) : Prop := ns.length ≤ 1000 ∧ ∃ (its : List Value) (o : Obj), Vals (ns.map V.str) its ∧ h.get? a = some o ∧ o.cls = .type "tuple" ∧ o.dict = none ∧ ∃ n, o.data = .seq its.toArray n
def NT (a : Addr) (ns : List Str) : HO := .ext (NTp a ns)
theorem NT.inj {a : Addr} {ns ms : List Str} {P : Program} {w : World} {H : Hp} {h : Heap} (ok : HOk P w H h) (e : H a = some (NT a ns)) (e2 : H a = some (NT a ms)) : ns = ms := by
  have x : ObjOk P w H h a (.ext (NTp a ns)) := ok a _ e
  have y : ObjOk P w H h a (.ext (NTp a ms)) := ok a _ e2
  obtain ⟨⟨_, i1, o1, r1, g1, _, _, n1, d1⟩, _⟩ := x
  obtain ⟨⟨_, i2, o2, r2, g2, _, _, n2, d2⟩, _⟩ := y
  rw [g1] at g2
  cases g2
  rw [d1] at d2
  injection d2 with d2 _
  have d3 : i1 = i2 := by simpa using congrArg Array.toList d2
  subst d3
  have := r1.inj r2
  exact (List.map_inj_right fun x y e => V.str.inj e).mp this
theorem nt_lst {a b : Addr} {ns : List Str} {xs : List V} {H : Hp} (e : H a = some (NT a ns)) (e2 : H b = some (.lst xs)) : a ≠ b := fun z => by
  rw [z, e2] at e
  have e' : HO.lst xs = HO.ext (NTp b ns) := Option.some.inj (z ▸ e)
  cases e'
theorem nt_ins {a b : Addr} {ns : List Str} {C dx : Addr} {fs : List (Str × V)} {H : Hp} (e : H a = some (NT a ns)) (e2 : H b = some (.ins C dx fs)) : a ≠ b := fun z => by
  rw [z, e2] at e
  have e' : HO.ins C dx fs = HO.ext (NTp b ns) := Option.some.inj (z ▸ e)
  cases e'
section
variable {X : Cx} {pins : List (Addr × Obj)} {σ : L2.St} {H : Hp} {s : Shared} {a : Addr} {ns : List Str}
theorem nt_ok {P : Program} {w : World} {H : Hp} {h : Heap} {its : List Value} {o : Obj} {n : Nat} (hl : ns.length ≤ 1000) (r : Vals (ns.map V.str) its) (g : h.get? a = some o) (hc : o.cls = .type "tuple") (hd : o.dict = none) (hs : o.data = .seq its.toArray n) : ObjOk P w H h a (NT a ns) :=
  ⟨⟨hl, its, o, r, g, hc, hd, n, hs⟩, ⟨o, g⟩, fun h1 h2 ⟨l, i, u, r1, g1, c1, d1, s1⟩ k => ⟨l, i, u, r1, k u g1, c1, d1, s1⟩⟩
theorem read (I : Inv X pins σ H s) (e : H a = some (NT a ns)) : ∃ its : List Value, Vals (ns.map V.str) its ∧ IsTup s.heap a its.toArray ∧ (∃ ob, s.heap.get? a = some ob ∧ ob.dict = none) ∧ ns.length ≤ 1000 := by
  have x : ObjOk X.prog X.w H s.heap a (.ext (NTp a ns)) := I.hok a _ e
  obtain ⟨⟨hl, its, o, r, g, hc, hd, n, hs⟩, _⟩ := x
  exact ⟨its, r, ⟨o, g, hc, n, hs⟩, ⟨o, g, hd⟩, hl⟩
end
section
variable {X : Cx} {e o : Expr} {es : List Expr} {t ta : TA} {to te : TE} {pos apos cpos : Pos}
/-- (x, y, ..) -/
def tTupN (t : TA) : TE := fun σ H Q => t σ H fun xs H1 => ∃ ns : List Str, xs = ns.map V.str ∧ ns.length ≤ 1000 ∧ ∀ p, H1 p = none → Q (.ref p) (upd H1 p (NT p ns))
theorem pe_tupN {x1} (h : PA X es t) : PE X (.Tuple es x1 pos) (tTupN t) := by
  refine ⟨fun pins s σ H Q I hq => ?_⟩
  refine wpAny_Tuple_spliced (thn (h.run pos pins s σ H _ I hq) fun us s1 hh => ?_)
  obtain ⟨xs, H1, I1, r, ns, rfl, hl, q⟩ := hh
  have hl2 : us.length = ns.length := by rw [← r.length, List.length_map]
  refine ⟨by have := sizeLine_eq; omega, ?_⟩
  have hf : H1 s1.heap.objs.size = none := I1.hok.fresh (Nat.le_refl _)
  exact ⟨.ref s1.heap.objs.size, upd H1 s1.heap.objs.size (NT s1.heap.objs.size ns), I1.laid (t' := s1.toks) (fun b u e => Heap.get?_push_of_some _ e) (Nat.le_refl _) (nt_ok hl r (Heap.get?_push_size _ rfl) rfl rfl rfl), rfl, q _ hf⟩
/-- t + u -/
def rCatN : R2 := fun x y H Q => ∃ a b ns ms, x = .ref a ∧ y = .ref b ∧ H a = some (NT a ns) ∧ H b = some (NT b ms) ∧ ns.length + ms.length ≤ 1000 ∧ ms ≠ [] ∧ (ns = [] → Q (.ref b) H) ∧ (ns ≠ [] → ∀ p, H p = none → Q (.ref p) (upd H p (NT p (ns ++ ms))))
theorem op_catN : OpR X (binaryOp .Add) rCatN := by
  intro pins s σ H x y v u Q I rx ry h
  obtain ⟨a, b, ns, ms, rfl, rfl, ha, hb, hz, hm, q0, q1⟩ := h
  cases rx
  cases ry
  obtain ⟨its, r1, p1, _, _⟩ := read I ha
  obtain ⟨its2, r2, p2, _, _⟩ := read I hb
  have l1 : its.length = ns.length := by rw [← r1.length, List.length_map]
  have l2 : its2.length = ms.length := by rw [← r2.length, List.length_map]
  by_cases hn : ns = []
  · subst hn
    cases r1
    exact cat_tup0 p1 p2 ⟨.ref b, H, I, rfl, q0 rfl⟩
  · have n1 : its ≠ [] := fun z => hn (List.length_eq_zero_iff.mp (by rw [← l1, z]; rfl))
    have n2 : its2 ≠ [] := fun z => hm (List.length_eq_zero_iff.mp (by rw [← l2, z]; rfl))
    refine HT.cat_tup p1 p2 n1 (fun z => absurd z n2) (fun z => ?_) (by have := sizeLine_eq; omega)
    refine ⟨.ref s.heap.objs.size, _, I.laid (t' := s.toks) (o := NT s.heap.objs.size (ns ++ ms)) (fun b ob q => Heap.get?_push_of_some _ q) (Nat.le_refl _) ?_, rfl, q1 hn _ (I.hok.fresh (Nat.le_refl _))⟩
    exact nt_ok (by rw [List.length_append]; exact hz) (by rw [List.map_append]; exact r1.append r2) (Heap.get?_push_size _ rfl) rfl rfl rfl
/-- len(t) -/
def rLenN : List V → Hp → VK → Prop := fun xs H Q => ∃ (p : Addr) (ns : List Str), xs = [.ref p] ∧ H p = some (NT p ns) ∧ Q (.int (ns.length : Nat)) H
theorem call_lenN : CallR X (.builtin "len") rLenN := by
  intro pins s σ H xs us Q I r h
  obtain ⟨p, ns, rfl, hp, q⟩ := h
  obtain ⟨u, rfl, rx⟩ := r.one
  cases rx
  obtain ⟨its, r', pl, _, hz⟩ := read I hp
  have hlen : ns.length = its.length := by rw [← r'.length, List.length_map]
  have hn := line63
  have hs := sizeLine_eq
  exact len_tuple pl (by simp only [List.size_toArray] <;> omega) ⟨.int ns.length, H, I.tok _, ⟨s.toks + 1, by rw [List.size_toArray, hlen]⟩, q⟩
/-- list(t) -/
def rListN : List V → Hp → VK → Prop := fun xs H Q => ∃ (p : Addr) (ns : List Str), xs = [.ref p] ∧ H p = some (NT p ns) ∧ ∀ l, H l = none → Q (.ref l) (upd H l (.lst (ns.map V.str)))
theorem call_listN : CallR X (.type "list") rListN := by
  intro pins s σ H xs us Q I r h
  obtain ⟨p, ns, rfl, hp, q⟩ := h
  obtain ⟨u, rfl, rx⟩ := r.one
  cases rx
  obtain ⟨its, r', pl, _, hz⟩ := read I hp
  have hlen : ns.length = its.length := by rw [← r'.length, List.length_map]
  have hs := sizeLine_eq
  obtain ⟨o, ho, hc, n, hd⟩ := pl
  refine call_list_seq p (.inr rfl) ho hc hd (fun h' c' kp e => ?_) (by simp only [List.size_toArray] <;> omega)
  exact ⟨.ref s.heap.objs.size, _, I.laid (t' := s.toks) kp (Nat.le_refl _) (show ObjOk X.prog X.w _ h' _ (.lst (ns.map V.str)) from ⟨by rw [List.length_map]; omega, its, c', r', e⟩), rfl, q _ (I.hok.fresh (Nat.le_refl _))⟩
theorem in_strs (x : Str) : ∀ R : List Str, ((R.map V.str).any fun y => eqV y (.str x)) = decide (x ∈ R)
  | [] => by simp
  | y :: R => by
    rw [List.map_cons, List.any_cons, in_strs x R]
    by_cases h : x = y
    · subst h
      simp [eqV]
    · have h2 : ¬ y = x := fun z => h z.symm
      simp [eqV, h, h2]
/-- x in t -/
def rInN : R2 := fun x y H Q => ∃ (k : Str) (p : Addr) (ns : List Str), x = .str k ∧ y = .ref p ∧ H p = some (NT p ns) ∧ Q (.bl (decide (k ∈ ns))) H
theorem op_inN : OpR X (compareOp .In) rInN := by
  intro pins s σ H x y v u Q I rx ry h
  obtain ⟨k, p, ns, rfl, rfl, hp, q⟩ := h
  cases ry
  obtain ⟨its, r, pl, _, hz⟩ := read I hp
  have fs : (ns.map V.str).all flatV = true := by
    rw [List.all_eq_true]
    intro y hy
    obtain ⟨z, _, rfl⟩ := List.mem_map.mp hy
    rfl
  refine SeqAt.in_tupleAt (eqU (.str k)) pl (fun w hw => mem_eqAt rx rfl r fs w (by simpa using hw)) ⟨.bl _, H, I, rfl, ?_⟩
  rw [show its.toArray.any (eqU (.str k)) = its.any (eqU (.str k)) by simp, any_eqU r fs, in_strs]
  exact q
/-- t.index(x) -/
def tIxN (to : TE) (t : TA) : TE := fun σ H Q => to σ H fun x H1 => ∃ (a : Addr) (ns : List Str), x = .ref a ∧ H1 a = some (NT a ns) ∧ t σ H1 fun xs H2 => ∃ k : Str, xs = [.str k] ∧ H2 a = some (NT a ns) ∧ k ∈ ns ∧ Q (.int (ns.idxOf k : Nat)) H2
theorem pe_ixN (ho : PE X o to) (ha : PA X (e :: es) t)
    (hb : attributeBase o "index" X.env (eval o X.env) = eval o X.env := by rfl)
    (hf : ((backTo cpos (starEach (e :: es) X.env)).all (fun x => !x.1) && (backToKw cpos (keywordEach [] X.env)).all (fun x => x.1.isSome)
      && decide ((e :: es).length + ([] : List Keyword).length + (if ([] : List Keyword).isEmpty then 0 else 1) < 30)) = true := by rfl)
    (hl : (apos.endLine == cpos.line) = true := by rfl) (hst : starEach (e :: es) X.env = (false, eval e X.env) :: starEach es X.env := by rfl) (hp : (backTo cpos (starEach es X.env)).any (·.1) = false := by rfl) :
    PE X (.Call (.Attribute o "index" apos) (e :: es) [] cpos) (tIxN to t) := by
  refine ⟨fun pins s σ H Q I h => ?_⟩
  refine wpAny_Call_method_late hb hf hl rfl (thn (ho.run pins s σ H _ I h) fun v s1 hh => ?_)
  obtain ⟨x, H1, I1, r1, a, ns, rfl, hp1, q1⟩ := hh
  cases r1
  obtain ⟨its, r, pl, nd, hz⟩ := read I1 hp1
  refine ⟨"tuple", "tuple.index", PySem.F.plainAttrs_tuple, PySem.F.slot_tuple_index, PySem.F.type_tuple_index, pl.typeIs, fun b e => by cases e; exact nd, ?_⟩
  have hA := ha.run cpos pins s1 σ H1 _ I1 q1
  rw [hst] at hA ⊢
  refine Calls.callWith_builtin (by show (false || (backTo cpos (starEach es X.env)).any (·.1)) = false; rw [hp] <;> rfl) (Calls.evalArgs_plain ?_)
  refine thn hA fun us s2 hh => ?_
  obtain ⟨vs, H2, I2, r2, k, rfl, hp2, hk, q⟩ := hh
  obtain ⟨u, rfl, ru⟩ := r2.one
  obtain ⟨tk, rfl⟩ := ru
  obtain ⟨its2, rv2, it2, _, _⟩ := read I2 hp2
  exact PySem.SeqAt.tuple_index_strs (vs := its2) it2 (Vals.strs rv2) hk ⟨.int _, H2, I2.tok _, ⟨_, rfl⟩, q⟩
end
end NTU
set_option Elab.async false
set_option linter.all false
set_option maxRecDepth 100000
set_option maxHeartbeats 4000000
/-! ts.index(x) of a tuple of texts -/
namespace TI
open PySem PySem.Spec PyProof.Rows L2
def rIxOf (K : PySem.W.Frag) : V → List V → Hp → VK → Prop := fun x xs H Q => ∃ (a : Addr) (ys : List Str) (k : Str), x = .ref a ∧ xs = [.str k] ∧ SqT K H a (ys.map V.str) ∧ k ∈ ys ∧ Q (.int (ys.idxOf k : Nat)) H
theorem mt_tindex {X : Cx} : MtR X "tuple.index" (rIxOf X.K) := by
  intro pins s σ H x xs v us Q I rx rxs h
  obtain ⟨a, ys, k, rfl, rfl, hs, hk, q⟩ := h
  cases rx
  obtain ⟨u, rfl, ru⟩ := rxs.one
  obtain ⟨t, rfl⟩ := ru
  obtain ⟨its, rv, it, hlen⟩ := I.tuple hs
  exact PySem.SeqAt.tuple_index_strs (vs := its) it (Vals.strs rv) hk ⟨.int _, H, I.tok _, ⟨_, rfl⟩, q⟩
/-- len of a list or a tuple, where the reading must be named -/
def rLen (K : PySem.W.Frag) : List V → Hp → VK → Prop := fun xs H Q => ∃ (p : Addr) (ys : List V), xs = [V.ref p] ∧ (SqL K H p ys ∨ SqT K H p ys) ∧ Q (V.int (ys.length : Nat)) H
theorem call_lenK {X : Cx} : CallR X (.builtin "len") (rLen X.K) := call_len_seq
end TI
set_option Elab.async false
set_option linter.all false
set_option maxRecDepth 100000
set_option maxHeartbeats 4000000
/-! sets of names in their order, and what rounds may come to -/
namespace SM
open PySem
abbrev Ss := List (List Str)
def stp (P : Ss) (x : Str) : Ss := P ++ P.map (· ++ [x])
def subs (xs : List Str) : Ss := xs.foldl stp [[]]
theorem subs_snoc (xs : List Str) (x : Str) : subs (xs ++ [x]) = subs xs ++ (subs xs).map (· ++ [x]) := by
  unfold subs
  rw [List.foldl_append]
  rfl
def lstp (y : Str) (P : Ss) (x : Str) : Ss := if x = y then P.map (· ++ [x]) else P ++ P.map (· ++ [x])
def lsubs (y : Str) (xs : List Str) : Ss := xs.foldl (lstp y) [[]]
theorem lsubs_snoc (y : Str) (xs : List Str) (x : Str) : lsubs y (xs ++ [x]) = if x = y then (lsubs y xs).map (· ++ [x]) else lsubs y xs ++ (lsubs y xs).map (· ++ [x]) := by
  unfold lsubs
  rw [List.foldl_append]
  rfl
/-- to go by the last one -/
theorem snoc_rec {p : List Str → Prop} (h0 : p []) (h : ∀ xs x, p xs → p (xs ++ [x])) (xs : List Str) : p xs := by
  have : ∀ ys : List Str, p ys.reverse := fun ys => by
    induction ys with
    | nil => exact h0
    | cons y ys ih =>
      rw [List.reverse_cons]
      exact h _ _ ih
  have := this xs.reverse
  rwa [List.reverse_reverse] at this
theorem subs_len (xs : List Str) : (subs xs).length = 2 ^ xs.length := by
  refine snoc_rec (p := fun xs => (subs xs).length = 2 ^ xs.length) rfl (fun xs x ih => ?_) xs
  rw [subs_snoc, List.length_append, List.length_map, ih, List.length_append, Nat.pow_add]
  show _ = _ * 2
  omega
theorem lsubs_le (y : Str) (xs : List Str) : (lsubs y xs).length ≤ 2 ^ xs.length := by
  refine snoc_rec (p := fun xs => (lsubs y xs).length ≤ 2 ^ xs.length) (Nat.le_refl _) (fun xs x ih => ?_) xs
  rw [lsubs_snoc, List.length_append, Nat.pow_add]
  show _ ≤ _ * 2
  split
  · rw [List.length_map]
    omega
  · rw [List.length_append, List.length_map]
    omega
theorem sub_of (xs : List Str) : ∀ s ∈ subs xs, s.Sublist xs := by
  refine snoc_rec (p := fun xs => ∀ s ∈ subs xs, s.Sublist xs) (fun s hs => ?_) (fun xs x ih s hs => ?_) xs
  · rw [List.mem_singleton.mp hs]
    exact List.Sublist.refl _
  · rw [subs_snoc] at hs
    rcases List.mem_append.mp hs with h | h
    · exact (ih s h).trans (List.sublist_append_left _ _)
    · obtain ⟨t, ht, rfl⟩ := List.mem_map.mp h
      exact (ih t ht).append (List.Sublist.refl _)
theorem of_filter (p : Str → Bool) (xs : List Str) : xs.filter p ∈ subs xs := by
  refine snoc_rec (p := fun xs => xs.filter p ∈ subs xs) (List.mem_singleton.mpr rfl) (fun xs x ih => ?_) xs
  rw [subs_snoc, List.filter_append]
  by_cases h : p x = true
  · rw [show [x].filter p = [x] by simp [h]]
    exact List.mem_append_right _ (List.mem_map.mpr ⟨_, ih, rfl⟩)
  · rw [show [x].filter p = [] by simp [h], List.append_nil]
    exact List.mem_append_left _ ih
theorem subs_nd {xs : List Str} (nd : xs.Nodup) : (subs xs).Nodup := by
  refine snoc_rec (p := fun xs => xs.Nodup → (subs xs).Nodup) (fun _ => by simp [subs]) (fun xs x ih nd => ?_) xs nd
  obtain ⟨n1, _, n3⟩ := List.nodup_append.mp nd
  have nx : x ∉ xs := fun h => n3 x h x (List.mem_singleton.mpr rfl) rfl
  rw [subs_snoc, List.nodup_append]
  refine ⟨ih n1, ?_, ?_⟩
  · refine List.pairwise_map.mpr ((ih n1).imp fun h e => h ?_)
    exact List.append_cancel_right e
  · intro s hs t ht e
    obtain ⟨u, hu, rfl⟩ := List.mem_map.mp ht
    have := (sub_of xs s hs).subset (by rw [e]; exact List.mem_append_right _ (List.mem_singleton.mpr rfl) : x ∈ s)
    exact nx this
theorem filt_no {y : Str} {xs : List Str} (h : y ∉ xs) : (subs xs).filter (fun s => decide (y ∈ s)) = [] := by
  rw [List.filter_eq_nil_iff]
  intro s hs z
  exact h ((sub_of xs s hs).subset (of_decide_eq_true z))
/-- the law's sets are the program's that hold the name -/
theorem lsubs_eq {y : Str} {xs : List Str} (nd : xs.Nodup) : (y ∉ xs → lsubs y xs = subs xs) ∧ (y ∈ xs → lsubs y xs = (subs xs).filter fun s => decide (y ∈ s)) := by
  refine snoc_rec (p := fun xs => xs.Nodup → (y ∉ xs → lsubs y xs = subs xs) ∧ (y ∈ xs → lsubs y xs = (subs xs).filter fun s => decide (y ∈ s))) (fun _ => ⟨fun _ => rfl, fun h => nomatch h⟩) (fun xs x ih nd => ?_) xs nd
  obtain ⟨n1, _, n3⟩ := List.nodup_append.mp nd
  have nx : x ∉ xs := fun h => n3 x h x (List.mem_singleton.mpr rfl) rfl
  obtain ⟨a, b⟩ := ih n1
  rw [lsubs_snoc, subs_snoc]
  constructor
  · intro h
    have h1 : y ∉ xs := fun z => h (List.mem_append_left _ z)
    have h2 : ¬ x = y := fun z => h (List.mem_append_right _ (by rw [z]; exact List.mem_singleton.mpr rfl))
    rw [if_neg h2, a h1]
  · intro h
    by_cases e : x = y
    · subst e
      rw [if_pos rfl, a nx, List.filter_append, filt_no nx, List.nil_append]
      refine (List.filter_eq_self.mpr fun s hs => ?_).symm
      obtain ⟨u, _, rfl⟩ := List.mem_map.mp hs
      exact decide_eq_true (List.mem_append_right _ (List.mem_singleton.mpr rfl))
    · have h1 : y ∈ xs := by
        rcases List.mem_append.mp h with q | q
        · exact q
        · exact absurd (List.mem_singleton.mp q).symm e
      rw [if_neg e, b h1, List.filter_append, List.filter_map]
      congr 1
      congr 1
      refine List.filter_congr fun s _ => ?_
      show decide (y ∈ s) = decide (y ∈ s ++ [x])
      refine decide_eq_decide.mpr ⟨fun z => List.mem_append_left _ z, fun z => ?_⟩
      rcases List.mem_append.mp z with q | q
      · exact q
      · exact absurd (List.mem_singleton.mp q).symm e
/-- the sets of two and more that hold the name -/
def wsets (y : Str) (xs : List Str) : Ss := ((subs xs).filter fun s => decide (2 ≤ s.length)).filter fun s => decide (y ∈ s)
/-- a part of a ride for m -/
def un (n : Nat) : Int := (840 : Int).fdiv (n : Int)
theorem un_n {n : Nat} (h1 : 1 ≤ n) (h8 : n ≤ 8) : un n * n = 840 := by
  rcases (show n = 1 ∨ n = 2 ∨ n = 3 ∨ n = 4 ∨ n = 5 ∨ n = 6 ∨ n = 7 ∨ n = 8 by omega) with rfl | rfl | rfl | rfl | rfl | rfl | rfl | rfl <;> decide
theorem un_pos {n : Nat} (h1 : 1 ≤ n) (h8 : n ≤ 8) : 0 ≤ un n := by
  rcases (show n = 1 ∨ n = 2 ∨ n = 3 ∨ n = 4 ∨ n = 5 ∨ n = 6 ∨ n = 7 ∨ n = 8 by omega) with rfl | rfl | rfl | rfl | rfl | rfl | rfl | rfl <;> decide
/-- what a set may owe the name, and the name it -/
def upI (y : Str) (s : List Str) : Int := ((s.length : Int) - 1 - (s.idxOf y : Nat)) * un s.length
def dnI (y : Str) (s : List Str) : Int := (s.idxOf y : Nat) * un s.length
/-- what a set has come to amid its round -/
def amid (y : Str) (s : List Str) (k : Nat) : Int := (if s.idxOf y < k % s.length then 840 else 0) - ((k % s.length : Nat) : Int) * un s.length
theorem amid_le {y : Str} {s : List Str} {k : Nat} (hy : y ∈ s) (h8 : s.length ≤ 8) : amid y s k ≤ upI y s ∧ -dnI y s ≤ amid y s k := by
  have h1 : 1 ≤ s.length := List.length_pos_iff.mpr fun z => by rw [z] at hy; cases hy
  have hi := List.idxOf_lt_length_of_mem hy
  have hm := Nat.mod_lt k h1
  have e := un_n h1 h8
  have p := un_pos h1 h8
  unfold amid upI dnI
  generalize s.idxOf y = i at hi
  generalize k % s.length = m at hm
  generalize s.length = n at *
  generalize un n = u at *
  constructor
  · split
    · have : ((m : Int) - (i : Int) - 1) * u ≥ 0 := Int.mul_nonneg (by omega) p
      grind
    · have a : ((n : Int) - 1 - (i : Int)) * u ≥ 0 := Int.mul_nonneg (by omega) p
      have b : (m : Int) * u ≥ 0 := Int.mul_nonneg (by omega) p
      omega
  · split
    · have a : ((n : Int) - (m : Int)) * u ≥ 0 := Int.mul_nonneg (by omega) p
      have b : (i : Int) * u ≥ 0 := Int.mul_nonneg (by omega) p
      grind
    · have : ((i : Int) - (m : Int)) * u ≥ 0 := Int.mul_nonneg (by omega) p
      grind
theorem amid_step {y d : Str} {s : List Str} {k : Nat} (hy : y ∈ s) (nd : s.Nodup) (h8 : s.length ≤ 8) (hd : s[k % s.length]? = some d) : amid y s (k + 1) = amid y s k - un s.length + (if y = d then 840 else 0) := by
  have h1 : 1 ≤ s.length := List.length_pos_iff.mpr fun z => by rw [z] at hy; cases hy
  have hi := List.idxOf_lt_length_of_mem hy
  have hm := Nat.mod_lt k h1
  have e := un_n h1 h8
  have key : (y = d) ↔ s.idxOf y = k % s.length := by
    have ey : s[s.idxOf y]? = some y := by rw [List.getElem?_eq_getElem hi, List.getElem_idxOf]
    constructor
    · intro z
      rw [← z, ← ey] at hd
      exact ((List.getElem?_inj hm nd).mp hd).symm
    · intro z
      rw [z, hd] at ey
      exact (Option.some.inj ey).symm
  have m2 : (k + 1) % s.length = if k % s.length + 1 = s.length then 0 else k % s.length + 1 := by
    rw [Nat.add_mod]
    by_cases h : k % s.length + 1 = s.length
    · rw [if_pos h]
      by_cases h' : s.length = 1
      · rw [h', Nat.mod_one]
      · rw [Nat.mod_eq_of_lt (show 1 < s.length by omega), h, Nat.mod_self]
    · rw [if_neg h]
      by_cases h' : s.length = 1
      · omega
      · rw [Nat.mod_eq_of_lt (show 1 < s.length by omega), Nat.mod_eq_of_lt (by omega)]
  unfold amid
  rw [m2]
  have key2 : (if y = d then (840 : Int) else 0) = if s.idxOf y = k % s.length then 840 else 0 := by
    by_cases h : y = d
    · rw [if_pos h, if_pos (key.mp h)]
    · rw [if_neg h, if_neg fun z => h (key.mpr z)]
  rw [key2]
  generalize s.idxOf y = i at hi
  generalize k % s.length = m at hm
  generalize s.length = n at *
  generalize un n = u at *
  by_cases h : m + 1 = n
  · rw [if_pos h]
    have : (n : Int) = m + 1 := by omega
    split <;> split <;> split <;> grind
  · rw [if_neg h]
    have : ((m + 1 : Nat) : Int) = m + 1 := by omega
    split <;> split <;> split <;> grind
/-- sums -/
def sm (f : List Str → Int) (L : Ss) : Int := (L.map f).sum
theorem sm_cons (f : List Str → Int) (s : List Str) (L : Ss) : sm f (s :: L) = f s + sm f L := by simp [sm]
theorem sm_app (f : List Str → Int) (L M : Ss) : sm f (L ++ M) = sm f L + sm f M := by simp [sm]
theorem sm_le {f g : List Str → Int} : ∀ {L : Ss}, (∀ s ∈ L, f s ≤ g s) → sm f L ≤ sm g L
  | [], _ => Int.le_refl _
  | s :: L, h => by
    rw [sm_cons, sm_cons]
    have := h s List.mem_cons_self
    have := sm_le fun t ht => h t (List.mem_cons_of_mem s ht)
    omega
theorem sm_neg (f : List Str → Int) : ∀ L : Ss, sm (fun s => -f s) L = -sm f L
  | [] => rfl
  | s :: L => by rw [sm_cons, sm_cons, sm_neg f L]; omega
theorem sm_same {f g : List Str → Int} : ∀ {L : Ss}, (∀ s ∈ L, f s = g s) → sm f L = sm g L
  | [], _ => rfl
  | s :: L, h => by rw [sm_cons, sm_cons, h s List.mem_cons_self, sm_same fun t ht => h t (List.mem_cons_of_mem s ht)]
theorem sm_one {f g : List Str → Int} {s0 : List Str} {v : Int} : ∀ {L : Ss}, L.Nodup → s0 ∈ L → (∀ s ∈ L, s ≠ s0 → f s = g s) → f s0 = g s0 + v → sm f L = sm g L + v
  | [], _, h, _, _ => nomatch h
  | s :: L, nd, h, hs, h0 => by
    rw [sm_cons, sm_cons]
    obtain ⟨n1, n2⟩ := List.nodup_cons.mp nd
    rcases List.mem_cons.mp h with e | h
    · subst e
      rw [h0, sm_same fun t ht => hs t (List.mem_cons_of_mem _ ht) fun z => n1 (z ▸ ht)]
      omega
    · rw [hs s List.mem_cons_self fun z => n1 (z ▸ h), sm_one n2 h (fun t ht => hs t (List.mem_cons_of_mem _ ht)) h0]
      omega
theorem sm_filter {f : List Str → Int} {p : List Str → Bool} : ∀ {L : Ss}, (∀ s ∈ L, p s = false → f s = 0) → sm f (L.filter p) = sm f L
  | [], _ => rfl
  | s :: L, h => by
    have ih := sm_filter (L := L) fun t ht => h t (List.mem_cons_of_mem _ ht)
    by_cases e : p s = true
    · rw [List.filter_cons_of_pos e, sm_cons, sm_cons, ih]
    · have e' : p s = false := by simpa using e
      rw [List.filter_cons_of_neg (by simp [e']), sm_cons, ih, h s List.mem_cons_self e']
      omega
def UP (y : Str) (xs : List Str) : Int := sm (upI y) (wsets y xs)
def DN (y : Str) (xs : List Str) : Int := sm (dnI y) (wsets y xs)
theorem mem_w {y : Str} {xs s : List Str} : s ∈ wsets y xs ↔ s ∈ subs xs ∧ 2 ≤ s.length ∧ y ∈ s := by
  unfold wsets
  rw [List.mem_filter, List.mem_filter]
  exact ⟨fun ⟨⟨a, b⟩, c⟩ => ⟨a, of_decide_eq_true b, of_decide_eq_true c⟩, fun ⟨a, b, c⟩ => ⟨⟨a, decide_eq_true b⟩, decide_eq_true c⟩⟩
theorem w_nd {y : Str} {xs : List Str} (nd : xs.Nodup) : (wsets y xs).Nodup := ((subs_nd nd).filter _).filter _
theorem one_zero {y : Str} {s : List Str} (hy : y ∈ s) (h : s.length < 2) : s.idxOf y = 0 ∧ s.length = 1 := by
  have := List.idxOf_lt_length_of_mem hy
  omega
/-- the law's sums are the program's -/
theorem sm_law {y : Str} {xs : List Str} (nd : xs.Nodup) (hy : y ∈ xs) : sm (upI y) (lsubs y xs) = UP y xs ∧ sm (dnI y) (lsubs y xs) = DN y xs := by
  have e : wsets y xs = (lsubs y xs).filter fun s => decide (2 ≤ s.length) := by
    unfold wsets
    rw [(lsubs_eq nd).2 hy, List.filter_filter, List.filter_filter]
    exact List.filter_congr fun s _ => Bool.and_comm _ _
  have each : ∀ s ∈ lsubs y xs, decide (2 ≤ s.length) = false → s.idxOf y = 0 ∧ s.length = 1 := fun s hs h => by
    rw [(lsubs_eq nd).2 hy] at hs
    have := of_decide_eq_false h
    exact one_zero (of_decide_eq_true (List.mem_filter.mp hs).2) (by omega)
  unfold UP DN
  rw [e]
  refine ⟨(sm_filter fun s hs h => ?_).symm, (sm_filter fun s hs h => ?_).symm⟩
  · obtain ⟨h0, h1⟩ := each s hs h
    unfold upI
    rw [h0, h1]
    rfl
  · obtain ⟨h0, h1⟩ := each s hs h
    unfold dnI
    rw [h0]
    simp
/-- credits amid rounds -/
def Cr (xs : List Str) (rode : Ss) (c : Str → Int) : Prop := ∀ y ∈ xs, c y = sm (fun s => amid y s (rode.count s)) (wsets y xs)
theorem Cr.zero (xs : List Str) : Cr xs [] fun _ => 0 := fun y _ => by
  have : sm (fun s => amid y s (([] : Ss).count s)) (wsets y xs) = sm (fun _ => 0) (wsets y xs) := sm_same fun s _ => by
    show amid y s 0 = 0
    unfold amid
    simp
  rw [this]
  have z : ∀ L : Ss, sm (fun _ => 0) L = 0 := fun L => by
    induction L with
    | nil => rfl
    | cons s L ih => rw [sm_cons, ih]; rfl
  exact (z _).symm
theorem Cr.step {xs S : List Str} {rode : Ss} {c : Str → Int} {d : Str} (h : Cr xs rode c) (nd : xs.Nodup) (h8 : xs.length ≤ 8) (hS : S ∈ subs xs) (hd : S[rode.count S % S.length]? = some d) :
    Cr xs (rode ++ [S]) fun y => c y - (if y ∈ S then un S.length else 0) + if y = d then 840 else 0 := fun y hy => by
  have sl := sub_of xs S hS
  have dS : d ∈ S := List.mem_of_getElem? hd
  have cnt : ∀ s, (rode ++ [S]).count s = rode.count s + if s = S then 1 else 0 := fun s => by
    rw [List.count_append, List.count_singleton]
    congr 1
    by_cases e : s = S
    · subst e
      simp
    · have e2 : ¬ S = s := fun z => e z.symm
      simp [e, e2]
  show c y - _ + _ = _
  rw [h y hy]
  by_cases yS : y ∈ S
  · rw [if_pos yS]
    have S8 : S.length ≤ 8 := Nat.le_trans sl.length_le h8
    have st := amid_step (k := rode.count S) yS (nd.sublist sl) S8 hd
    by_cases l2 : 2 ≤ S.length
    · have := sm_one (f := fun s => amid y s ((rode ++ [S]).count s)) (g := fun s => amid y s (rode.count s)) (v := - un S.length + if y = d then 840 else 0) (w_nd nd) (mem_w.mpr ⟨hS, l2, yS⟩) (fun s _ ne => by
        show amid y s ((rode ++ [S]).count s) = _
        rw [cnt, if_neg ne]
        rfl) (by
        show amid y S ((rode ++ [S]).count S) = _
        rw [cnt, if_pos rfl, st]
        omega)
      rw [this]
      omega
    · obtain ⟨_, l1⟩ := one_zero yS (by omega)
      have yd : y = d := by
        match S, l1, yS, dS with
        | [z], _, yS, dS => rw [List.mem_singleton.mp yS, List.mem_singleton.mp dS]
      have : sm (fun s => amid y s ((rode ++ [S]).count s)) (wsets y xs) = sm (fun s => amid y s (rode.count s)) (wsets y xs) := sm_same fun s hs => by
        have ne : s ≠ S := fun z => by
          have := (mem_w.mp hs).2.1
          rw [z] at this
          omega
        show amid y s ((rode ++ [S]).count s) = _
        rw [cnt, if_neg ne]
        rfl
      rw [this, if_pos yd, l1]
      show _ - (840 : Int) + 840 = _
      omega
  · have yd : ¬ y = d := fun z => yS (by rw [z]; exact dS)
    rw [if_neg yS, if_neg yd]
    have : sm (fun s => amid y s ((rode ++ [S]).count s)) (wsets y xs) = sm (fun s => amid y s (rode.count s)) (wsets y xs) := sm_same fun s hs => by
      have ne : s ≠ S := fun z => yS (z ▸ (mem_w.mp hs).2.2)
      show amid y s ((rode ++ [S]).count s) = _
      rw [cnt, if_neg ne]
      rfl
    rw [this]
    omega
theorem Cr.bound {xs : List Str} {rode : Ss} {c : Str → Int} (h : Cr xs rode c) (h8 : xs.length ≤ 8) {y : Str} (hy : y ∈ xs) : c y ≤ UP y xs ∧ -DN y xs ≤ c y := by
  rw [h y hy]
  have each : ∀ s ∈ wsets y xs, amid y s (rode.count s) ≤ upI y s ∧ -dnI y s ≤ amid y s (rode.count s) := fun s hs => by
    obtain ⟨a, _, b⟩ := mem_w.mp hs
    exact amid_le b (Nat.le_trans (sub_of xs s a).length_le h8)
  refine ⟨sm_le fun s hs => (each s hs).1, ?_⟩
  unfold DN
  rw [← sm_neg]
  exact sm_le fun s hs => (each s hs).2
/-- sums of what is small are small -/
theorem sm_abs {f : List Str → Int} {b : Nat} : ∀ {L : Ss}, (∀ s ∈ L, (f s).natAbs ≤ b) → (sm f L).natAbs ≤ b * L.length
  | [], _ => Nat.zero_le _
  | s :: L, h => by
    rw [sm_cons, List.length_cons, Nat.mul_add, Nat.mul_one]
    have := h s List.mem_cons_self
    have := sm_abs fun t ht => h t (List.mem_cons_of_mem s ht)
    omega
theorem ud_small {y : Str} {s : List Str} (hy : y ∈ s) (h8 : s.length ≤ 8) : (upI y s).natAbs ≤ 840 ∧ (dnI y s).natAbs ≤ 840 := by
  have h1 : 1 ≤ s.length := List.length_pos_iff.mpr fun z => by rw [z] at hy; cases hy
  have hi := List.idxOf_lt_length_of_mem hy
  have e := un_n h1 h8
  have p := un_pos h1 h8
  unfold upI dnI
  generalize s.idxOf y = i at hi
  generalize s.length = n at *
  generalize un n = u at *
  have a : ((n : Int) - 1 - (i : Int)) * u ≥ 0 := Int.mul_nonneg (by omega) p
  have b : (i : Int) * u ≥ 0 := Int.mul_nonneg (by omega) p
  have c : ((n : Int) - 1 - (i : Int)) * u + (i : Int) * u = 840 - u := by grind
  omega
end SM
set_option Elab.async false
set_option linter.all false
set_option maxRecDepth 100000
set_option maxHeartbeats 4000000
namespace K38
open PySem PySem.Spec PyProof.Rows L2
open C8 (Cal Mak Met pe_c pe_mk pe_mt pe_mt0)
open SM (subs wsets)
open NTU
/-- tuples of names stand in a list -/
def SetsL (H : Hp) (a : Addr) (ps : List (Addr × List Str)) : Prop := H a = some (.lst (ps.map fun p => V.ref p.1)) ∧ ∀ p ∈ ps, H p.1 = some (NT p.1 p.2)
theorem SetsL.same {H H' : Hp} {a : Addr} {ps : List (Addr × List Str)} (h : SetsL H a ps) (s : Same H H') : SetsL H' a ps := ⟨s _ _ h.1, fun p hp => s _ _ (h.2 p hp)⟩
theorem take_one {α : Type} {l : List α} {i : Nat} {x : α} (h : l[i]? = some x) : l.take (i + 1) = l.take i ++ [x] := by rw [List.take_succ, h]; rfl
theorem pow8 {n : Nat} (h : n ≤ 8) : 2 ^ n ≤ 256 := Nat.pow_le_pow_right (by decide) h
theorem line_of {n : Nat} (h : n ≤ 100000) : n ≤ sizeLine := by have := sizeLine_eq; omega
theorem line_lt {n : Nat} (h : n ≤ 100000) : n < sizeLine := by have := sizeLine_eq; omega
section
variable {P : Program} {w : World} {K : PySem.W.Frag} {mg : Str → Option Value} {base : Heap} {f C CT : Addr} {fd : FuncData}
def spSo : Sp := fun vs H Q _ => ∃ (ot : Addr) (xs : List Str), vs = [.ref ot] ∧ H ot = some (.tup (xs.map V.str)) ∧ xs.length ≤ 8 ∧
  ∀ (a : Addr) (H' : Hp) (ps : List (Addr × List Str)), Same H H' → H a = none → SetsL H' a ps → ps.map (·.2) = (subs xs).filter (fun s => decide (2 ≤ s.length)) → Q (.ref a) H'
theorem ok_so (F : Dn K d_sets_of f fd) (b : Bl mg) : FnOk P w K mg base CX0 1 f fd ["order"] spSo := by
  refine F.ok sc_sets_of (fun vs H Q E h => ?_) (fun cdv A outer s H vs Q E hr h => ?_)
  · obtain ⟨ot, xs, rfl, _⟩ := h
    rfl
  · obtain ⟨ot, xs, rfl, hot, l8, hQ⟩ := h
    refine ⟨_, PSs.nox (pss_cons (ps_set (i := 1) sc_sets_of.nd rfl (.inl rfl) (pe_lst (pa_cons (pe_tupN pa_nil) pa_nil)))
      (pss_cons (ps_for PassesOwn.never rfl (pi_tup (pv 0)) (pg_name (i := 2) sc_sets_of.nd rfl (.inr rfl))
        (pss_one (ps_set (i := 1) sc_sets_of.nd rfl (.inl rfl) (pe_op op_cat (pv 1) (pe_lc (own := [("names", 3)]) (g := gName 3) (tt := tYes) rfl sc_sets_of.nd (pi_list (pv 1)) (blkOk_by (N := N_sets_of) (sc := defScope s_sets_of) (by decide +kernel))
          (fun _ _ _ _ _ => pg_name (i := 3) sc_sets_of.nd rfl (Or.inl rfl)) (fun _ _ _ _ _ => pts_nil) (fun _ _ _ _ _ => pe_op (r := rCatN) op_catN (pv 3) (pe_tupN (pa_cons (pv 2) pa_nil))))))))
      (pss_one (ps_ret (pe_lc (own := [("names", 3)]) (g := gName 3) rfl sc_sets_of.nd (pi_list (pv 1)) (blkOk_by (N := N_sets_of) (sc := defScope s_sets_of) (by decide +kernel))
          (fun _ _ _ _ _ => pg_name (i := 3) sc_sets_of.nd rfl (Or.inl rfl)) (fun _ _ _ _ _ => pts_one (pt_cmpR op_ge (pe_callB (r := rLenN) call_lenN rfl b.len boot_len (pa_cons (pv 3) pa_nil)) pe_int (nomark _))) (fun _ _ _ _ _ => pv 3)))))), ?_⟩
    refine ⟨[], rfl, by decide, fun e0 fe0 => ?_⟩
    refine ⟨by show 1 ≤ sizeLine; decide, fun l0 fl0 => ?_⟩
    have s0 := same_new (o := NT e0 []) fe0
    have s1 := same_new (o := .lst [.ref e0]) fl0
    have fl0' : H l0 = none := s0.free fl0
    refine ⟨_, rfl, ot, rfl, ⟨_, SqT.of (s1 _ _ (s0 _ _ hot))⟩, for_tup (K := K) (xs := xs.map V.str) (fun i σ H' => ∃ (a : Addr) (ps : List (Addr × List Str)) (v : Option V), σ = [some (.ref ot), some (.ref a), v, none] ∧ SetsL H' a ps ∧ ps.map (·.2) = subs (xs.take i) ∧ Same H H' ∧ H a = none)
      ⟨l0, [(e0, [])], none, rfl, ⟨upd_same, fun p hp => by
        rw [List.mem_singleton] at hp
        subst hp
        exact s1 _ _ upd_same⟩, rfl, s0.trans s1, fl0'⟩ (fun i σ H' _ z => by obtain ⟨_, _, _, _, _, _, sm, _⟩ := z; exact SqT.of (sm _ _ hot)) ?_ ?_⟩
    · rintro i v σ H2 hi ⟨a, ps, v2, rfl, hs, hps, sm, fa⟩
      rw [List.getElem?_map] at hi
      obtain ⟨z, hz, rfl⟩ := Option.map_eq_some_iff.mp hi
      have hil : i < xs.length := (List.getElem?_eq_some_iff.mp hz).1
      have psl : ps.length ≤ 256 := by
        have := congrArg List.length hps
        rw [List.length_map, SM.subs_len, List.length_take] at this
        rw [this]
        exact pow8 (by omega)
      refine ⟨_, rfl, _, rfl, a, rfl, ⟨_, SqL.of hs.1⟩, fun D hD => lc_list (fun j H' => ∃ qs : List (Addr × List Str), SetsL H' D qs ∧ qs.map (·.2) = ((ps.take j).map (·.2)).map (· ++ [z]) ∧ Same H2 H') ⟨[], ⟨upd_same, fun p hp => nomatch hp⟩, rfl, same_new hD⟩ (fun j H' _ y => by obtain ⟨_, _, _, s3⟩ := y; exact SqL.of (s3 _ _ hs.1)) ?_ ?_⟩
      · rintro j y H3 hy ⟨qs, hq, hqs, s3⟩
        rw [List.getElem?_map] at hy
        obtain ⟨p, hp, rfl⟩ := Option.map_eq_some_iff.mp hy
        have hpm := List.mem_of_getElem? hp
        have hjl : j < ps.length := (List.getElem?_eq_some_iff.mp hp).1
        have hpt := s3 _ _ (hs.2 p hpm)
        have qsl : qs.length ≤ 256 := by
          have := congrArg List.length hqs
          rw [List.length_map, List.length_map, List.length_map, List.length_take] at this
          omega
        have nD : ∀ {b : Addr} {o : HO}, H2 b = some o → b ≠ D := fun e => ne_of_none e hD
        -- what the end of a step needs
        have fin : ∀ (H4 : Hp) (t : Addr), Same H3 H4 → H4 t = some (NT t (p.2 ++ [z])) → ∃ acc, H4 D = some (.lst acc) ∧ acc.length < sizeLine ∧ ∃ qs : List (Addr × List Str), SetsL (upd H4 D (.lst (acc ++ [.ref t]))) D qs ∧ qs.map (·.2) = ((ps.take (j + 1)).map (·.2)).map (· ++ [z]) ∧ Same H2 (upd H4 D (.lst (acc ++ [.ref t]))) := fun H4 t s4 ht => by
          have hq4 := hq.same s4
          refine ⟨_, hq4.1, by rw [List.length_map]; exact line_lt (by omega), qs ++ [(t, p.2 ++ [z])], ⟨?_, fun q hm => ?_⟩, ?_, fun b o e => ?_⟩
          · rw [upd_same, List.map_append]
            rfl
          · have nq : q.1 ≠ D := by
              rcases List.mem_append.mp hm with h | h
              · exact nt_lst (hq4.2 q h) hq4.1
              · rw [List.mem_singleton] at h
                subst h
                exact nt_lst ht hq4.1
            rw [upd_ne nq]
            rcases List.mem_append.mp hm with h | h
            · exact hq4.2 q h
            · rw [List.mem_singleton] at h
              subst h
              exact ht
          · rw [take_one hp, List.map_append, hqs, List.map_append, List.map_append]
            rfl
          · rw [upd_ne (nD e)]
            exact s4 _ _ (s3 _ _ e)
        refine ⟨rfl, ?_⟩
        refine ⟨_, rfl, _, rfl, [z], rfl, (show 1 ≤ 1000 by decide), fun T fT => ?_⟩
        have sT := same_new (o := NT T [z]) fT
        have pl8 : p.2.length ≤ 8 := by
          have : p.2 ∈ subs (xs.take i) := by
            rw [← hps]
            exact List.mem_map.mpr ⟨p, hpm, rfl⟩
          have := (SM.sub_of _ _ this).length_le
          rw [List.length_take] at this
          omega
        refine ⟨p.1, T, p.2, [z], rfl, rfl, sT _ _ hpt, upd_same, by show p.2.length + 1 ≤ 1000; omega, List.cons_ne_nil _ _, fun e2 => ?_, fun _ t ft => ?_⟩
        · refine fin _ T sT ?_
          rw [e2, upd_same]
          rfl
        · exact fin _ t (sT.trans (same_new ft)) upd_same
      · rintro H3 ⟨qs, hq, hqs, s3⟩
        rw [List.length_map, List.take_length] at hqs
        have hs3 := hs.same s3
        have qsl : qs.length ≤ 256 := by
          have := congrArg List.length hqs
          rw [List.length_map, List.length_map, List.length_map] at this
          omega
        refine ⟨a, D, _, _, rfl, rfl, hs3.1, hq.1, by rw [List.length_map, List.length_map]; exact line_of (by omega), fun l fl => ?_⟩
        have sl := same_new (o := .lst ((ps.map fun p => V.ref p.1) ++ qs.map fun p => V.ref p.1)) fl
        refine ⟨l, ps ++ qs, _, rfl, ⟨?_, fun p hp => ?_⟩, ?_, (sm.trans s3).trans sl, (sm.trans s3).free fl⟩
        · rw [upd_same, List.map_append]
        · rcases List.mem_append.mp hp with h | h
          · exact sl _ _ (hs3.2 p h)
          · exact sl _ _ (hq.2 p h)
        · rw [take_one hz, SM.subs_snoc, List.map_append, hqs, hps]
    · rintro σ H2 ⟨a, ps, v2, rfl, hs, hps, sm, fa⟩
      rw [List.length_map, List.take_length] at hps
      have psl : ps.length ≤ 256 := by
        have := congrArg List.length hps
        rw [List.length_map, SM.subs_len] at this
        rw [this]
        exact pow8 l8
      refine ⟨_, rfl, a, rfl, ⟨_, SqL.of hs.1⟩, fun D hD => lc_list (fun j H' => H' D = some (.lst (((ps.take j).filter fun p => decide (2 ≤ p.2.length)).map fun p => V.ref p.1)) ∧ Same H2 H') ⟨upd_same, same_new hD⟩ (fun j H' _ y => SqL.of (y.2 _ _ hs.1)) ?_ ?_⟩
      · rintro j y H3 hy ⟨hd, s3⟩
        rw [List.getElem?_map] at hy
        obtain ⟨p, hp, rfl⟩ := Option.map_eq_some_iff.mp hy
        have hpm := List.mem_of_getElem? hp
        have hjl : j < ps.length := (List.getElem?_eq_some_iff.mp hp).1
        have hpt := s3 _ _ (hs.2 p hpm)
        refine ⟨rfl, ?_⟩
        refine ⟨_, rfl, p.1, _, rfl, hpt, _, _, rfl, rfl, _, rfl, ?_⟩
        refine ite2 (fun hm => ?_) (fun hm => ?_)
        · have h2 : 2 ≤ p.2.length := by have := of_decide_eq_true hm; omega
          refine ⟨_, rfl, _, hd, ?_, ?_, ?_⟩
          · rw [List.length_map]
            refine line_lt (Nat.le_trans (List.length_filter_le _ _) ?_)
            rw [List.length_take]
            omega
          · rw [upd_same, take_one hp, List.filter_append, List.map_append]
            simp [h2]
          · intro b o e
            rw [upd_ne (ne_of_none e hD)]
            exact s3 b o e
        · have h2 : ¬ 2 ≤ p.2.length := fun z => hm (decide_eq_true (by omega))
          refine ⟨?_, s3⟩
          rw [take_one hp, List.filter_append]
          simp [h2, hd]
      · rintro H3 ⟨hd, s3⟩
        rw [List.length_map, List.take_length] at hd
        refine hQ D H3 _ (sm.trans s3) (sm.free hD) ⟨hd, fun p hp => s3 _ _ (hs.2 p (List.mem_filter.mp hp).1)⟩ ?_
        rw [← hps, List.filter_map]
        rfl
def spSw : Sp := fun vs H Q _ => ∃ (ot : Addr) (xs : List Str) (y : Str), vs = [.ref ot, .str y] ∧ H ot = some (.tup (xs.map V.str)) ∧ xs.length ≤ 8 ∧
  ∀ (a : Addr) (H' : Hp) (ps : List (Addr × List Str)), Same H H' → H a = none → SetsL H' a ps → ps.map (·.2) = wsets y xs → Q (.ref a) H'
theorem w_few (y : Str) {xs : List Str} (h : xs.length ≤ 8) : (wsets y xs).length ≤ 256 := by
  unfold wsets
  refine Nat.le_trans (List.length_filter_le _ _) (Nat.le_trans (List.length_filter_le _ _) ?_)
  rw [SM.subs_len]
  exact pow8 h
theorem ok_sw (F : Dn K d_sets_with f fd) (cS : Cal P w K mg base 1 "sets_of" spSo []) : FnOk P w K mg base CX0 2 f fd ["order", "name"] spSw := by
  refine F.ok sc_sets_with (fun vs H Q E h => ?_) (fun cdv A outer s H vs Q E hr h => ?_)
  · obtain ⟨ot, xs, y, rfl, _⟩ := h
    rfl
  · obtain ⟨ot, xs, y, rfl, hot, l8, hQ⟩ := h
    refine ⟨_, PSs.nox (pss_one (ps_ret (pe_lc (own := [("names", 2)]) (g := gName 2) rfl sc_sets_with.nd (pi_list (pe_c cS hr (by decide) rfl (pa_cons (pv 0) pa_nil))) (blkOk_by (N := N_sets_with) (sc := defScope s_sets_with) (by decide +kernel))
          (fun _ _ _ _ _ => pg_name (i := 2) sc_sets_with.nd rfl (Or.inl rfl)) (fun _ _ _ _ _ => pts_one (pt_cmpR (r := rInN) op_inN (pv 1) (pv 2) (by rfl))) (fun _ _ _ _ _ => pv 2)))), ?_⟩
    refine ⟨_, rfl, ot, xs, rfl, hot, l8, fun a H2 ps sm fa hs hps => ?_⟩
    have psl : ps.length ≤ 256 := by
      have := congrArg List.length hps
      rw [List.length_map] at this
      rw [this]
      refine Nat.le_trans (List.length_filter_le _ _) ?_
      rw [SM.subs_len]
      exact pow8 l8
    refine ⟨a, rfl, ⟨_, SqL.of hs.1⟩, fun D hD => lc_list (fun j H' => H' D = some (.lst (((ps.take j).filter fun p => decide (y ∈ p.2)).map fun p => V.ref p.1)) ∧ Same H2 H') ⟨upd_same, same_new hD⟩ (fun j H' _ y => SqL.of (y.2 _ _ hs.1)) ?_ ?_⟩
    · rintro j v H3 hy ⟨hd, s3⟩
      rw [List.getElem?_map] at hy
      obtain ⟨p, hp, rfl⟩ := Option.map_eq_some_iff.mp hy
      have hpm := List.mem_of_getElem? hp
      have hjl : j < ps.length := (List.getElem?_eq_some_iff.mp hp).1
      have hpt := s3 _ _ (hs.2 p hpm)
      refine ⟨rfl, ?_⟩
      refine ⟨_, rfl, _, rfl, y, p.1, _, rfl, rfl, hpt, _, rfl, ?_⟩
      refine ite2 (fun hm => ?_) (fun hm => ?_)
      · have h2 : y ∈ p.2 := of_decide_eq_true hm
        refine ⟨_, rfl, _, hd, ?_, ?_, ?_⟩
        · rw [List.length_map]
          refine line_lt (Nat.le_trans (List.length_filter_le _ _) ?_)
          rw [List.length_take]
          omega
        · rw [upd_same, take_one hp, List.filter_append, List.map_append]
          simp [h2]
        · intro b o e
          rw [upd_ne (ne_of_none e hD)]
          exact s3 b o e
      · have h2 : ¬ y ∈ p.2 := fun z => hm (decide_eq_true z)
        refine ⟨?_, s3⟩
        rw [take_one hp, List.filter_append]
        simp [h2, hd]
    · rintro H3 ⟨hd, s3⟩
      rw [List.length_map, List.take_length] at hd
      refine hQ D H3 _ (sm.trans s3) (sm.free hD) ⟨hd, fun p hp => s3 _ _ (hs.2 p (List.mem_filter.mp hp).1)⟩ ?_
      unfold wsets
      rw [← hps, List.filter_map]
      rfl
def spCi : Sp := fun vs H Q _ => ∃ (ot : Addr) (xs : List Str) (y : Str), vs = [.ref ot, .str y] ∧ H ot = some (.tup (xs.map V.str)) ∧ y ∈ xs ∧ Q .non H
theorem ok_ci (F : Dn K d_check_in_order f fd) : FnOk P w K mg base CX0 1 f fd ["order", "name"] spCi := by
  refine F.ok sc_check_in_order (fun vs H Q E h => ?_) (fun cdv A outer s H vs Q E hr h => ?_)
  · obtain ⟨ot, xs, y, rfl, _⟩ := h
    rfl
  · obtain ⟨ot, xs, y, rfl, hot, hy, hQ⟩ := h
    refine ⟨_, PSs.nox (pss_one (ps_if (pt_cmpR op_notIn_seq (pv 1) (pv 0) (by rfl)) pss_never pss_nil)), ?_⟩
    refine ⟨_, rfl, _, rfl, ot, _, rfl, .inr (SqT.of hot), rfl, flat_strs xs, _, rfl, ?_⟩
    rw [inV_strs, decide_eq_true hy]
    exact iteF hQ
end
end K38
set_option Elab.async false
set_option linter.all false
set_option maxRecDepth 100000
set_option maxHeartbeats 4000000
namespace K38
open PySem PySem.Spec PyProof.Rows L2
open C8 (Cal Mak Met pe_c pe_mk pe_mt pe_mt0)
open KM (pr Sz)
open NTU
open SM (subs wsets upI dnI UP DN un sm)
theorem div_rt (a : Int) {n : Nat} (h1 : 1 ≤ n) (h8 : n ≤ 8) : Rat.divInt a (n : Int) = rt (a * un n) := by
  unfold rt
  rw [Rat.divInt_eq_divInt_iff (by omega) (by decide), Int.mul_assoc, SM.un_n h1 h8]
theorem rt_plus (a b : Int) : rt a + rt b = rt (a + b) := by
  unfold rt
  rw [Rat.divInt_add_divInt _ _ (by decide) (by decide), Rat.divInt_eq_divInt_iff (by decide) (by decide)]
  omega
theorem rt_zero : rt 0 = 0 := by
  unfold rt
  rw [Rat.zero_divInt]
theorem sum_rt (f : List Str → Int) : ∀ L : List (List Str), sumR (L.map fun s => rt (f s)) = rt (sm f L)
  | [] => rt_zero.symm
  | s :: L => by
    rw [List.map_cons, sumR_cons, sum_rt f L, SM.sm_cons, rt_plus]
theorem sz_rt12 {c : Int} (h : c.natAbs ≤ 840) : Sz 12 (rt c) := KM.sz_of_low (by decide) (Nat.lt_of_le_of_lt h (by decide)) (by decide)
section
variable {P : Program} {w : World} {K : PySem.W.Frag} {mg : Str → Option Value} {base : Heap} {f C CT : Addr} {fd : FuncData}
theorem KpT.tup {a b c : Addr} {H H' : Hp} {ys : List V} {xs zs : List V} (k : KpT a b H H') (ha : H a = some (.lst xs)) (hb : H b = some (.lst zs)) (e : H c = some (.tup ys)) : H' c = some (.tup ys) :=
  k _ _ e (fun z => by rw [z, ha] at e; cases e) (fun z => by rw [z, hb] at e; cases e)
def spRB (C : Addr) : Sp := fun vs H Q _ => ∃ (ot : Addr) (xs : List Str) (y : Str), vs = [.ref ot, .str y] ∧ H ot = some (.tup (xs.map V.str)) ∧ xs.length ≤ 8 ∧ y ∈ xs ∧
  ∀ (t p q : Addr) (H' : Hp), Same H H' → H t = none → H' t = some (.tup [.ref p, .ref q]) → Sh C H' p (pr (rt (UP y xs))) → Sh C H' q (pr (rt (DN y xs))) → Q (.ref t) H'
theorem ok_rbd (F : Dn K d_round_bound f fd) (b : Bl mg) (MS : MakS P w K mg base C) (cC : Cal P w K mg base 1 "check_in_order" spCi []) (cS : Cal P w K mg base 2 "sets_with" spSw []) (cT : Cal P w K mg base 5 "total" (spTotal K C) [.int 0]) : FnOk P w K mg base CX0 6 f fd ["order", "name"] (spRB C) := by
  refine F.ok sc_round_bound (fun vs H Q E h => ?_) (fun cdv A outer s H vs Q E hr h => ?_)
  · obtain ⟨ot, xs, y, rfl, _⟩ := h
    rfl
  · obtain ⟨ot, xs, y, rfl, hot, l8, hy, hQ⟩ := h
    refine ⟨_, PSs.nox (pss_cons (ps_expr (pe_c cC hr (by decide) rfl (pa_cons (pv 0) (pa_cons (pv 1) pa_nil))))
      (pss_cons (ps_set (i := 2) sc_round_bound.nd rfl (.inl rfl) (pe_lst pa_nil))
      (pss_cons (ps_set (i := 3) sc_round_bound.nd rfl (.inl rfl) (pe_lst pa_nil))
      (pss_cons (ps_for PassesOwn.never rfl (pi_list (pe_c cS hr (by decide) rfl (pa_cons (pv 0) (pa_cons (pv 1) pa_nil)))) (pg_name (i := 4) sc_round_bound.nd rfl (.inl rfl))
        (pss_cons (ps_set (i := 5) sc_round_bound.nd rfl (.inl rfl) (pe_ixN (pv 4) (pa_cons (pv 1) pa_nil)))
        (pss_cons (ps_expr (pe_bm PySem.F.plainAttrs_list PySem.F.slot_list_append PySem.F.type_list_append mt_append (pv 2) (pa_cons (pe_mk MS hr (by decide) rfl (pa_cons (pe_op op_sub (pe_op op_sub (pe_callB call_lenN rfl b.len boot_len (pa_cons (pv 4) pa_nil)) pe_int) (pv 5)) (pa_cons (pe_callB call_lenN rfl b.len boot_len (pa_cons (pv 4) pa_nil)) pa_nil))) pa_nil)))
        (pss_one (ps_expr (pe_bm PySem.F.plainAttrs_list PySem.F.slot_list_append PySem.F.type_list_append mt_append (pv 3) (pa_cons (pe_mk MS hr (by decide) rfl (pa_cons (pv 5) (pa_cons (pe_callB call_lenN rfl b.len boot_len (pa_cons (pv 4) pa_nil)) pa_nil))) pa_nil)))))))
      (pss_one (ps_ret (pe_tup (pa_cons (pe_c cT hr (by decide) rfl (pa_cons (pv 2) pa_nil)) (pa_cons (pe_c cT hr (by decide) rfl (pa_cons (pv 3) pa_nil)) pa_nil))))))))), ?_⟩
    refine ⟨_, rfl, _, rfl, ot, xs, y, rfl, hot, hy, ?_⟩
    refine ⟨by show 0 ≤ sizeLine; decide, fun l1 f1 => ?_⟩
    refine ⟨by show 0 ≤ sizeLine; decide, fun l2 f2 => ?_⟩
    have s1 := same_new (o := .lst []) f1
    have s2 := same_new (o := .lst []) f2
    have e1 : (upd (upd H l1 (.lst [])) l2 (.lst [])) l1 = some (.lst []) := s2 _ _ upd_same
    have e2 : (upd (upd H l1 (.lst [])) l2 (.lst [])) l2 = some (.lst []) := upd_same
    have n12 : l1 ≠ l2 := ne_of_none (upd_same : (upd H l1 (.lst [])) l1 = _) f2
    have f2' : H l2 = none := s1.free f2
    have s02 := s1.trans s2
    have hot2 := s02 _ _ hot
    generalize upd (upd H l1 (.lst [])) l2 (.lst []) = H2 at e1 e2 s02 hot2
    refine ⟨_, rfl, _, rfl, ot, xs, y, rfl, hot2, l8, fun a H3 ps s3 fa hs hps => ?_⟩
    have psl : ps.length ≤ 256 := by
      have := congrArg List.length hps
      rw [List.length_map] at this
      rw [this]
      exact w_few y l8
    have each : ∀ p ∈ ps, p.2.length ≤ 8 ∧ 2 ≤ p.2.length ∧ y ∈ p.2 := fun p hp => by
      have : p.2 ∈ wsets y xs := by
        rw [← hps]
        exact List.mem_map.mpr ⟨p, hp, rfl⟩
      obtain ⟨a, b, c⟩ := SM.mem_w.mp this
      exact ⟨Nat.le_trans (SM.sub_of _ _ a).length_le l8, b, c⟩
    have g1 := s3 _ _ e1
    have g2 := s3 _ _ e2
    have na1 : a ≠ l1 := fun z => by rw [z, e1] at fa; cases fa
    have na2 : a ≠ l2 := fun z => by rw [z, e2] at fa; cases fa
    refine ⟨a, rfl, ⟨_, SqL.of hs.1⟩, for_list (K := K) (xs := ps.map fun p => V.ref p.1) (fun i σ H' => ∃ (L1 L2 : List (Addr × Rat)) (v4 v5 : Option V), σ = [some (.ref ot), some (.str y), some (.ref l1), some (.ref l2), v4, v5] ∧ KpT l1 l2 H3 H' ∧
        H' l1 = some (.lst (L1.map fun x => V.ref x.1)) ∧ (∀ x ∈ L1, Sh C H' x.1 (pr x.2)) ∧ ratsOf L1 = ((ps.take i).map (·.2)).map (fun s => rt (upI y s)) ∧ H' l2 = some (.lst (L2.map fun x => V.ref x.1)) ∧ (∀ x ∈ L2, Sh C H' x.1 (pr x.2)) ∧ ratsOf L2 = ((ps.take i).map (·.2)).map (fun s => rt (dnI y s)))
      ⟨[], [], none, none, rfl, fun b o e _ _ => e, g1, fun x hx => (nomatch hx), rfl, g2, fun x hx => (nomatch hx), rfl⟩ (fun i σ H' _ z => by obtain ⟨_, _, _, _, _, k, _⟩ := z; exact SqL.of (k _ _ hs.1 na1 na2)) ?_ ?_⟩
    · rintro i v σ H4 hi ⟨L1, L2, v4, v5, rfl, k4, h1, hL1, r1, h2, hL2, r2⟩
      rw [List.getElem?_map] at hi
      obtain ⟨p, hp, rfl⟩ := Option.map_eq_some_iff.mp hi
      have hpm := List.mem_of_getElem? hp
      have hil : i < ps.length := (List.getElem?_eq_some_iff.mp hp).1
      obtain ⟨p8, p2, py⟩ := each p hpm
      have hpt : H4 p.1 = some (NT p.1 p.2) := k4 _ _ (hs.2 p hpm) (nt_lst (hs.2 p hpm) g1) (nt_lst (hs.2 p hpm) g2)
      have c1 : L1.length ≤ 256 := by
        have := congrArg List.length r1
        unfold ratsOf at this
        rw [List.length_map, List.length_map, List.length_map, List.length_take] at this
        omega
      have c2 : L2.length ≤ 256 := by
        have := congrArg List.length r2
        unfold ratsOf at this
        rw [List.length_map, List.length_map, List.length_map, List.length_take] at this
        omega
      have ne0 : ((p.2.length : Nat) : Int) ≠ 0 := by omega
      have small : ((p.2.length : Nat) : Int).natAbs < 2 ^ 10 := by
        rw [Int.natAbs_natCast]
        exact Nat.lt_of_le_of_lt p8 (by decide)
      refine ⟨_, rfl, p.1, p.2, rfl, hpt, _, rfl, y, rfl, hpt, py, ?_⟩
      refine ⟨_, rfl, .inl ⟨rfl, _, SqL.of h1⟩, ?_⟩
      refine ⟨_, rfl, p.1, _, rfl, hpt, _, _, rfl, rfl, _, rfl, _, _, rfl, rfl, _, rfl, p.1, _, rfl, hpt, ?_⟩
      intro q dq nq nd ne
      refine mk_in (n := 10) nq nd ne0 small (by decide) (by decide) fun H5 s5 hq => ⟨rfl, ?_⟩
      rw [div_rt _ (by omega) p8] at hq
      have h1_5 := s5 _ _ h1
      refine ⟨l1, _, _, rfl, rfl, h1_5, by rw [List.length_map]; exact line_lt (by omega), ?_⟩
      have k5 : ∀ {b : Addr} {o : HO}, H4 b = some o → b ≠ l1 → (upd H5 l1 (.lst ((L1.map fun x => V.ref x.1) ++ [.ref q]))) b = some o := fun e n => by
        rw [upd_ne n]
        exact s5 _ _ e
      have shk : ∀ {b : Addr} {u : Int × Int}, Sh C H5 b u → Sh C (upd H5 l1 (.lst ((L1.map fun x => V.ref x.1) ++ [.ref q]))) b u := fun {b u} ⟨dx, e⟩ => ⟨dx, by
        rw [upd_ne (fun z => by rw [z, h1_5] at e; cases e)]
        exact e⟩
      have hpt5 := k5 hpt (nt_lst hpt h1)
      have h2_5 := k5 h2 n12.symm
      have h1_6 : (upd H5 l1 (.lst ((L1.map fun x => V.ref x.1) ++ [.ref q]))) l1 = _ := upd_same
      have hq5 := shk hq
      have hL1_5 : ∀ x ∈ L1, Sh C (upd H5 l1 (.lst ((L1.map fun x => V.ref x.1) ++ [.ref q]))) x.1 (pr x.2) := fun x hx => shk ((hL1 x hx).keep s5)
      have hL2_5 : ∀ x ∈ L2, Sh C (upd H5 l1 (.lst ((L1.map fun x => V.ref x.1) ++ [.ref q]))) x.1 (pr x.2) := fun x hx => shk ((hL2 x hx).keep s5)
      have k45 : KpT l1 l2 H3 (upd H5 l1 (.lst ((L1.map fun x => V.ref x.1) ++ [.ref q]))) := fun b o e n1 n2 => k5 (k4 b o e n1 n2) n1
      generalize upd H5 l1 (.lst ((L1.map fun x => V.ref x.1) ++ [.ref q])) = H6 at hpt5 h2_5 h1_6 hq5 hL1_5 hL2_5 k45
      refine ⟨_, rfl, .inl ⟨rfl, _, SqL.of h2_5⟩, ?_⟩
      refine ⟨_, rfl, _, rfl, p.1, _, rfl, hpt5, ?_⟩
      intro q2 dq2 nq2 nd2 ne2
      refine mk_in (n := 10) nq2 nd2 ne0 small (by decide) (by decide) fun H7 s7 hq2 => ⟨rfl, ?_⟩
      rw [div_rt _ (by omega) p8] at hq2
      have h2_7 := s7 _ _ h2_5
      refine ⟨l2, _, _, rfl, rfl, h2_7, by rw [List.length_map]; exact line_lt (by omega), ?_⟩
      have shk7 : ∀ {b : Addr} {u : Int × Int}, Sh C H7 b u → Sh C (upd H7 l2 (.lst ((L2.map fun x => V.ref x.1) ++ [.ref q2]))) b u := fun {b u} ⟨dx, e⟩ => ⟨dx, by
        rw [upd_ne (fun z => by rw [z, h2_7] at e; cases e)]
        exact e⟩
      refine ⟨L1 ++ [(q, rt (upI y p.2))], L2 ++ [(q2, rt (dnI y p.2))], _, _, rfl, fun b o e n1 n2 => ?_, ?_, fun x hx => ?_, ?_, ?_, fun x hx => ?_, ?_⟩
      · rw [upd_ne n2]
        exact s7 _ _ (k45 b o e n1 n2)
      · rw [upd_ne n12, s7 _ _ h1_6, List.map_append]
        rfl
      · rcases List.mem_append.mp hx with h | h
        · exact shk7 ((hL1_5 x h).keep s7)
        · rw [List.mem_singleton] at h
          subst h
          exact shk7 (hq5.keep s7)
      · unfold ratsOf at r1 ⊢
        rw [take_one hp, List.map_append, List.map_append, List.map_append, r1]
        rfl
      · rw [upd_same, List.map_append]
        rfl
      · rcases List.mem_append.mp hx with h | h
        · exact shk7 ((hL2_5 x h).keep s7)
        · rw [List.mem_singleton] at h
          subst h
          exact shk7 hq2
      · unfold ratsOf at r2 ⊢
        rw [take_one hp, List.map_append, List.map_append, List.map_append, r2]
        rfl
    · rintro σ H4 ⟨L1, L2, v4, v5, rfl, k4, h1, hL1, r1, h2, hL2, r2⟩
      rw [List.length_map, List.take_length, hps] at r1 r2
      have c1 : L1.length ≤ 256 := by
        have := congrArg List.length r1
        unfold ratsOf at this
        rw [List.length_map, List.length_map] at this
        rw [this]
        exact w_few y l8
      have c2 : L2.length ≤ 256 := by
        have := congrArg List.length r2
        unfold ratsOf at this
        rw [List.length_map, List.length_map] at this
        rw [this]
        exact w_few y l8
      have szs : ∀ (g : List Str → Int) (L : List (Addr × Rat)), ratsOf L = (wsets y xs).map (fun s => rt (g s)) → (∀ s ∈ wsets y xs, (g s).natAbs ≤ 840) → ∀ x ∈ L, Sz 12 x.2 := fun g L r hg x hx => by
        have : x.2 ∈ ratsOf L := List.mem_map.mpr ⟨x, hx, rfl⟩
        rw [r] at this
        obtain ⟨s, hs, e⟩ := List.mem_map.mp this
        rw [← e]
        exact sz_rt12 (hg s hs)
      have small : ∀ s ∈ wsets y xs, (upI y s).natAbs ≤ 840 ∧ (dnI y s).natAbs ≤ 840 := fun s hs => by
        obtain ⟨a, _, c⟩ := SM.mem_w.mp hs
        exact SM.ud_small c (Nat.le_trans (SM.sub_of _ _ a).length_le l8)
      have s03 : ∀ b o, H b = some o → H4 b = some o := fun b o e => k4 b o (s3 _ _ (s02 _ _ e)) (ne_of_none e f1) (ne_of_none e f2')
      refine ⟨_, rfl, l1, L1, rfl, ⟨SqL.of h1, hL1⟩, szs _ L1 r1 (fun s hs => (small s hs).1), c1, fun t1 H5 s5 ft1 ht1 => ?_⟩
      refine ⟨_, rfl, l2, L2, rfl, ⟨SqL.of (s5 _ _ h2), fun x hx => (hL2 x hx).keep s5⟩, szs _ L2 r2 (fun s hs => (small s hs).2), c2, fun t2 H6 s6 ft2 ht2 => ?_⟩
      rw [r1, sum_rt] at ht1
      rw [r2, sum_rt] at ht2
      refine ⟨by show 2 ≤ sizeLine; decide, fun t ft => ?_⟩
      have st := same_new (o := .tup [.ref t1, .ref t2]) ft
      have sall : Same H H6 := fun b o e => s6 _ _ (s5 _ _ (s03 b o e))
      exact hQ t t1 t2 _ (sall.trans st) (sall.free ft) upd_same ((ht1.keep s6).keep st) (ht2.keep st)
end
end K38
set_option Elab.async false
set_option linter.all false
set_option maxRecDepth 100000
set_option maxHeartbeats 4000000
namespace K38
open PySem PySem.Spec PyProof.Rows L2
open C8 (Cal Mak Met pe_c pe_mk pe_mt pe_mt0)
open NTU
open SM (subs wsets)
/-- lists of names stand in a list; none of them was there in H0 -/
def DaysL (H0 H : Hp) (a : Addr) (qs : List (Addr × List Str)) : Prop := H a = some (.lst (qs.map fun p => V.ref p.1)) ∧ ∀ p ∈ qs, H p.1 = some (.lst (p.2.map V.str)) ∧ H0 p.1 = none ∧ p.1 ≠ a
section
variable {P : Program} {w : World} {K : PySem.W.Frag} {mg : Str → Option Value} {base : Heap} {f C CT : Addr} {fd : FuncData}
def spRo : Sp := fun vs H Q _ => ∃ (a : Addr) (ps : List (Addr × List Str)), vs = [.ref a] ∧ SetsL H a ps ∧ ps.length ≤ 1000 ∧
  ∀ (t : Addr) (H' : Hp) (qs : List (Addr × List Str)), Same H H' → H t = none → DaysL H H' t qs → qs.map (·.2) = ps.map (·.2) → Q (.ref t) H'
theorem ok_ro (F : Dn K d_row_of f fd) (b : Bl mg) : FnOk P w K mg base CX0 1 f fd ["sets"] spRo := by
  refine F.ok sc_row_of (fun vs H Q E h => ?_) (fun cdv A outer s H vs Q E hr h => ?_)
  · obtain ⟨a, ps, rfl, _⟩ := h
    rfl
  · obtain ⟨a, ps, rfl, hs, pl, hQ⟩ := h
    refine ⟨_, PSs.nox (pss_one (ps_ret (pe_lc (own := [("names", 1)]) (g := gName 1) (tt := tYes) rfl sc_row_of.nd (pi_list (pv 0)) (blkOk_by (N := N_row_of) (sc := defScope s_row_of) (by decide +kernel))
          (fun _ _ _ _ _ => pg_name (i := 1) sc_row_of.nd rfl (Or.inl rfl)) (fun _ _ _ _ _ => pts_nil) (fun _ _ _ _ _ => pe_callTy (r := rListN) call_listN rfl b.list boot_list (pa_cons (pv 1) pa_nil))))), ?_⟩
    refine ⟨_, rfl, a, rfl, ⟨_, SqL.of hs.1⟩, fun D hD => lc_list (fun j H' => ∃ qs : List (Addr × List Str), DaysL H H' D qs ∧ qs.map (·.2) = (ps.take j).map (·.2) ∧ Same H H') ⟨[], ⟨upd_same, fun p hp => nomatch hp⟩, rfl, same_new hD⟩ (fun j H' _ z => by obtain ⟨_, _, _, s3⟩ := z; exact SqL.of (s3 _ _ hs.1)) ?_ ?_⟩
    · rintro j v H3 hy ⟨qs, hq, hqs, s3⟩
      rw [List.getElem?_map] at hy
      obtain ⟨p, hp, rfl⟩ := Option.map_eq_some_iff.mp hy
      have hpm := List.mem_of_getElem? hp
      have hjl : j < ps.length := (List.getElem?_eq_some_iff.mp hp).1
      have hpt := s3 _ _ (hs.2 p hpm)
      have ql : qs.length ≤ 1000 := by
        have := congrArg List.length hqs
        rw [List.length_map, List.length_map, List.length_take] at this
        omega
      refine ⟨rfl, ?_⟩
      refine ⟨_, rfl, p.1, p.2, rfl, hpt, fun l fl => ?_⟩
      have sl := same_new (o := .lst (p.2.map V.str)) fl
      have hD3 := sl _ _ hq.1
      have nlD : l ≠ D := (ne_of_none hq.1 fl).symm
      have fl0 : H l = none := s3.free fl
      refine ⟨_, hD3, by rw [List.length_map]; exact line_lt (by omega), qs ++ [(l, p.2)], ⟨?_, fun q hm => ?_⟩, ?_, fun b o e => ?_⟩
      · rw [upd_same, List.map_append]
        rfl
      · rcases List.mem_append.mp hm with h | h
        · obtain ⟨h1, h2, h3⟩ := hq.2 q h
          exact ⟨by rw [upd_ne h3]; exact sl _ _ h1, h2, h3⟩
        · rw [List.mem_singleton] at h
          subst h
          exact ⟨by rw [upd_ne nlD, upd_same], fl0, nlD⟩
      · rw [take_one hp, List.map_append, hqs, List.map_append]
        rfl
      · rw [upd_ne (ne_of_none e hD)]
        exact sl _ _ (s3 _ _ e)
    · rintro H3 ⟨qs, hq, hqs, s3⟩
      rw [List.length_map, List.take_length] at hqs
      exact hQ D H3 qs s3 hD hq hqs
/-- the days that lead the name far -/
def rrow (y : Str) (xs : List Str) (ow : Bool) : List (List Str) := (wsets y xs).flatMap fun s => List.replicate (s.idxOf y + if ow then 1 else 0) s
def spRR : Sp := fun vs H Q _ => ∃ (ot : Addr) (xs : List Str) (y : Str) (ow : Bool), vs = [.ref ot, .str y, .bl ow] ∧ H ot = some (.tup (xs.map V.str)) ∧ xs.length ≤ 6 ∧ y ∈ xs ∧
  ∀ (t : Addr) (H' : Hp) (qs : List (Addr × List Str)), Same H H' → H t = none → DaysL H H' t qs → qs.length ≤ 2000 → qs.map (·.2) = rrow y xs ow → Q (.ref t) H'
theorem rep_take {α : Type} (x : α) (j n : Nat) (h : j ≤ n) : (List.replicate n x).take j = List.replicate j x := by rw [List.take_replicate, Nat.min_eq_left h]
theorem ok_rr (F : Dn K d_round_row f fd) (b : Bl mg) (gm : ∃ t, mg "MOST_IN_ROW" = some (.int 6 t)) (cC : Cal P w K mg base 1 "check_in_order" spCi []) (cS : Cal P w K mg base 2 "sets_with" spSw []) (cR : Cal P w K mg base 1 "row_of" spRo []) : FnOk P w K mg base CX0 3 f fd ["order", "name", "owed"] spRR := by
  refine F.ok sc_round_row (fun vs H Q E h => ?_) (fun cdv A outer s H vs Q E hr h => ?_)
  · obtain ⟨ot, xs, y, ow, rfl, _⟩ := h
    rfl
  · obtain ⟨ot, xs, y, ow, rfl, hot, l6, hy, hQ⟩ := h
    obtain ⟨tk, gm⟩ := gm
    refine ⟨_, PSs.nox (pss_cons (ps_if (pt_cmpR op_gt (pe_callB call_len_seq rfl b.len boot_len (pa_cons (pv 0) pa_nil)) (pe_glob (v := .int 6) rfl gm ⟨tk, rfl⟩) (nomark _)) pss_never pss_nil)
      (pss_cons (ps_expr (pe_c cC hr (by decide) rfl (pa_cons (pv 0) (pa_cons (pv 1) pa_nil))))
      (pss_cons (ps_set (i := 3) sc_round_row.nd rfl (.inl rfl) (pe_lst pa_nil))
      (pss_cons (ps_for PassesOwn.never rfl (pi_list (pe_c cS hr (by decide) rfl (pa_cons (pv 0) (pa_cons (pv 1) pa_nil)))) (pg_name (i := 4) sc_round_row.nd rfl (.inr rfl))
        (pss_cons (ps_set (i := 5) sc_round_row.nd rfl (.inl rfl) (pe_ixN (pv 4) (pa_cons (pv 1) pa_nil)))
        (C8.pss_cut (ps_if (pt_val (pv 2)) (pss_one (ps_aug (i := 5) sc_round_row.nd rfl (.inl rfl) pe_int ip_add)) pss_nil)
        (pss_one (ps_set (i := 3) sc_round_row.nd rfl (.inl rfl) (pe_op op_cat (pv 3) (pe_c cR hr (by decide) rfl (pa_cons (pe_lc (own := [("day", 6)]) (g := gName 6) (tt := tYes) rfl sc_round_row.nd (pi_range1 rfl b.range (pa_cons (pv 5) pa_nil)) (blkOk_by (N := N_round_row) (sc := defScope s_round_row) (by decide +kernel))
          (fun _ _ _ _ _ => pg_name (i := 6) sc_round_row.nd rfl (Or.inl rfl)) (fun _ _ _ _ _ => pts_nil) (fun _ _ _ _ _ => pv 4)) pa_nil))))))))
      (pss_one (ps_ret (pv 3))))))), ?_⟩
    refine ⟨_, rfl, ot, _, rfl, .inr (SqT.of hot), _, _, rfl, rfl, ?_⟩
    have z6 : decide ((6 : Int) < ((xs.map V.str).length : Nat)) = false := by
      rw [List.length_map]
      exact decide_eq_false (by omega)
    refine ⟨_, rfl, ?_⟩
    rw [z6]
    refine iteF ?_
    refine ⟨_, rfl, _, rfl, ot, xs, y, rfl, hot, hy, ?_⟩
    refine ⟨by show 0 ≤ sizeLine; decide, fun l1 f1 => ?_⟩
    have s1 := same_new (o := .lst []) f1
    have hl1 : (upd H l1 (.lst [])) l1 = some (.lst []) := upd_same
    have hot1 := s1 _ _ hot
    generalize upd H l1 (.lst []) = H1 at s1 hl1 hot1
    refine ⟨_, rfl, _, rfl, ot, xs, y, rfl, hot1, by omega, fun a H3 ps s3 fa hs hps => ?_⟩
    have psl : ps.length ≤ 256 := by
      have := congrArg List.length hps
      rw [List.length_map] at this
      rw [this]
      exact w_few y (by omega)
    have each : ∀ p ∈ ps, p.2.length ≤ 6 ∧ y ∈ p.2 := fun p hp => by
      have : p.2 ∈ wsets y xs := by
        rw [← hps]
        exact List.mem_map.mpr ⟨p, hp, rfl⟩
      obtain ⟨a, b, c⟩ := SM.mem_w.mp this
      exact ⟨Nat.le_trans (SM.sub_of _ _ a).length_le l6, c⟩
    have s03 := s1.trans s3
    refine ⟨a, rfl, ⟨_, SqL.of hs.1⟩, for_list (K := K) (xs := ps.map fun p => V.ref p.1) (fun i σ H' => ∃ (l : Addr) (qs : List (Addr × List Str)) (v4 v5 v6 : Option V), σ = [some (.ref ot), some (.str y), some (.bl ow), some (.ref l), v4, v5, v6] ∧ Same H3 H' ∧ H l = none ∧ DaysL H H' l qs ∧
        qs.length ≤ 7 * i ∧ qs.map (·.2) = ((ps.take i).map (·.2)).flatMap fun s => List.replicate (s.idxOf y + if ow then 1 else 0) s)
      ⟨l1, [], none, none, none, rfl, Same.refl _, f1, ⟨s3 _ _ hl1, fun p hp => nomatch hp⟩, Nat.zero_le _, rfl⟩ (fun i σ H' _ z => by obtain ⟨_, _, _, _, _, _, k, _⟩ := z; exact SqL.of (k _ _ hs.1)) ?_ ?_⟩
    · rintro i v σ H4 hi ⟨l, qs, v4, v5, v6, rfl, k4, fl, hd, ql, eq⟩
      rw [List.getElem?_map] at hi
      obtain ⟨p, hp, rfl⟩ := Option.map_eq_some_iff.mp hi
      have hpm := List.mem_of_getElem? hp
      have hil : i < ps.length := (List.getElem?_eq_some_iff.mp hp).1
      obtain ⟨p6, py⟩ := each p hpm
      have hpt : H4 p.1 = some (NT p.1 p.2) := k4 _ _ (hs.2 p hpm)
      have ix := List.idxOf_lt_length_of_mem py
      refine ⟨_, rfl, p.1, p.2, rfl, hpt, _, rfl, y, rfl, hpt, py, ?_⟩
      refine ⟨fun σ' H' => σ' = [some (.ref ot), some (.str y), some (.bl ow), some (.ref l), some (.ref p.1), some (.int ((p.2.idxOf y + if ow then 1 else 0 : Nat) : Int)), v6] ∧ H' = H4, ?_, ?_⟩
      · refine ⟨_, rfl, ow, rfl, ?_⟩
        cases ow with
        | true => exact iteT ⟨_, rfl, _, _, rfl, rfl, by show [_, _, _, _, _, _, _] = _; push_cast; rfl, rfl⟩
        | false => exact iteF ⟨rfl, rfl⟩
      rintro σ' H4 ⟨rfl, rfl⟩
      obtain ⟨m, hm⟩ : ∃ m : Nat, m = p.2.idxOf y + if ow then 1 else 0 := ⟨_, rfl⟩
      rw [← hm]
      have m7 : m ≤ 7 := by
        rw [hm]
        split <;> omega
      refine ⟨_, rfl, _, rfl, _, rfl, by omega, by omega, ?_⟩
      have em : ((m : Nat) : Int).toNat = m := by omega
      rw [em]
      intro D hD
      refine lc_range (n := m) (fun j H5 => H5 D = some (.lst ((List.replicate j (p.1, p.2)).map fun p => V.ref p.1)) ∧ Same H4 H5) ⟨upd_same, same_new hD⟩ ?_ ?_
      · rintro j H5 hj ⟨hDj, s5⟩
        refine ⟨rfl, ?_⟩
        refine ⟨_, rfl, _, hDj, by rw [List.length_map, List.length_replicate]; exact line_lt (by omega), ?_, fun b o e => ?_⟩
        · rw [upd_same, List.replicate_succ', List.map_append]
          rfl
        · rw [upd_ne (ne_of_none e hD)]
          exact s5 _ _ e
      rintro H5 ⟨hD5, s5⟩
      have sl5 : SetsL H5 D (List.replicate m (p.1, p.2)) := ⟨hD5, fun q hq => by
        rw [List.eq_of_mem_replicate hq]
        exact s5 _ _ hpt⟩
      refine ⟨D, _, rfl, sl5, by rw [List.length_replicate]; omega, fun t H6 rs s6 ft hr er => ?_⟩
      have rl : rs.length = m := by
        have := congrArg List.length er
        rw [List.length_map, List.length_map, List.length_replicate] at this
        exact this
      have hl6 := s6 _ _ (s5 _ _ hd.1)
      refine ⟨l, t, _, _, rfl, rfl, hl6, hr.1, by rw [List.length_map, List.length_map]; exact line_of (by omega), fun u fu => ?_⟩
      have su := same_new (o := .lst ((qs.map fun p => V.ref p.1) ++ rs.map fun p => V.ref p.1)) fu
      have s46 := (s5.trans s6).trans su
      have s36 := k4.trans s46
      refine ⟨u, qs ++ rs, _, _, _, rfl, s36, (s03.trans (k4.trans (s5.trans s6))).free fu, ⟨?_, fun q hq => ?_⟩, by rw [List.length_append, rl]; omega, ?_⟩
      · rw [upd_same, List.map_append]
      · rcases List.mem_append.mp hq with h | h
        · obtain ⟨h1, h2, h3⟩ := hd.2 q h
          have h4 := s6 _ _ (s5 _ _ h1)
          exact ⟨su _ _ h4, h2, ne_of_none h4 fu⟩
        · obtain ⟨h1, h2, h3⟩ := hr.2 q h
          exact ⟨su _ _ h1, (s03.trans (k4.trans s5)).free h2, ne_of_none h1 fu⟩
      · rw [List.map_append, eq, er, take_one hp, List.map_append, List.flatMap_append, List.map_replicate]
        show _ = _ ++ ([p.2].flatMap _)
        rw [List.flatMap_singleton, hm]
    · rintro σ H4 ⟨l, qs, v4, v5, v6, rfl, k4, fl, hd, ql, eq⟩
      rw [List.length_map, List.take_length, hps] at eq
      rw [List.length_map] at ql
      exact ⟨_, rfl, hQ l H4 qs (s03.trans k4) fl hd (by omega) eq⟩
end
end K38
set_option Elab.async false
set_option linter.all false
set_option maxRecDepth 100000
set_option maxHeartbeats 4000000
namespace K38
open PySem PySem.Spec PyProof.Rows L2
open C8 (Cal Mak Met pe_c pe_mk pe_mt pe_mt0)
open NTU
open KM (pr Sz)
open SM (subs wsets lsubs upI dnI UP DN un sm)
/-- lists of names stand in a list -/
def LL (H : Hp) (a : Addr) (qs : List (Addr × List Str)) : Prop := H a = some (.lst (qs.map fun p => V.ref p.1)) ∧ ∀ p ∈ qs, H p.1 = some (.lst (p.2.map V.str))
theorem LL.same {H H' : Hp} {a : Addr} {qs : List (Addr × List Str)} (h : LL H a qs) (s : Same H H') : LL H' a qs := ⟨s _ _ h.1, fun p hp => s _ _ (h.2 p hp)⟩
section
variable {P : Program} {w : World} {K : PySem.W.Frag} {mg : Str → Option Value} {base : Heap} {f C CT : Addr} {fd : FuncData}
/-- each longer by one name -/
def lc_ext {K : PySem.W.Frag} {a D : Addr} {qs : List (Addr × List Str)} {z : Str} {H2 : Hp} {σ : L2.St} {Qd : Hp → Prop} (hσ : ∀ v, (wipe σ [4])[3]? = some (some (.str z)) ∧ ((wipe σ [4]).set 4 (some v))[3]? = some (some (.str z)) ∧ ((wipe σ [4]).set 4 (some v))[4]? = some (some v) ∧ wipe ((wipe σ [4]).set 4 (some v)) [4] = wipe σ [4])
    (hs : LL H2 a qs) (ql : qs.length ≤ 256) (q8 : ∀ p ∈ qs, p.2.length ≤ 8) (hD : H2 D = none) (hq : ∀ H3 rs, LL H3 D rs → rs.map (·.2) = (qs.map (·.2)).map (· ++ [z]) → Same H2 H3 → Qd H3) :=
  lc_list (K := K) (a := a) (xs := qs.map fun p => V.ref p.1) (g := gName 4) (tt := tYes) (te := tOp rCat (tVar 4) (tLst (tCons (tVar 3) tNil))) (vs := [4]) (σ := σ) (H1 := H2) (D := D) (Qd := Qd) (fun j H' => ∃ rs : List (Addr × List Str), LL H' D rs ∧ rs.map (·.2) = ((qs.take j).map (·.2)).map (· ++ [z]) ∧ Same H2 H') ⟨[], ⟨upd_same, fun p hp => nomatch hp⟩, rfl, same_new hD⟩ (fun j H' _ y => by obtain ⟨_, _, _, s3⟩ := y; exact SqL.of (s3 _ _ hs.1))
    (by
      rintro j v H3 hy ⟨rs, hr, er, s3⟩
      rw [List.getElem?_map] at hy
      obtain ⟨p, hp, rfl⟩ := Option.map_eq_some_iff.mp hy
      have hpm := List.mem_of_getElem? hp
      have hjl : j < qs.length := (List.getElem?_eq_some_iff.mp hp).1
      have hpt := s3 _ _ (hs.2 p hpm)
      have p8 := q8 p hpm
      have rl : rs.length ≤ 256 := by
        have := congrArg List.length er
        rw [List.length_map, List.length_map, List.length_map, List.length_take] at this
        omega
      obtain ⟨_, c2, c3, c4⟩ := hσ (V.ref p.1)
      refine ⟨c4, ?_⟩
      refine ⟨_, c3, _, c2, by show 1 ≤ sizeLine; decide, fun T fT => ?_⟩
      have sT := same_new (o := .lst [V.str z]) fT
      refine ⟨p.1, T, _, _, rfl, rfl, sT _ _ hpt, upd_same, by rw [List.length_map]; exact line_of (by show p.2.length + 1 ≤ 100000; omega), fun t ft => ?_⟩
      have st := same_new (o := .lst (p.2.map V.str ++ [V.str z])) ft
      have hD3 := st _ _ (sT _ _ hr.1)
      have ntD : t ≠ D := (ne_of_none (sT _ _ hr.1) ft).symm
      refine ⟨_, hD3, by rw [List.length_map]; exact line_lt (by omega), rs ++ [(t, p.2 ++ [z])], ⟨?_, fun q hm => ?_⟩, ?_, fun b o e => ?_⟩
      · rw [upd_same, List.map_append]
        rfl
      · rcases List.mem_append.mp hm with h | h
        · have h1 := hr.2 q h
          have nq : q.1 ≠ D := fun e => by
            have := hr.1
            rw [← e, h1] at this
            injection this with this
            injection this with this
            have l1 := congrArg (fun l => l.length) this
            cases hq2 : q.2 with
            | nil =>
              have : q.2 ∈ (((qs.take j).map (·.2)).map (· ++ [z])) := by
                rw [← er]
                exact List.mem_map.mpr ⟨q, h, rfl⟩
              obtain ⟨u, _, e2⟩ := List.mem_map.mp this
              rw [hq2] at e2
              exact absurd e2 (by simp)
            | cons x xs =>
              cases hrs : rs with
              | nil => rw [hrs] at h; cases h
              | cons r rs' =>
                rw [hq2, hrs] at this
                cases this
          rw [upd_ne nq]
          exact st _ _ (sT _ _ h1)
        · rw [List.mem_singleton] at h
          subst h
          show (upd _ D _) t = _
          rw [upd_ne ntD, upd_same, List.map_append]
          rfl
      · rw [take_one hp, List.map_append, er, List.map_append, List.map_append]
        rfl
      · rw [upd_ne (ne_of_none e hD)]
        exact st _ _ (sT _ _ (s3 _ _ e)))
    (by
      rintro H3 ⟨rs, hr, er, s3⟩
      rw [List.length_map, List.take_length] at er
      exact hq H3 rs hr er s3)
def spLs : Sp := fun vs H Q _ => ∃ (ot : Addr) (xs : List Str) (y : Str), vs = [.ref ot, .str y] ∧ H ot = some (.tup (xs.map V.str)) ∧ xs.length ≤ 8 ∧
  ∀ (a : Addr) (H' : Hp) (qs : List (Addr × List Str)), Same H H' → H a = none → LL H' a qs → qs.map (·.2) = lsubs y xs → Q (.ref a) H'
theorem ls_len (y : Str) {xs : List Str} (h : xs.length ≤ 8) : ∀ s ∈ lsubs y xs, s.length ≤ 8 := by
  have : ∀ s ∈ lsubs y xs, s.length ≤ xs.length := by
    refine SM.snoc_rec (p := fun xs => ∀ s ∈ lsubs y xs, s.length ≤ xs.length) (fun s hs => ?_) (fun xs x ih s hs => ?_) xs
    · rw [List.mem_singleton.mp hs]
      exact Nat.le_refl _
    · rw [SM.lsubs_snoc] at hs
      rw [List.length_append]
      show _ ≤ _ + 1
      have m : ∀ {s : List Str}, s ∈ (lsubs y xs).map (· ++ [x]) → s.length ≤ xs.length + 1 := fun h => by
        obtain ⟨u, hu, rfl⟩ := List.mem_map.mp h
        have := ih u hu
        rw [List.length_append]
        show _ + 1 ≤ _
        omega
      split at hs
      · exact m hs
      · rcases List.mem_append.mp hs with h | h
        · have := ih s h
          omega
        · exact m h
  intro s hs
  have := this s hs
  omega
theorem ok_ls (F : Dn K d_l_sets f fd) : FnOk P w K mg base CX0 1 f fd ["_law_order", "_law_name"] spLs := by
  refine F.ok sc_l_sets (fun vs H Q E h => ?_) (fun cdv A outer s H vs Q E hr h => ?_)
  · obtain ⟨ot, xs, y, rfl, _⟩ := h
    rfl
  · obtain ⟨ot, xs, y, rfl, hot, l8, hQ⟩ := h
    refine ⟨_, PSs.nox (pss_cons (ps_set (i := 2) sc_l_sets.nd rfl (.inl rfl) (pe_lst (pa_cons (pe_lst pa_nil) pa_nil)))
      (pss_cons (ps_for PassesOwn.never rfl (pi_tup (pv 0)) (pg_name (i := 3) sc_l_sets.nd rfl (.inr rfl))
        (pss_one (ps_if (pt_cmpR op_eq (pv 3) (pv 1) (nomark _))
          (pss_one (ps_setLc (i := 2) (own := [("_law_some", 4)]) (g := gName 4) (tt := tYes) (te := tOp rCat (tVar 4) (tLst (tCons (tVar 3) tNil))) rfl sc_l_sets.nd rfl rfl (sw_true rfl rfl rfl (by decide +kernel)) (pi_list (pv 2)) (blkOk_by (N := N_l_sets) (sc := defScope s_l_sets) (by decide +kernel))
            (fun _ _ _ _ _ => pg_name (i := 4) sc_l_sets.nd rfl (Or.inl rfl)) (fun _ _ _ _ _ => pts_nil) (fun _ _ _ _ _ => pe_op op_cat (pv 4) (pe_lst (pa_cons (pv 3) pa_nil)))))
          (pss_one (ps_set (i := 2) sc_l_sets.nd rfl (.inl rfl) (pe_op op_cat (pv 2) (pe_lc (own := [("_law_some", 4)]) (g := gName 4) (tt := tYes) (te := tOp rCat (tVar 4) (tLst (tCons (tVar 3) tNil))) rfl sc_l_sets.nd (pi_list (pv 2)) (blkOk_by (N := N_l_sets) (sc := defScope s_l_sets) (by decide +kernel))
            (fun _ _ _ _ _ => pg_name (i := 4) sc_l_sets.nd rfl (Or.inl rfl)) (fun _ _ _ _ _ => pts_nil) (fun _ _ _ _ _ => pe_op op_cat (pv 4) (pe_lst (pa_cons (pv 3) pa_nil))))))))))
      (pss_one (ps_ret (pv 2))))), ?_⟩
    refine ⟨by show 0 ≤ sizeLine; decide, fun e0 fe0 => ?_⟩
    refine ⟨by show 1 ≤ sizeLine; decide, fun l0 fl0 => ?_⟩
    have s0 := same_new (o := .lst []) fe0
    have s1 := same_new (o := .lst [.ref e0]) fl0
    have fl0' : H l0 = none := s0.free fl0
    refine ⟨_, rfl, ot, rfl, ⟨_, SqT.of (s1 _ _ (s0 _ _ hot))⟩, for_tup (K := K) (xs := xs.map V.str) (fun i σ H' => ∃ (a : Addr) (qs : List (Addr × List Str)) (v : Option V), σ = [some (.ref ot), some (.str y), some (.ref a), v, none] ∧ LL H' a qs ∧ qs.map (·.2) = lsubs y (xs.take i) ∧ Same H H' ∧ H a = none)
      ⟨l0, [(e0, [])], none, rfl, ⟨upd_same, fun p hp => by
        rw [List.mem_singleton] at hp
        subst hp
        exact s1 _ _ upd_same⟩, rfl, s0.trans s1, fl0'⟩ (fun i σ H' _ z => by obtain ⟨_, _, _, _, _, _, sm, _⟩ := z; exact SqT.of (sm _ _ hot)) ?_ ?_⟩
    · rintro i v σ H2 hi ⟨a, qs, v2, rfl, hs, hqs, sm, fa⟩
      rw [List.getElem?_map] at hi
      obtain ⟨z, hz, rfl⟩ := Option.map_eq_some_iff.mp hi
      have hil : i < xs.length := (List.getElem?_eq_some_iff.mp hz).1
      have l8' : (xs.take i).length ≤ 8 := by rw [List.length_take]; omega
      have ql : qs.length ≤ 256 := by
        have := congrArg List.length hqs
        rw [List.length_map] at this
        rw [this]
        exact Nat.le_trans (SM.lsubs_le _ _) (pow8 l8')
      have q8 : ∀ p ∈ qs, p.2.length ≤ 8 := fun p hp => ls_len y l8' p.2 (by rw [← hqs]; exact List.mem_map.mpr ⟨p, hp, rfl⟩)
      have hσ : ∀ v, (wipe ([some (.ref ot), some (.str y), some (.ref a), some (.str z), none] : L2.St) [4])[3]? = some (some (.str z)) ∧ ((wipe ([some (.ref ot), some (.str y), some (.ref a), some (.str z), none] : L2.St) [4]).set 4 (some v))[3]? = some (some (.str z)) ∧ ((wipe ([some (.ref ot), some (.str y), some (.ref a), some (.str z), none] : L2.St) [4]).set 4 (some v))[4]? = some (some v) ∧ wipe ((wipe ([some (.ref ot), some (.str y), some (.ref a), some (.str z), none] : L2.St) [4]).set 4 (some v)) [4] = wipe ([some (.ref ot), some (.str y), some (.ref a), some (.str z), none] : L2.St) [4] := fun v => ⟨rfl, rfl, rfl, rfl⟩
      refine ⟨_, rfl, _, rfl, rfl, _, rfl, ite2 (fun hzy => ?_) (fun hzy => ?_)⟩
      · have ezy : z = y := V.str.inj (of_decide_eq_true hzy)
        refine ⟨_, rfl, a, rfl, ⟨_, SqL.of hs.1⟩, fun D hD => lc_ext hσ hs ql q8 hD fun H3 rs hr er s3 => ?_⟩
        refine ⟨D, rs, _, rfl, hr, ?_, sm.trans s3, sm.free hD⟩
        rw [take_one hz, SM.lsubs_snoc, if_pos ezy, er, hqs]
      · have ezy : ¬ z = y := fun e => hzy (decide_eq_true (by rw [e]))
        refine ⟨_, rfl, _, rfl, a, rfl, ⟨_, SqL.of hs.1⟩, fun D hD => lc_ext hσ hs ql q8 hD fun H3 rs hr er s3 => ?_⟩
        have hs3 := hs.same s3
        have rl : rs.length ≤ 256 := by
          have := congrArg List.length er
          rw [List.length_map, List.length_map, List.length_map] at this
          omega
        refine ⟨a, D, _, _, rfl, rfl, hs3.1, hr.1, by rw [List.length_map, List.length_map]; exact line_of (by omega), fun l fl => ?_⟩
        have sl := same_new (o := .lst ((qs.map fun p => V.ref p.1) ++ rs.map fun p => V.ref p.1)) fl
        refine ⟨l, qs ++ rs, _, rfl, ⟨?_, fun p hp => ?_⟩, ?_, (sm.trans s3).trans sl, (sm.trans s3).free fl⟩
        · rw [upd_same, List.map_append]
        · rcases List.mem_append.mp hp with h | h
          · exact sl _ _ (hs3.2 p h)
          · exact sl _ _ (hr.2 p h)
        · rw [take_one hz, SM.lsubs_snoc, if_neg ezy, List.map_append, er, hqs]
    · rintro σ H2 ⟨a, qs, v2, rfl, hs, hqs, sm, fa⟩
      rw [List.length_map, List.take_length] at hqs
      exact ⟨_, rfl, hQ a H2 qs sm fa hs hqs⟩
theorem sz_rtn {c : Int} {n : Nat} (h : c.natAbs < 2 ^ n) (hn : 10 ≤ n) : Sz n (rt c) := KM.sz_of_low (by decide) h (Nat.lt_of_lt_of_le (by decide : (840 : Int).natAbs < 2 ^ 10) (Nat.pow_le_pow_right (by decide) hn))
theorem pr_raw (c a : Int) {n : Nat} (h1 : 1 ≤ n) (h8 : n ≤ 8) : KM.low ((pr (rt c)).1 * (n : Int) + a * (pr (rt c)).2) ((pr (rt c)).2 * (n : Int)) = pr (rt (c + a * un n)) := by
  have d0 : (pr (rt c)).2 ≠ 0 := KM.den_ne (rt c)
  have n0 : ((n : Nat) : Int) ≠ 0 := by omega
  rw [KM.low_eq (show (pr (rt c)).2 * (n : Int) ≠ 0 from Int.mul_ne_zero d0 n0)]
  congr 1
  rw [← rt_plus, ← div_rt a h1 h8]
  have e : Rat.divInt (pr (rt c)).1 (pr (rt c)).2 = rt c := Rat.num_divInt_den (rt c)
  have k := Rat.divInt_add_divInt (pr (rt c)).1 a d0 n0
  rw [e] at k
  exact k.symm
theorem pr01 : pr (rt 0) = (0, 1) := by
  rw [rt_zero]
  rfl
def spLb : Sp := fun vs H Q _ => ∃ (ot : Addr) (xs : List Str) (y : Str), vs = [.ref ot, .str y] ∧ H ot = some (.tup (xs.map V.str)) ∧ xs.length ≤ 8 ∧ xs.Nodup ∧ y ∈ xs ∧
  ∀ (t p q : Addr) (H' : Hp), Same H H' → H t = none → H' t = some (.tup [.ref p, .ref q]) → H' p = some (tupP (pr (rt (UP y xs)))) → H' q = some (tupP (pr (rt (DN y xs)))) → Q (.ref t) H'
theorem ok_lb (F : Dn K d_l_round_bound f fd) (b : Bl mg) (cS : Cal P w K mg base 1 "_law_sets" spLs []) (cA : Cal P w K mg base 2 "_law_add" spAdd []) : FnOk P w K mg base CX0 3 f fd ["_law_order", "_law_name"] spLb := by
  refine F.ok sc_l_round_bound (fun vs H Q E h => ?_) (fun cdv A outer s H vs Q E hr h => ?_)
  · obtain ⟨ot, xs, y, rfl, _⟩ := h
    rfl
  · obtain ⟨ot, xs, y, rfl, hot, l8, nd, hy, hQ⟩ := h
    refine ⟨_, PSs.nox (pss_cons (ps_asg (pe_tup (pa_cons (pe_tup (pa_cons pe_int (pa_cons pe_int pa_nil))) (pa_cons (pe_tup (pa_cons pe_int (pa_cons pe_int pa_nil))) pa_nil))) (pg_tup rfl (pgs_cons (pg_name (i := 2) sc_l_round_bound.nd rfl (.inl rfl)) (pgs_cons (pg_name (i := 3) sc_l_round_bound.nd rfl (.inl rfl)) pgs_nil))))
      (pss_cons (ps_for PassesOwn.never rfl (pi_list (pe_c cS hr (by decide) rfl (pa_cons (pv 0) (pa_cons (pv 1) pa_nil)))) (pg_name (i := 4) sc_l_round_bound.nd rfl (.inl rfl))
        (pss_cons (ps_set (i := 5) sc_l_round_bound.nd rfl (.inl rfl) (pe_bm PySem.F.plainAttrs_list PySem.F.slot_list_index PySem.F.type_list_index mt_index (pv 4) (pa_cons (pv 1) pa_nil)))
        (pss_cons (ps_set (i := 2) sc_l_round_bound.nd rfl (.inl rfl) (pe_c cA hr (by decide) rfl (pa_cons (pv 2) (pa_cons (pe_tup (pa_cons (pe_op op_sub (pe_op op_sub (pe_callB call_len_seq rfl b.len boot_len (pa_cons (pv 4) pa_nil)) pe_int) (pv 5)) (pa_cons (pe_callB call_len_seq rfl b.len boot_len (pa_cons (pv 4) pa_nil)) pa_nil))) pa_nil))))
        (pss_one (ps_set (i := 3) sc_l_round_bound.nd rfl (.inl rfl) (pe_c cA hr (by decide) rfl (pa_cons (pv 3) (pa_cons (pe_tup (pa_cons (pv 5) (pa_cons (pe_callB call_len_seq rfl b.len boot_len (pa_cons (pv 4) pa_nil)) pa_nil))) pa_nil))))))))
      (pss_one (ps_ret (pe_tup (pa_cons (pv 2) (pa_cons (pv 3) pa_nil))))))), ?_⟩
    refine ⟨by show 2 ≤ sizeLine; decide, fun p0 fp0 => ⟨by show 2 ≤ sizeLine; decide, fun q0 fq0 => ⟨by show 2 ≤ sizeLine; decide, fun T0 fT0 => ?_⟩⟩⟩
    have sp := same_new (o := .tup [.int 0, .int 1]) fp0
    have sq := same_new (o := .tup [.int 0, .int 1]) fq0
    have sT := same_new (o := .tup [.ref p0, .ref q0]) fT0
    refine ⟨T0, _, rfl, SqT.of upd_same, rfl, _, _, rfl, _, _, rfl, rfl, ?_⟩
    have hp0 := sT _ _ (sq _ _ (upd_same : (upd H p0 (.tup [.int 0, .int 1])) p0 = _))
    have hq0 := sT _ _ (upd_same : (upd (upd H p0 (.tup [.int 0, .int 1])) q0 (.tup [.int 0, .int 1])) q0 = _)
    have s0 := (sp.trans sq).trans sT
    generalize upd (upd (upd H p0 (.tup [.int 0, .int 1])) q0 (.tup [.int 0, .int 1])) T0 (.tup [.ref p0, .ref q0]) = H1 at s0 hp0 hq0
    refine ⟨_, rfl, _, rfl, ot, xs, y, rfl, s0 _ _ hot, l8, fun a H2 qs s2 fa hs hqs => ?_⟩
    have ql : qs.length ≤ 256 := by
      have := congrArg List.length hqs
      rw [List.length_map] at this
      rw [this]
      exact Nat.le_trans (SM.lsubs_le _ _) (pow8 l8)
    have each : ∀ p ∈ qs, p.2.length ≤ 8 ∧ y ∈ p.2 := fun p hp => by
      have : p.2 ∈ lsubs y xs := by
        rw [← hqs]
        exact List.mem_map.mpr ⟨p, hp, rfl⟩
      refine ⟨ls_len y l8 _ this, ?_⟩
      rw [(SM.lsubs_eq nd).2 hy] at this
      exact of_decide_eq_true (List.mem_filter.mp this).2
    have small : ∀ i, (sm (upI y) ((qs.take i).map (·.2))).natAbs ≤ 840 * 256 ∧ (sm (dnI y) ((qs.take i).map (·.2))).natAbs ≤ 840 * 256 := fun i => by
      have e : ∀ s ∈ (qs.take i).map (·.2), (upI y s).natAbs ≤ 840 ∧ (dnI y s).natAbs ≤ 840 := fun s hs => by
        obtain ⟨p, hp, rfl⟩ := List.mem_map.mp hs
        obtain ⟨a, b⟩ := each p (List.mem_of_mem_take hp)
        exact SM.ud_small b a
      have l : ((qs.take i).map (·.2)).length ≤ 256 := by rw [List.length_map, List.length_take]; omega
      have a := SM.sm_abs fun s hs => (e s hs).1
      have b := SM.sm_abs fun s hs => (e s hs).2
      exact ⟨Nat.le_trans a (Nat.mul_le_mul_left _ l), Nat.le_trans b (Nat.mul_le_mul_left _ l)⟩
    refine ⟨a, rfl, ⟨_, SqL.of hs.1⟩, for_list (K := K) (xs := qs.map fun p => V.ref p.1) (fun i σ H' => ∃ (p q : Addr) (v4 v5 : Option V), σ = [some (.ref ot), some (.str y), some (.ref p), some (.ref q), v4, v5] ∧ Same H2 H' ∧ H' p = some (tupP (pr (rt (sm (upI y) ((qs.take i).map (·.2)))))) ∧ H' q = some (tupP (pr (rt (sm (dnI y) ((qs.take i).map (·.2)))))))
      ⟨p0, q0, none, none, rfl, Same.refl _, by show _ = some (tupP (pr (rt 0))); rw [pr01]; exact s2 _ _ hp0, by show _ = some (tupP (pr (rt 0))); rw [pr01]; exact s2 _ _ hq0⟩ (fun i σ H' _ z => by obtain ⟨_, _, _, _, _, k, _⟩ := z; exact SqL.of (k _ _ hs.1)) ?_ ?_⟩
    · rintro i v σ H4 hi ⟨p, q, v4, v5, rfl, k4, hp1, hq1⟩
      rw [List.getElem?_map] at hi
      obtain ⟨r, hr1, rfl⟩ := Option.map_eq_some_iff.mp hi
      have hrm := List.mem_of_getElem? hr1
      obtain ⟨r8, ry⟩ := each r hrm
      have rpos : 1 ≤ r.2.length := List.length_pos_iff.mpr fun z => by rw [z] at ry; cases ry
      have hrl := k4 _ _ (hs.2 r hrm)
      obtain ⟨u1, u2⟩ := small i
      have ix := List.idxOf_lt_length_of_mem ry
      have eix : (r.2.map V.str)[r.2.idxOf y]? = some (.str y) := by
        rw [List.getElem?_map, List.getElem?_eq_getElem ix, List.getElem_idxOf]
        rfl
      refine ⟨_, rfl, .inl ⟨rfl, _, SqL.of hrl⟩, _, rfl, r.1, _, .str y, r.2.idxOf y, .str y, rfl, rfl, SqL.of hrl, rfl, flat_strs r.2, eix, by simp [eqV], fun m z' hm e => ?_, ?_⟩
      · rw [List.getElem?_map] at e
        obtain ⟨x, hx, rfl⟩ := Option.map_eq_some_iff.mp e
        have ne : ¬ x = y := fun z => by
          have hml : m < r.2.length := by omega
          rw [List.getElem?_eq_getElem hml] at hx
          have := List.not_of_lt_findIdx (p := (· == y)) (xs := r.2) (i := m) hm
          rw [show r.2[m] = x from Option.some.inj hx] at this
          exact (by simpa using this : ¬ x = y) z
        simp [eqV, ne]
      refine ⟨_, rfl, _, rfl, r.1, _, rfl, .inl (SqL.of hrl), _, _, rfl, rfl, _, rfl, _, _, rfl, rfl, _, rfl, r.1, _, rfl, .inl (SqL.of hrl), by show 2 ≤ sizeLine; decide, fun T fT => ?_⟩
      rw [List.length_map]
      have sT := same_new (o := .tup [.int (((r.2.length : Nat) : Int) - 1 - ((r.2.idxOf y : Nat) : Int)), .int ((r.2.length : Nat) : Int)]) fT
      have szu := sz_rtn (n := 52) (c := sm (upI y) ((qs.take i).map (·.2))) (Nat.lt_of_le_of_lt u1 (by decide)) (by decide)
      have szd := sz_rtn (n := 52) (c := sm (dnI y) ((qs.take i).map (·.2))) (Nat.lt_of_le_of_lt u2 (by decide)) (by decide)
      have bl : ((r.2.length : Nat) : Int).natAbs < 2 ^ 52 := by rw [Int.natAbs_natCast]; exact Nat.lt_of_le_of_lt r8 (by decide)
      refine ⟨p, T, _, (((r.2.length : Nat) : Int) - 1 - ((r.2.idxOf y : Nat) : Int), ((r.2.length : Nat) : Int)), 52, rfl, sT _ _ hp1, upd_same, ⟨bd_of szu, ⟨?_, by show (0 : Int) < (r.2.length : Nat); omega, bl⟩, by decide, by decide⟩, fun t ft => ?_⟩
      · show Int.natAbs _ < 2 ^ 52
        refine Nat.lt_of_le_of_lt (m := 8) ?_ (by decide)
        omega
      rw [pr_raw _ _ rpos r8]
      have st := same_new (o := tupP (pr (rt (sm (upI y) ((qs.take i).map (·.2)) + (((r.2.length : Nat) : Int) - 1 - ((r.2.idxOf y : Nat) : Int)) * un r.2.length)))) ft
      have s5 := sT.trans st
      have hp5 : (upd (upd H4 T (.tup [.int (((r.2.length : Nat) : Int) - 1 - ((r.2.idxOf y : Nat) : Int)), .int ((r.2.length : Nat) : Int)])) t (tupP (pr (rt (sm (upI y) ((qs.take i).map (·.2)) + (((r.2.length : Nat) : Int) - 1 - ((r.2.idxOf y : Nat) : Int)) * un r.2.length))))) t = some (tupP (pr (rt (sm (upI y) ((qs.take i).map (·.2)) + (((r.2.length : Nat) : Int) - 1 - ((r.2.idxOf y : Nat) : Int)) * un r.2.length)))) := upd_same
      generalize upd (upd H4 T (.tup [.int (((r.2.length : Nat) : Int) - 1 - ((r.2.idxOf y : Nat) : Int)), .int ((r.2.length : Nat) : Int)])) t (tupP (pr (rt (sm (upI y) ((qs.take i).map (·.2)) + (((r.2.length : Nat) : Int) - 1 - ((r.2.idxOf y : Nat) : Int)) * un r.2.length)))) = H5 at s5 hp5
      have hrl5 := s5 _ _ hrl
      refine ⟨_, rfl, _, rfl, _, rfl, r.1, _, rfl, .inl (SqL.of hrl5), by show 2 ≤ sizeLine; decide, fun T2 fT2 => ?_⟩
      rw [List.length_map]
      have sT2 := same_new (o := .tup [.int ((r.2.idxOf y : Nat) : Int), .int ((r.2.length : Nat) : Int)]) fT2
      refine ⟨q, T2, _, (((r.2.idxOf y : Nat) : Int), ((r.2.length : Nat) : Int)), 52, rfl, sT2 _ _ (s5 _ _ hq1), upd_same, ⟨bd_of szd, ⟨?_, by show (0 : Int) < (r.2.length : Nat); omega, bl⟩, by decide, by decide⟩, fun t2 ft2 => ?_⟩
      · show Int.natAbs _ < 2 ^ 52
        refine Nat.lt_of_le_of_lt (m := 8) ?_ (by decide)
        omega
      rw [pr_raw _ _ rpos r8]
      have st2 := same_new (o := tupP (pr (rt (sm (dnI y) ((qs.take i).map (·.2)) + ((r.2.idxOf y : Nat) : Int) * un r.2.length)))) ft2
      have one : ∀ g : List Str → Int, sm g ((qs.take (i + 1)).map (·.2)) = sm g ((qs.take i).map (·.2)) + g r.2 := fun g => by
        rw [take_one hr1, List.map_append, SM.sm_app]
        show _ + sm g [r.2] = _
        rw [SM.sm_cons]
        show _ + (_ + 0) = _
        omega
      refine ⟨t, t2, _, _, rfl, ((k4.trans s5).trans sT2).trans st2, ?_, ?_⟩
      · rw [one]
        exact st2 _ _ (sT2 _ _ hp5)
      · rw [one]
        exact upd_same
    · rintro σ H4 ⟨p, q, v4, v5, rfl, k4, hp1, hq1⟩
      rw [List.length_map, List.take_length, hqs] at hp1 hq1
      obtain ⟨e1, e2⟩ := SM.sm_law nd hy
      rw [e1] at hp1
      rw [e2] at hq1
      refine ⟨_, rfl, _, rfl, by show 2 ≤ sizeLine; decide, fun t ft => ?_⟩
      have st := same_new (o := .tup [.ref p, .ref q]) ft
      have sall := (s0.trans s2).trans k4
      exact hQ t p q _ (sall.trans st) (sall.free ft) upd_same (st _ _ hp1) (st _ _ hq1)
end
end K38
set_option Elab.async false
set_option linter.all false
set_option maxRecDepth 100000
set_option maxHeartbeats 4000000
namespace K38
open PySem PySem.Spec PyProof.Rows L2
open C8 (Cal Mak Met pe_c pe_mk pe_mt pe_mt0)
open NTU
open SM (subs wsets)
theorem cut_take {l : List V} {n : Nat} : cutV l none (some (n : Int)) = l.take n := by
  have z : ¬ ((n : Int) < 0) := by omega
  unfold cutV HT.sIx
  by_cases h : n ≤ l.length
  · have z2 : ((n : Int) ≤ (l.length : Int)) := by omega
    simp [z, z2, Nat.min_eq_left h]
  · have h2 : l.length ≤ n := by omega
    simp [z, Nat.min_eq_right h2, List.take_of_length_le h2]
theorem day_w {xs s : List Str} {y : Str} (nd : xs.Nodup) (h : s ∈ wsets y xs) : DayOk xs s := by
  obtain ⟨a, b, c⟩ := SM.mem_w.mp h
  have sl := SM.sub_of _ _ a
  exact ⟨(fun z => by rw [z] at c; cases c), nd.sublist sl, fun y hy => sl.subset hy, sl.length_le⟩
theorem day_rrow {xs s : List Str} {y : Str} {ow : Bool} (nd : xs.Nodup) (h : s ∈ rrow y xs ow) : DayOk xs s := by
  unfold rrow at h
  obtain ⟨u, hu, hs⟩ := List.mem_flatMap.mp h
  rw [List.eq_of_mem_replicate hs]
  exact day_w nd hu
/-- days, none of which was there in H0 -/
def DO (H0 H : Hp) (xs : List Str) (ds : List (Addr × List Str)) : Prop := ∀ p ∈ ds, H p.1 = some (.lst (p.2.map V.str)) ∧ DayOk xs p.2 ∧ H0 p.1 = none
section
variable {P : Program} {w : World} {K : PySem.W.Frag} {mg : Str → Option Value} {base : Heap} {f C CT : Addr} {fd : FuncData}
theorem DO.kp {H0 H H' : Hp} {xs : List Str} {ds : List (Addr × List Str)} {h : Addr} {c : Nat} (d : DO H0 H xs ds) (x : Held H0 h c) (k : Kp h H H') : DO H0 H' xs ds := fun p hp => by
  obtain ⟨a, b, e⟩ := d p hp
  exact ⟨k.1 _ _ a (x.ne_new e), b, e⟩
def spDays : Sp := fun vs H Q _ => ∃ (h ot : Addr) (c : Nat) (xs : List Str), vs = [.ref h, .ref ot] ∧ Held H h (c + 5000) ∧ H ot = some (.tup (xs.map V.str)) ∧ Ord xs ∧
  ∀ (t : Addr) (ds : List (Addr × List Str)) (H' : Hp), Held H' h c → Kp h H H' → H t = none → H' t = some (.lst (ds.map fun p => V.ref p.1)) → DO H H' xs ds → ds.length ≤ 200 → Q (.ref t) H'
theorem ok_days (F : Dn K d_l_days f fd) (b : Bl mg) (cD : CalD P w K mg base) (cDy : Cal P w K mg base 2 "_law_day" spDay []) (cR : Cal P w K mg base 3 "round_row" spRR []) : FnOk P w K mg base CX0 4 f fd ["_law_held_here", "_law_order"] spDays := by
  refine F.ok sc_l_days (fun vs H Q E h => ?_) (fun cdv A outer s H vs Q E hr h => ?_)
  · obtain ⟨h, ot, c, xs, rfl, _⟩ := h
    rfl
  · obtain ⟨h, ot, c, xs, rfl, held, hot, ox, hQ⟩ := h
    have l8 := ox.l8
    have xpos : 0 < xs.length := List.length_pos_iff.mpr ox.ne
    refine ⟨_, PSs.nox (pss_cons (ps_set (i := 2) sc_l_days.nd rfl (.inl rfl) (pe_op op_add pe_int (pe_c cD hr (by decide) rfl (pa_cons (pv 0) (pa_cons pe_int pa_nil)))))
      (pss_cons (ps_set (i := 3) sc_l_days.nd rfl (.inr rfl) (pe_c cD hr (by decide) rfl (pa_cons (pv 0) (pa_cons pe_int pa_nil))))
      (pss_cons (ps_set (i := 4) sc_l_days.nd rfl (.inr rfl) (pe_lc (own := [("_law_k", 7)]) (g := gName 7) (tt := tYes) rfl sc_l_days.nd (pi_range1 rfl b.range (pa_cons (pe_op op_add pe_int (pe_c cD hr (by decide) rfl (pa_cons (pv 0) (pa_cons pe_int pa_nil)))) pa_nil)) (blkOk_by (N := N_l_days) (sc := defScope s_l_days) (by decide +kernel))
          (fun _ _ _ _ _ => pg_name (i := 7) sc_l_days.nd rfl (Or.inl rfl)) (fun _ _ _ _ _ => pts_nil) (fun _ _ _ _ _ => (pe_c cDy hr (by decide) rfl (pa_cons (pv 0) (pa_cons (pv 1) pa_nil))))))
      (pss_cons (ps_setLc (i := 5) (own := [("_law_k", 7)]) (g := gName 7) (tt := tYes) rfl sc_l_days.nd rfl rfl (sw_true rfl rfl rfl (by decide +kernel)) (pi_range1 rfl b.range (pa_cons (pv 2) pa_nil)) (blkOk_by (N := N_l_days) (sc := defScope s_l_days) (by decide +kernel))
          (fun _ _ _ _ _ => pg_name (i := 7) sc_l_days.nd rfl (Or.inl rfl)) (fun _ _ _ _ _ => pts_nil) (fun _ _ _ _ _ => pe_ifExp (pt_cmpR op_eq (pv 3) pe_int (nomark _)) (pe_c cDy hr (by decide) rfl (pa_cons (pv 0) (pa_cons (pv 1) pa_nil))) (pe_ix (r := rIxL K) ix_list (pv 4) (pe_c cD hr (by decide) rfl (pa_cons (pv 0) (pa_cons (pe_callB (r := TI.rLen K) TI.call_lenK rfl b.len boot_len (pa_cons (pv 4) pa_nil)) pa_nil))) (fun _ _ => rfl))))
      (pss_cons (ps_if (PW.pt (pw_and (pt_cmpR op_eq (pv 3) pe_int (nomark _)) (pw_and1 (pt_cmpR op_lt (pe_callB call_len_seq rfl b.len boot_len (pa_cons (pv 1) pa_nil)) pe_int (nomark _)))))
        (pss_cons (ps_set (i := 6) sc_l_days.nd rfl (.inl rfl) (pe_c cR hr (by decide) rfl (pa_cons (pv 1) (pa_cons (pe_ix ix_tup (pv 1) (pe_c cD hr (by decide) rfl (pa_cons (pv 0) (pa_cons (pe_callB call_len_seq rfl b.len boot_len (pa_cons (pv 1) pa_nil)) pa_nil))) (fun _ _ => rfl)) (pa_cons (pe_cmpR op_eq (pe_c cD hr (by decide) rfl (pa_cons (pv 0) (pa_cons pe_int pa_nil))) pe_int (nomark _)) pa_nil)))))
        (pss_one (ps_set (i := 5) sc_l_days.nd rfl (.inl rfl) (pe_op op_cat (pe_slice sl_list (pv 6) po_none (po_some pe_int)) (pe_slice sl_list (pv 5) po_none (po_some pe_int)))))) pss_nil)
      (pss_one (ps_ret (pv 5)))))))), ?_⟩
    refine ⟨_, rfl, h, c + 4999, 51, rfl, held, by decide, by decide, fun m0 H1 m00 m01 held1 k1 => ⟨_, _, rfl, rfl, ?_⟩⟩
    obtain ⟨m, rfl⟩ : ∃ k : Nat, m0 = k := ⟨m0.toNat, by omega⟩
    refine ⟨_, rfl, h, c + 4998, 4, rfl, held1, by decide, by decide, fun wy H2 w0 w1 held2 k2 => ?_⟩
    refine ⟨_, rfl, h, c + 4997, 3, rfl, held2, by decide, by decide, fun n0 H3 n00 n01 held3 k3 => ⟨_, _, rfl, rfl, ?_⟩⟩
    obtain ⟨n, rfl⟩ : ∃ k : Nat, n0 = k := ⟨n0.toNat, by omega⟩
    refine ⟨_, rfl, by omega, by omega, ?_⟩
    have en : (1 + (n : Int)).toNat = 1 + n := by omega
    rw [en]
    have k03 := (k1.trans k2).trans k3
    intro D hD
    have sD := same_new (o := .lst []) hD
    have fD0 : H D = none := k03.free held3 hD
    refine lc_range (n := 1 + n) (fun j H' => ∃ ds : List (Addr × List Str), ds.length = j ∧ H' D = some (.lst (ds.map fun p => V.ref p.1)) ∧ DO H H' xs ds ∧ (∀ p ∈ ds, p.1 ≠ D) ∧ Held H' h (c + 4997 - 20 * j) ∧ Kp h H H' ∧ Cel h D H') ?_ ?_ ?_
    · exact ⟨[], rfl, upd_same, (fun p hp => nomatch hp), (fun p hp => nomatch hp), held3.same sD, k03.trans (Kp.same sD), (Cel.of held3 hD).kp (Kp.same sD)⟩
    · rintro j Ha hj ⟨ds, dl, hDa, hds, hnd, helda, ka, offa⟩
      refine ⟨rfl, ?_⟩
      refine ⟨_, rfl, _, rfl, h, ot, c + 4997 - 20 * (j + 1), xs, rfl, helda.weak (by omega), ka.tupS (K := K) held hot, ox.ne, ox.nd, by omega, fun o Ro Hb heldb kb fo hRo dyo => ?_⟩
      have hDb := kb.1 _ _ hDa offa.ne
      have offb := offa.kp kb
      have noD : o ≠ D := (ne_of_none hDa fo).symm
      have dsb := hds.kp held kb
      refine ⟨_, hDb, by rw [List.length_map]; exact line_lt (by omega), ds ++ [(o, Ro)], by simp [dl], ?_, ?_, ?_, heldb.put offb, (ka.trans kb).new fD0, offb.put offb.ne.symm⟩
      · rw [upd_same, List.map_append]
        rfl
      · intro p hp
        rcases List.mem_append.mp hp with hp | hp
        · obtain ⟨a1, a2, a3⟩ := dsb p hp
          exact ⟨by rw [upd_ne (hnd p hp)]; exact a1, a2, a3⟩
        · rw [List.mem_singleton] at hp
          subst hp
          exact ⟨by rw [upd_ne noD]; exact hRo, dyo, ka.free helda fo⟩
      · intro p hp
        rcases List.mem_append.mp hp with hp | hp
        · exact hnd p hp
        · rw [List.mem_singleton] at hp
          subst hp
          exact noD
    rintro H4 ⟨so, sl, hso, hsd, _, held4, k4, of4⟩
    have spos : 0 < so.length := by omega
    -- the days
    refine ⟨_, rfl, _, rfl, by omega, by omega, ?_⟩
    have em : (10 + (m : Int)).toNat = 10 + m := by omega
    rw [em]
    intro D2 hD2
    have sD2 := same_new (o := .lst []) hD2
    have fD2 : H D2 = none := k4.free held4 hD2
    have nDh := of4.ne
    refine lc_range (n := 10 + m) (fun j H' => ∃ ds : List (Addr × List Str), ds.length = j ∧ H' D2 = some (.lst (ds.map fun p => V.ref p.1)) ∧ H' D = some (.lst (so.map fun p => V.ref p.1)) ∧ DO H H' xs so ∧ DO H H' xs ds ∧ (∀ p ∈ so, p.1 ≠ D2) ∧ (∀ p ∈ ds, p.1 ≠ D2) ∧ Held H' h (c + 4937 - 20 * j) ∧ Kp h H H' ∧ Cel h D2 H') ?_ ?_ ?_
    · exact ⟨[], rfl, upd_same, sD2 _ _ hso, hsd.kp held (Kp.same sD2), (fun p hp => nomatch hp), fun p hp => ne_of_none (hsd p hp).1 hD2, (fun p hp => nomatch hp), (held4.weak (by omega)).same sD2, k4.trans (Kp.same sD2), (Cel.of held4 hD2).kp (Kp.same sD2)⟩
    · rintro j Ha hj ⟨ds, dl, hDa, hsoa, hsda, hds, nso, hnd, helda, ka, offa⟩
      refine ⟨rfl, ?_⟩
      have nD2 : D ≠ D2 := ne_of_none hso hD2
      -- one more day
      have fin : ∀ (o : Addr) (Ro : List Str) (Hb : Hp), Held Hb h (c + 4937 - 20 * (j + 1)) → Kp h Ha Hb → H o = none → o ≠ D2 → Hb o = some (.lst (Ro.map V.str)) → DayOk xs Ro → ∃ acc, Hb D2 = some (.lst acc) ∧ acc.length < sizeLine ∧ ∃ ds : List (Addr × List Str), ds.length = j + 1 ∧ (upd Hb D2 (.lst (acc ++ [.ref o]))) D2 = some (.lst (ds.map fun p => V.ref p.1)) ∧ (upd Hb D2 (.lst (acc ++ [.ref o]))) D = some (.lst (so.map fun p => V.ref p.1)) ∧ DO H (upd Hb D2 (.lst (acc ++ [.ref o]))) xs so ∧ DO H (upd Hb D2 (.lst (acc ++ [.ref o]))) xs ds ∧ (∀ p ∈ so, p.1 ≠ D2) ∧ (∀ p ∈ ds, p.1 ≠ D2) ∧ Held (upd Hb D2 (.lst (acc ++ [.ref o]))) h (c + 4937 - 20 * (j + 1)) ∧ Kp h H (upd Hb D2 (.lst (acc ++ [.ref o]))) ∧ Cel h D2 (upd Hb D2 (.lst (acc ++ [.ref o]))) := fun o Ro Hb heldb kb fo noD hRo dyo => by
        have hDb := kb.1 _ _ hDa offa.ne
        have offb := offa.kp kb
        have dsb := hds.kp held kb
        have sob := hsda.kp held kb
        refine ⟨_, hDb, by rw [List.length_map]; exact line_lt (by omega), ds ++ [(o, Ro)], by simp [dl], ?_, ?_, ?_, ?_, nso, ?_, heldb.put offb, (ka.trans kb).new fD2, offb.put offb.ne.symm⟩
        · rw [upd_same, List.map_append]
          rfl
        · rw [upd_ne nD2]
          exact kb.1 _ _ hsoa nDh
        · intro p hp
          obtain ⟨a1, a2, a3⟩ := sob p hp
          exact ⟨by rw [upd_ne (nso p hp)]; exact a1, a2, a3⟩
        · intro p hp
          rcases List.mem_append.mp hp with hp | hp
          · obtain ⟨a1, a2, a3⟩ := dsb p hp
            exact ⟨by rw [upd_ne (hnd p hp)]; exact a1, a2, a3⟩
          · rw [List.mem_singleton] at hp
            subst hp
            exact ⟨by rw [upd_ne noD]; exact hRo, dyo, fo⟩
        · intro p hp
          rcases List.mem_append.mp hp with hp | hp
          · exact hnd p hp
          · rw [List.mem_singleton] at hp
            subst hp
            exact noD
      refine ⟨_, rfl, rfl, _, rfl, ite2 (fun _ => ?_) (fun _ => ?_)⟩
      · refine ⟨_, rfl, _, rfl, h, ot, c + 4937 - 20 * (j + 1), xs, rfl, helda.weak (by omega), ka.tupS (K := K) held hot, ox.ne, ox.nd, by omega, fun o Ro Hb heldb kb fo hRo dyo => ?_⟩
        exact fin o Ro Hb heldb kb (ka.free helda fo) (ne_of_none hDa fo).symm hRo dyo
      · refine ⟨_, rfl, _, rfl, _, rfl, D, _, rfl, .inl (SqL.of hsoa), h, c + 4937 - 20 * (j + 1), _, rfl, helda.weak (by omega), by rw [List.length_map]; omega, by rw [List.length_map]; omega, fun p2 Hd p20 p21 heldd kd => ?_⟩
        rw [List.length_map] at p21
        obtain ⟨k, rfl⟩ : ∃ k : Nat, p2 = k := ⟨p2.toNat, by omega⟩
        have kl : k < so.length := by omega
        have hk : (so.map fun p => V.ref p.1)[k]? = some (.ref (so[k]).1) := by rw [List.getElem?_map, List.getElem?_eq_getElem kl]; rfl
        obtain ⟨a1, a2, a3⟩ := (hsda.kp held kd) so[k] (List.getElem_mem kl)
        refine ⟨D, _, _, _, rfl, rfl, SqL.of (kd.1 _ _ hsoa nDh), atI_nat hk, ?_⟩
        exact fin _ _ Hd heldd kd a3 (nso _ (List.getElem_mem kl)) a1 a2
    rintro H5 ⟨ds, dl, hD5, hso5, hsd5, hds5, _, _, held5, k5, of5⟩
    have hot5 : H5 ot = some (.tup (xs.map V.str)) := k5.tupS (K := K) held hot
    refine ⟨_, rfl, rfl, _, rfl, ite2 (fun _ => ?_) (fun _ => ?_)⟩
    · refine ⟨_, rfl, ot, _, rfl, .inr (SqT.of hot5), _, _, rfl, rfl, _, rfl, ite2 (fun h7 => ?_) (fun _ => ?_)⟩
      · have x6 : xs.length ≤ 6 := by
          have := of_decide_eq_true h7
          rw [List.length_map] at this
          omega
        refine ⟨_, rfl, _, rfl, _, rfl, _, rfl, ot, _, rfl, .inr (SqT.of hot5), h, c + 100, _, rfl, held5.weak (by omega), by rw [List.length_map]; omega, by rw [List.length_map]; omega, fun r0 H6 r00 r01 held6 k6 => ?_⟩
        rw [List.length_map] at r01
        obtain ⟨r, rfl⟩ : ∃ k : Nat, r0 = k := ⟨r0.toNat, by omega⟩
        have rl : r < xs.length := by omega
        have hr1 : (xs.map V.str)[r]? = some (.str xs[r]) := by rw [List.getElem?_map, List.getElem?_eq_getElem rl]; rfl
        have hot6 : H6 ot = some (.tup (xs.map V.str)) := k6.tupS (K := K) held5 hot5
        refine ⟨ot, _, _, _, rfl, rfl, SqT.of hot6, atI_nat hr1, ?_⟩
        refine ⟨_, rfl, h, c + 99, 2, rfl, held6, by decide, by decide, fun q0 H7 q00 q01 held7 k7 => ⟨rfl, ?_⟩⟩
        have hot7 : H7 ot = some (.tup (xs.map V.str)) := k7.tupS (K := K) held6 hot6
        refine ⟨ot, xs, xs[r], _, rfl, hot7, x6, List.getElem_mem rl, fun t H8 qs s8 ft hd8 ql8 eq8 => ?_⟩
        have k57 := k6.trans k7
        have k58 := k57.trans (Kp.same s8)
        have k08 := k5.trans k58
        have nD2h := of5.ne
        have hD8 := k58.1 _ _ hD5 nD2h
        have hds8 := hds5.kp held k58
        refine ⟨_, rfl, _, rfl, t, _, rfl, SqL.of hd8.1, fun p1 fp1 => ?_⟩
        have sp1 := same_new (o := .lst (cutV (qs.map fun p => V.ref p.1) none (some (150 : Int)))) fp1
        refine ⟨_, rfl, _, rfl, D2, _, rfl, SqL.of (sp1 _ _ hD8), fun p2 fp2 => ?_⟩
        have sp2 := same_new (o := .lst (cutV (ds.map fun p => V.ref p.1) none (some (20 : Int)))) fp2
        have e1 : cutV (qs.map fun p => V.ref p.1) none (some (150 : Int)) = (qs.take 150).map fun p => V.ref p.1 := by
          rw [List.map_take]
          exact cut_take (n := 150)
        have e2 : cutV (ds.map fun p => V.ref p.1) none (some (20 : Int)) = (ds.take 20).map fun p => V.ref p.1 := by
          rw [List.map_take]
          exact cut_take (n := 20)
        have g1 : (upd (upd H8 p1 (.lst (cutV (qs.map fun p => V.ref p.1) none (some (150 : Int))))) p2 (.lst (cutV (ds.map fun p => V.ref p.1) none (some (20 : Int))))) p1 = some (.lst ((qs.take 150).map fun p => V.ref p.1)) := by
          rw [← e1]
          exact sp2 _ _ upd_same
        have g2 : (upd (upd H8 p1 (.lst (cutV (qs.map fun p => V.ref p.1) none (some (150 : Int))))) p2 (.lst (cutV (ds.map fun p => V.ref p.1) none (some (20 : Int))))) p2 = some (.lst ((ds.take 20).map fun p => V.ref p.1)) := by
          rw [← e2]
          exact upd_same
        have s89 := sp1.trans sp2
        refine ⟨p1, p2, _, _, rfl, rfl, g1, g2, by rw [List.length_map, List.length_map, List.length_take, List.length_take]; exact line_of (by omega), fun u fu => ?_⟩
        have su := same_new (o := .lst (((qs.take 150).map fun p => V.ref p.1) ++ (ds.take 20).map fun p => V.ref p.1)) fu
        have k8u := Kp.same (h := h) (s89.trans su)
        have k0u := k08.trans k8u
        have heldu := ((held7.same s8).same s89).same su
        refine ⟨_, rfl, hQ u (qs.take 150 ++ ds.take 20) _ (heldu.weak (by omega)) k0u ((k08.trans (Kp.same s89)).free ((held7.same s8).same s89) fu) ?_ ?_ (by rw [List.length_append, List.length_take, List.length_take]; omega)⟩
        · rw [upd_same, List.map_append]
        · intro p hp
          rcases List.mem_append.mp hp with hp | hp
          · have hm := List.mem_of_mem_take hp
            obtain ⟨a1, a2, _⟩ := hd8.2 p hm
            refine ⟨su _ _ (s89 _ _ a1), day_rrow ox.nd (by rw [← eq8]; exact List.mem_map.mpr ⟨p, hm, rfl⟩), (k5.trans k57).free held7 a2⟩
          · obtain ⟨a1, a2, a3⟩ := hds8 p (List.mem_of_mem_take hp)
            exact ⟨su _ _ (s89 _ _ a1), a2, a3⟩
      · exact ⟨_, rfl, hQ D2 ds H5 (held5.weak (by omega)) k5 fD2 hD5 hds5 (by omega)⟩
    · exact ⟨_, rfl, hQ D2 ds H5 (held5.weak (by omega)) k5 fD2 hD5 hds5 (by omega)⟩
end
end K38
set_option Elab.async false
set_option linter.all false
set_option maxRecDepth 100000
set_option maxHeartbeats 4000000
namespace K38
open PySem PySem.Spec PyProof.Rows L2
open C8 (Cal Mak Met pe_c pe_mk pe_mt pe_mt0)
section
variable {P : Program} {w : World} {K : PySem.W.Frag} {mg : Str → Option Value} {base : Heap} {f C CT : Addr} {fd : FuncData}
def spIb : Sp := fun vs H Q _ => ∃ (pt bt o1 o2 : Addr) (q u v : Int × Int), vs = [.ref pt, .ref bt] ∧ H pt = some (tupP q) ∧ H bt = some (.tup [.ref o1, .ref o2]) ∧ H o1 = some (tupP u) ∧ H o2 = some (tupP v) ∧ -(2 ^ 64) < q.1 ∧ q.1 < 2 ^ 64 ∧ -(2 ^ 64) < q.2 ∧ q.2 < 2 ^ 64 ∧
  q.1 * u.2 ≤ u.1 * q.2 ∧ 0 - q.1 * v.2 ≤ v.1 * q.2 ∧ Q (.bl true) H
theorem ok_ib (F : Dn K d_l_in_bound f fd) : FnOk P w K mg base CX0 1 f fd ["_law_pair_here", "_law_bound"] spIb := by
  refine F.ok sc_l_in_bound (fun vs H Q E h => ?_) (fun cdv A outer s H vs Q E hr h => ?_)
  · obtain ⟨pt, bt, o1, o2, q, u, v, rfl, _⟩ := h
    rfl
  · obtain ⟨pt, bt, o1, o2, q, u, v, rfl, hpt, hbt, ho1, ho2, a1, a2, a3, a4, i1, i2, hQ⟩ := h
    unfold tupP at hpt ho1 ho2
    refine ⟨_, PSs.nox (pss_cons (ps_asg (pv 1) (pg_tup rfl (pgs_cons (pg_name (i := 2) sc_l_in_bound.nd rfl (.inl rfl)) (pgs_cons (pg_name (i := 3) sc_l_in_bound.nd rfl (.inl rfl)) pgs_nil))))
      (pss_one (ps_ret (pe_and (pe_cmpR op_le (pe_op op_mul (pe_ix ix_tup (pv 0) pe_int (fun _ _ => rfl)) (pe_ix ix_tup (pv 2) pe_int (fun _ _ => rfl))) (pe_op op_mul (pe_ix ix_tup (pv 2) pe_int (fun _ _ => rfl)) (pe_ix ix_tup (pv 0) pe_int (fun _ _ => rfl))) (nomark _))
        (pe_one (pe_cmpR op_le (pe_op op_sub pe_int (pe_op op_mul (pe_ix ix_tup (pv 0) pe_int (fun _ _ => rfl)) (pe_ix ix_tup (pv 3) pe_int (fun _ _ => rfl)))) (pe_op op_mul (pe_ix ix_tup (pv 3) pe_int (fun _ _ => rfl)) (pe_ix ix_tup (pv 0) pe_int (fun _ _ => rfl))) (nomark _))))))), ?_⟩
    refine ⟨_, rfl, bt, _, rfl, SqT.of hbt, rfl, _, _, rfl, _, _, rfl, rfl, ?_⟩
    refine ⟨_, rfl, pt, _, _, _, rfl, rfl, SqT.of hpt, rfl, _, rfl, o1, _, _, _, rfl, rfl, SqT.of ho1, rfl, _, _, rfl, rfl, cb_l a1 a2, _, rfl, o1, _, _, _, rfl, rfl, SqT.of ho1, rfl, _, rfl, pt, _, _, _, rfl, rfl, SqT.of hpt, rfl, _, _, rfl, rfl, cb_r a3 a4, _, _, rfl, rfl, true, ?_, iteT ?_⟩
    · show V.bl (decide (q.1 * u.2 ≤ u.1 * q.2)) = V.bl true
      rw [decide_eq_true i1]
    refine ⟨_, rfl, pt, _, _, _, rfl, rfl, SqT.of hpt, rfl, _, rfl, o2, _, _, _, rfl, rfl, SqT.of ho2, rfl, _, _, rfl, rfl, cb_l a1 a2, _, _, rfl, rfl, _, rfl, o2, _, _, _, rfl, rfl, SqT.of ho2, rfl, _, rfl, pt, _, _, _, rfl, rfl, SqT.of hpt, rfl, _, _, rfl, rfl, cb_r a3 a4, _, _, rfl, rfl, ?_⟩
    show Q (V.bl (decide (0 - q.1 * v.2 ≤ v.1 * q.2))) H
    rw [decide_eq_true i2]
    exact hQ
end
end K38
set_option Elab.async false
set_option linter.all false
set_option maxRecDepth 100000
set_option maxHeartbeats 4000000
/-! KB: what a call by keywords binds, for a def without keyword-only parameters. -/
namespace KW
open PySem PySem.Spec PyProof.Rows L2
section
variable {K : PySem.W.Frag} {x qual : Str} {params : Arguments} {body : List Stmt} {scope : Scope} {dvs : List V} {kws : List (Str × V)} {f : Addr} {fd : FuncData} {ps : List Str}
theorem kb1 (F : FunD K x qual params body scope dvs kws f fd) (n : Nat) (ks : List Str) (g : {α : Type} → List α → List α → List α → List α) (hd : dvs ≠ [])
    (hrel : ∀ {vs ds zs : List V} {us its ws : List Value}, Vals vs us → Vals ds its → Vals zs ws → Vals (g vs ds zs) (g us its ws))
    (h : ∀ (T : Addr) (kV doc pm : Value) (an : Option Addr) (cdv ct : Value) (us its ws : List Value), us.length = n → its.length = dvs.length → ws.length = ks.length →
      ∃ k, bindArgs (PySem.W.fnOf x qual params body scope (.ref T) kV doc pm an cdv ct) ⟨us, ks.zip ws⟩ = seqItems? (.ref T) >>= k ∧ k (some its.toArray) = pure (ps.zip (g us its ws))) :
    ∃ its : List Value, KBn K fd ps n ks (fun us ws => g us its ws) (fun vs zs => g vs dvs zs) := by
  obtain ⟨oc, od, dV, kV, doc, pm, an, cdv, ct, osl, rfl, lk, hcd, hD, hK⟩ := F.ex
  rcases hD with ⟨e, _⟩ | ⟨_, T, o, its, m, rfl, lT, oT, rT⟩
  · exact absurd e hd
  · refine ⟨its, ⟨fun s us ws X l1 l2 => ?_, fun r1 r2 => hrel r1 rT r2⟩⟩
    obtain ⟨k, e1, e2⟩ := h T kV doc pm an cdv ct us its ws l1 rT.length.symm l2
    refine BindsTo.of_looks fun M => ?_
    rw [e1]
    exact looks_items X lT oT (.of_pure e2)
theorem kb0 (F : FunD K x qual params body scope [] kws f fd) (n : Nat) (ks : List Str) (g : {α : Type} → List α → List α → List α)
    (hrel : ∀ {vs zs : List V} {us ws : List Value}, Vals vs us → Vals zs ws → Vals (g vs zs) (g us ws))
    (h : ∀ (kV doc pm : Value) (an : Option Addr) (cdv ct : Value) (us ws : List Value), us.length = n → ws.length = ks.length →
      bindArgs (PySem.W.fnOf x qual params body scope .none kV doc pm an cdv ct) ⟨us, ks.zip ws⟩ = pure (ps.zip (g us ws))) :
    KBn K fd ps n ks (fun us ws => g us ws) (fun vs zs => g vs zs) := by
  obtain ⟨oc, od, dV, kV, doc, pm, an, cdv, ct, osl, rfl, lk, hcd, hD, hK⟩ := F.ex
  rcases hD with ⟨_, rfl⟩ | ⟨e, _⟩
  · exact ⟨fun s us ws X l1 l2 => .of_eq (h kV doc pm an cdv ct us ws l1 l2), fun r1 r2 => hrel r1 r2⟩
  · exact absurd rfl e
end
end KW
set_option Elab.async false
set_option linter.all false
set_option maxRecDepth 100000
set_option maxHeartbeats 4000000
namespace K38
open PySem PySem.Spec PyProof.Rows L2
open KM (pr)
open SX (S)
open SM (UP DN Cr)
theorem paired_map {α : Type} {R : Addr → Key × V → Prop} {g : α → Addr} {k : α → Key × V} : ∀ {l : List α}, (∀ x ∈ l, R (g x) (k x)) → Paired R (l.map g) (l.map k)
  | [], _ => .nil
  | x :: l, h => .cons (h x List.mem_cons_self) (paired_map fun y hy => h y (List.mem_cons_of_mem _ hy))
/-! as many riders as of the order -/
theorem filt_or {p q : Str → Bool} : ∀ {xs : List Str}, (∀ x ∈ xs, p x = true → q x = false) → (xs.filter fun x => p x || q x).length = (xs.filter p).length + (xs.filter q).length
  | [], _ => rfl
  | x :: xs, h => by
    have ih := filt_or (p := p) (q := q) (xs := xs) fun y hy => h y (List.mem_cons_of_mem _ hy)
    have hx := h x List.mem_cons_self
    cases hp : p x with
    | true =>
      rw [List.filter_cons_of_pos (by simp [hp]), List.filter_cons_of_pos hp, List.filter_cons_of_neg (by simp [hx hp]), List.length_cons, List.length_cons, ih]
      omega
    | false =>
      cases hq : q x with
      | true =>
        rw [List.filter_cons_of_pos (by simp [hq]), List.filter_cons_of_neg (by simp [hp]), List.filter_cons_of_pos hq, List.length_cons, List.length_cons, ih]
        omega
      | false => rw [List.filter_cons_of_neg (by simp [hp, hq]), List.filter_cons_of_neg (by simp [hp]), List.filter_cons_of_neg (by simp [hq]), ih]
theorem filt_one {r : Str} : ∀ {xs : List Str}, xs.Nodup → r ∈ xs → (xs.filter fun x => decide (x = r)).length = 1
  | x :: xs, nd, h => by
    obtain ⟨n1, n2⟩ := List.nodup_cons.mp nd
    by_cases e : x = r
    · subst e
      rw [List.filter_cons_of_pos (by simp), List.filter_eq_nil_iff.mpr fun y hy => by
        have : y ≠ x := fun z => n1 (z ▸ hy)
        simp [this]]
      rfl
    · rw [List.filter_cons_of_neg (by simp [e])]
      rcases List.mem_cons.mp h with z | z
      · exact absurd z.symm e
      · exact filt_one n2 z
theorem filt_len {xs : List Str} (nd : xs.Nodup) : ∀ {R : List Str}, R.Nodup → (∀ y ∈ R, y ∈ xs) → (xs.filter fun x => decide (x ∈ R)).length = R.length
  | [], _, _ => by rw [List.filter_eq_nil_iff.mpr fun y hy => by simp]
  | r :: R, h, s => by
    obtain ⟨n1, n2⟩ := List.nodup_cons.mp h
    have e : (xs.filter fun x => decide (x ∈ r :: R)) = xs.filter fun x => decide (x = r) || decide (x ∈ R) := List.filter_congr fun x _ => by simp
    rw [e, filt_or fun x _ hx => by
      have := of_decide_eq_true hx
      subst this
      exact decide_eq_false n1, filt_one nd (s r List.mem_cons_self), filt_len nd n2 fun y hy => s y (List.mem_cons_of_mem _ hy), List.length_cons]
    omega
theorem fs_len {xs R : List Str} (nd : xs.Nodup) (dy : DayOk xs R) : (fs xs R).length = R.length := filt_len nd dy.nd dy.sub
theorem cr_next {xs R : List Str} {rode : List (List Str)} {c : Str → Int} {d : Str} (h : Cr xs rode c) (ox : Ord xs) (dy : DayOk xs R) (hd : Drv rode xs R d) : Cr xs (rode ++ [fs xs R]) (nxt R d c) := fun y hy => by
  have := h.step ox.nd ox.l8 (SM.of_filter (fun x => decide (x ∈ R)) xs) hd y hy
  rw [show rode ++ [fs xs R] = rode ++ [xs.filter fun x => decide (x ∈ R)] from rfl, ← this]
  unfold nxt SM.un
  rw [show (xs.filter fun x => decide (x ∈ R)).length = R.length from fs_len ox.nd dy]
  have e : (y ∈ xs.filter fun x => decide (x ∈ R)) ↔ y ∈ R := by
    rw [List.mem_filter]
    exact ⟨fun z => of_decide_eq_true z.2, fun z => ⟨hy, decide_eq_true z⟩⟩
  dsimp only
  by_cases hR : y ∈ R
  · rw [if_pos hR, if_pos (e.mpr hR)]
  · rw [if_neg hR, if_neg fun z => hR (e.mp z)]
/-- within the bounds, as the law asks it -/
theorem rt_num (c : Int) : (pr (rt c)).1 * 840 = c * (pr (rt c)).2 := by
  have e : rt c = Rat.divInt (pr (rt c)).1 (pr (rt c)).2 := (Rat.num_divInt_den (rt c)).symm
  have e2 : Rat.divInt c 840 = Rat.divInt (pr (rt c)).1 (pr (rt c)).2 := e
  have e3 := (Rat.divInt_eq_divInt_iff (by decide) (show (pr (rt c)).2 ≠ 0 from KM.den_ne (rt c))).mp e2
  exact e3.symm
theorem in_b {c u v : Int} (h1 : c ≤ u) (h2 : -v ≤ c) : (pr (rt c)).1 * (pr (rt u)).2 ≤ (pr (rt u)).1 * (pr (rt c)).2 ∧ 0 - (pr (rt c)).1 * (pr (rt v)).2 ≤ (pr (rt v)).1 * (pr (rt c)).2 := by
  have a := rt_num c
  have b := rt_num u
  have d := rt_num v
  have p1 := KM.pr_bot (rt c)
  have p2 := KM.pr_bot (rt u)
  have p3 := KM.pr_bot (rt v)
  generalize (pr (rt c)).1 = c1 at *
  generalize (pr (rt c)).2 = c2 at *
  generalize (pr (rt u)).1 = u1 at *
  generalize (pr (rt u)).2 = u2 at *
  generalize (pr (rt v)).1 = v1 at *
  generalize (pr (rt v)).2 = v2 at *
  have k1 : (u - c) * (c2 * u2) ≥ 0 := Int.mul_nonneg (by omega) (Int.le_of_lt (Int.mul_pos p1 p2))
  have k2 : (c + v) * (c2 * v2) ≥ 0 := Int.mul_nonneg (by omega) (Int.le_of_lt (Int.mul_pos p1 p3))
  have a1 : c1 * 840 * u2 = c * c2 * u2 := by rw [a]
  have a2 : c1 * 840 * v2 = c * c2 * v2 := by rw [a]
  have b1 : u1 * 840 * c2 = u * u2 * c2 := by rw [b]
  have d1 : v1 * 840 * c2 = v * v2 * c2 := by rw [d]
  constructor <;> grind
/-- all is kept but what stands in a list -/
def Xk (Z : List Addr) (H H' : Hp) : Prop := ∀ a o, H a = some o → a ∉ Z → H' a = some o
/-- where the law's things stand -/
structure Ad where
  CT : Addr
  h : Addr
  tu : Addr
  rt : Addr
  ot : Addr
  ps : Addr
def Ad.Z (a : Ad) : List Addr := [a.h, a.tu, a.ps]
/-- days that stand -/
def Days (H : Hp) (Z : List Addr) (xs : List Str) (so : Addr) (ds : List (Addr × List Str)) : Prop := H so = some (.lst (ds.map fun p => V.ref p.1)) ∧ so ∉ Z ∧ ∀ p ∈ ds, H p.1 = some (.lst (p.2.map V.str)) ∧ DayOk xs p.2 ∧ p.1 ∉ Z
theorem Days.xk {H H' : Hp} {Z : List Addr} {xs : List Str} {so : Addr} {ds : List (Addr × List Str)} (s : Days H Z xs so ds) (k : Xk Z H H') : Days H' Z xs so ds := ⟨k _ _ s.1 s.2.1, s.2.1, fun p hp => ⟨k _ _ (s.2.2 p hp).1 (s.2.2 p hp).2.2, (s.2.2 p hp).2⟩⟩
theorem Days.same {H H' : Hp} {Z : List Addr} {xs : List Str} {so : Addr} {ds : List (Addr × List Str)} (s : Days H Z xs so ds) (k : Same H H') : Days H' Z xs so ds := s.xk fun a o e _ => k a o e
/-- the bounds, by names -/
def Bnds (H : Hp) (Z : List Addr) (bd : Addr) (xs : List Str) : Prop := ∃ ta pa qa : Str → Addr, H bd = some (dctO xs fun x => .ref (ta x)) ∧ bd ∉ Z ∧ ∀ x ∈ xs, H (ta x) = some (.tup [.ref (pa x), .ref (qa x)]) ∧ H (pa x) = some (tupP (pr (rt (UP x xs)))) ∧ H (qa x) = some (tupP (pr (rt (DN x xs)))) ∧ ta x ∉ Z ∧ pa x ∉ Z ∧ qa x ∉ Z
theorem Bnds.xk {H H' : Hp} {Z : List Addr} {bd : Addr} {xs : List Str} (b : Bnds H Z bd xs) (k : Xk Z H H') : Bnds H' Z bd xs := by
  obtain ⟨ta, pa, qa, h1, h2, h3⟩ := b
  refine ⟨ta, pa, qa, k _ _ h1 h2, h2, fun x hx => ?_⟩
  obtain ⟨a, b, c, d, e, f⟩ := h3 x hx
  exact ⟨k _ _ a d, k _ _ b e, k _ _ c f, d, e, f⟩
/-- what stands while the law goes -/
structure M0 (a : Ad) (xs : List Str) (hd kp : Addr) (c : Str → Int) (rode : List (List Str)) (drs : List Str) (n : Nat) (H : Hp) : Prop where
  held : Held H a.h n
  rl : LeastR H a.rt a.ot xs 0
  tr : Tr a.CT H a.tu a.rt hd kp a.ps
  ch : Crd H hd xs c
  ck : KeptX rode H kp
  pa : H a.ps = some (.lst (drs.map V.str))
  cr : Cr xs rode c
  ll : rode.length = drs.length
  ce : Cel a.h a.ps H
  zn : a.Z.Nodup
section
variable {a : Ad} {xs : List Str} {hd kp hd' kp' : Addr} {c c' : Str → Int} {rode : List (List Str)} {drs : List Str} {n n' : Nat} {H H' : Hp}
theorem M0.cases (m : M0 a xs hd kp c rode drs n H) {x : Addr} (z : x ∈ a.Z) : (∃ o, H x = some o) ∧ ∀ ys, H x ≠ some (.tup ys) := by
  obtain ⟨l, ns, p, q, h1, _⟩ := m.held
  obtain ⟨dx, h2⟩ := m.tr
  have h3 := m.pa
  unfold Ad.Z at z
  simp only [List.mem_cons, List.not_mem_nil, or_false] at z
  rcases z with q | q | q <;> subst q
  · exact ⟨⟨_, h1⟩, fun ys e => by rw [h1] at e; cases e⟩
  · exact ⟨⟨_, h2⟩, fun ys e => by rw [h2] at e; cases e⟩
  · exact ⟨⟨_, h3⟩, fun ys e => by rw [h3] at e; cases e⟩
theorem M0.notin (m : M0 a xs hd kp c rode drs n H) {x : Addr} (e : H x = none) : x ∉ a.Z := fun z => by
  obtain ⟨⟨o, h⟩, _⟩ := m.cases z
  rw [e] at h
  cases h
theorem M0.nt (m : M0 a xs hd kp c rode drs n H) (x : Addr) (ys : List V) (e : H x = some (.tup ys)) : x ∉ a.Z := fun z => (m.cases z).2 ys e
theorem M0.ne (m : M0 a xs hd kp c rode drs n H) : a.h ≠ a.tu ∧ a.h ≠ a.ps ∧ a.tu ≠ a.ps := by
  have := m.zn
  unfold Ad.Z at this
  simp only [List.nodup_cons, List.mem_cons, List.not_mem_nil, or_false, not_or] at this
  obtain ⟨⟨h1, h2⟩, h3, _⟩ := this
  exact ⟨h1, h2, h3⟩
theorem M0.kx (k : Kp a.h H H') : Xk a.Z H H' := fun b o e nz => k.1 _ _ e fun z => nz (by rw [z]; unfold Ad.Z; exact List.mem_cons_self)
theorem M0.kept (m : M0 a xs hd kp c rode drs n H) (k : Kp a.h H H') (hh : Held H' a.h n') : M0 a xs hd kp c rode drs n' H' := by
  obtain ⟨n1, n2, n3⟩ := m.ne
  have tk : ∀ {b : Addr} {ys : List V}, H b = some (.tup ys) → H' b = some (.tup ys) := fun e => M0.kx k _ _ e (m.nt _ _ e)
  obtain ⟨dx, e⟩ := m.tr
  exact ⟨hh, m.rl.ext fun b ys e => tk e, ⟨dx, k.1 _ _ e n1.symm⟩, tk m.ch, m.ck.ext fun b ys e => tk e, k.1 _ _ m.pa n2.symm, m.cr, m.ll, m.ce.kp k, m.zn⟩
theorem M0.same (m : M0 a xs hd kp c rode drs n H) (s : Same H H') : M0 a xs hd kp c rode drs n H' := m.kept (Kp.same s) (m.held.same s)
theorem M0.weak (m : M0 a xs hd kp c rode drs n H) (le : n' ≤ n) : M0 a xs hd kp c rode drs n' H := m.kept (Kp.refl a.h H) (m.held.weak le)
/-- one more day -/
theorem M0.ride {R : List Str} {y : Str} {H3 : Hp} (m : M0 a xs hd kp c rode drs n H) (ox : Ord xs) (dy : DayOk xs R) (k3 : KpT a.tu a.ps H H3) (dr : Drv rode xs R y) (tr : Tr a.CT H3 a.tu a.rt hd' kp' a.ps) (ch : Crd H3 hd' xs (nxt R y c)) (ck : KeptX (rode ++ [fs xs R]) H3 kp')
    (pa : H3 a.ps = some (.lst (drs.map V.str ++ [.str y]))) : Xk a.Z H H3 ∧ M0 a xs hd' kp' (nxt R y c) (rode ++ [fs xs R]) (drs ++ [y]) n H3 := by
  obtain ⟨n1, n2, n3⟩ := m.ne
  have kx : Xk a.Z H H3 := fun b o e nz => k3 b o e (fun z => nz (by rw [z]; unfold Ad.Z; simp)) (fun z => nz (by rw [z]; unfold Ad.Z; simp))
  obtain ⟨l, ns, p, q, h1, h2, h34⟩ := m.held
  have hh3 := k3 _ _ h1 n1 n2
  have nlt : l ≠ a.tu := fun z => by
    obtain ⟨dx, e⟩ := m.tr
    rw [z, e] at h2
    cases h2
  have lp : l ≠ a.ps := by
    obtain ⟨la, n0, m0, c1, c2, _⟩ := m.ce
    rw [h1] at c1
    rw [hd_inj (Option.some.inj c1)]
    exact c2
  refine ⟨kx, ⟨l, ns, p, q, hh3, k3 _ _ h2 nlt lp, h34⟩, m.rl.ext fun b ys e => kx _ _ e (m.nt _ _ e), tr, ch, ck, by rw [pa, List.map_append]; rfl, cr_next m.cr ox dy dr, by rw [List.length_append, List.length_append, m.ll]; rfl, ⟨l, p, q, hh3, lp, n2⟩, m.zn⟩
end
theorem S_inj {a b : List Nat} (h : S a = S b) : a = b := by
  have := congrArg (fun s : Str => s.cps.toList) h
  simpa [S] using this
theorem ord_of {zs : List (List Nat)} (h0 : 0 < zs.length) (h8 : zs.length ≤ 8) (ok : ∀ z ∈ zs, NM.ok z) (pw : zs.Pairwise (· ≠ ·)) : Ord (zs.map S) := by
  refine ⟨List.ne_nil_of_length_pos (by rw [List.length_map]; exact h0), by rw [List.length_map]; exact h8, ?_, fun x hx => ?_⟩
  · exact List.pairwise_map.mpr (pw.imp fun h e => h (S_inj e))
  · obtain ⟨z, hz, rfl⟩ := List.mem_map.mp hx
    exact ⟨z, rfl, ok z hz⟩
end K38
set_option Elab.async false
set_option linter.all false
set_option maxRecDepth 100000
set_option maxHeartbeats 4000000
namespace K38
open PySem PySem.Spec PyProof.Rows L2
open C8 (Cal Mak Met pe_c pe_mk pe_mt pe_mt0)
open KM (pr)
open SX (S)
open SM (UP DN Cr)
theorem nil_false : (!PyData.eqv (.list []) (.list [])) = false := by simp [PyData.eqv, PyData.eqvAll]
/-- two pairs of numbers, as data -/
def ppD (u v : Int × Int) : PyData := .tuple [.tuple [.int u.1, .int u.2], .tuple [.int v.1, .int v.2]]
theorem pp_dp {K : PySem.W.Frag} {H : Hp} {t p q : Addr} {u v : Int × Int} (h : H t = some (.tup [.ref p, .ref q])) (hp : H p = some (tupP u)) (hq : H q = some (tupP v)) : Dp K H (.ref t) (ppD u v) :=
  Dp.tup (SqT.of h) (.cons (Dp.tup (SqT.of hp) (.cons (.int _) (.cons (.int _) .nil))) (.cons (Dp.tup (SqT.of hq) (.cons (.int _) (.cons (.int _) .nil))) .nil))
theorem pp_same (u v : Int × Int) : (!PyData.eqv (ppD u v) (ppD u v)) = false := by simp [ppD, PyData.eqv, PyData.eqvAll]
theorem pp_sh (u v : Int × Int) : SeqAt.shaped (ppD u v) = true := by rfl
section
variable {P : Program} {w : World} {K : PySem.W.Frag} {mg : Str → Option Value} {base : Heap} {f C CT : Addr} {fd : FuncData}
def spLaw (K : PySem.W.Frag) : Sp := fun vs H Q _ => ∃ (a : Addr) (ns : List Int), vs = [.ref a] ∧ SqL K H a (ns.map V.int) ∧ ns.length ≤ 63 ∧ ∀ H', Q (.bl true) H'
theorem ok_law (F : Dn K d_law f fd) (bl : Bl mg) (b2 : Bl2 mg) (bdict : mg "dict" = none) (cH : Cal P w K mg base 1 "_law_held" (spHeld K) []) (cD : CalD P w K mg base) (cNm : Cal P w K mg base 2 "_law_names" spNames []) (cP : Cal P w K mg base 1 "_law_pair" (spPair C) []) (cI : Cal P w K mg base 1 "_law_in_bound" spIb [])
    (cLb : Cal P w K mg base 3 "_law_round_bound" spLb []) (cRb : Cal P w K mg base 6 "round_bound" (spRB C) []) (cDs : Cal P w K mg base 4 "_law_days" spDays [])
    (MT : Mak P w K mg base 4 "Turns" CT (spTi CT) []) (mR : Met P w K mg base 4 CT "ride" (spRide CT) []) (mS : Met P w K mg base 4 CT "stands" (spSt C CT) []) :
    FnOk P w K mg base CX0 7 f fd ["_law_script"] (spLaw K) := by
  refine F.ok sc_law (fun vs H Q E h => ?_) (fun cdv A outer s H vs Q E hr h => ?_)
  · obtain ⟨a, ns, rfl, _⟩ := h
    rfl
  · obtain ⟨s0, ns, rfl, hS, hlen, hQ⟩ := h
    have hu := hu_of hr
    have hu64 : (A.deeper (envOfC d_law.qual d_law.scope s.heap.objs.size f cdv)).units + 64 < cLine := by have := hr.un; omega
    refine ⟨_, PSs.nox (pss_cons (ps_set (i := 1) sc_law.nd rfl (.inl rfl) (pe_c cH hr (by decide) rfl (pa_cons (pv 0) pa_nil)))
      (C8.pss_cut (ps_set (i := 2) sc_law.nd rfl (.inr rfl) (pe_callTy call_tuple_of rfl b2.tup boot_tuple (pa_cons (pe_c cNm hr (by decide) rfl (pa_cons (pv 1) (pa_cons (pe_op op_add pe_int (pe_c cD hr (by decide) rfl (pa_cons (pv 1) (pa_cons pe_int pa_nil)))) pa_nil))) pa_nil)))
      (C8.pss_cut (ps_set (i := 3) sc_law.nd rfl (.inl rfl) (pe_mk MT hr (by decide) rfl (pa_cons (pe_tup (pa_cons pe_str (pa_cons (pv 2) pa_nil))) pa_nil)))
      (C8.pss_cut (ps_set (i := 5) sc_law.nd rfl (.inr rfl) (pe_callTy (call_dictP rfl) rfl bdict boot_dict (pa_cons (pe_lc (own := [("_law_name", 4)]) (g := gName 4) (tt := tYes) rfl sc_law.nd (pi_tup (pv 2)) (blkOk_by (N := N_law) (sc := defScope s_law) (by decide +kernel))
          (fun _ _ _ _ _ => pg_name (i := 4) sc_law.nd rfl (Or.inl rfl)) (fun _ _ _ _ _ => pts_nil) (fun _ _ _ _ _ => pe_tup (pa_cons (pv 4) (pa_cons (pe_c cLb hr (by decide) rfl (pa_cons (pv 2) (pa_cons (pv 4) pa_nil))) pa_nil)))) pa_nil)))
      (C8.pss_cut (ps_for PassesOwn.never rfl (pi_tup (pv 2)) (pg_name (i := 4) sc_law.nd rfl (.inl rfl))
        (pss_cons (ps_set (i := 6) sc_law.nd rfl (.inl rfl) (pe_c cRb hr (by decide) rfl (pa_cons (pv 2) (pa_cons (pv 4) pa_nil))))
        (pss_one (ps_if (pt_cmpR (op_neD hu64) (pe_tup (pa_cons (pe_c cP hr (by decide) rfl (pa_cons (pe_ix ix_tup (pv 6) pe_int (fun _ _ => rfl)) pa_nil)) (pa_cons (pe_c cP hr (by decide) rfl (pa_cons (pe_ix ix_tup (pv 6) pe_int (fun _ _ => rfl)) pa_nil)) pa_nil))) (pe_dget hu (pv 5) (pv 4) (fun _ _ => rfl)) (nomark _)) pss_never pss_nil))))
      (pss_cons (ps_for PassesOwn.never rfl (pi_list (pe_c cDs hr (by decide) rfl (pa_cons (pv 1) (pa_cons (pv 2) pa_nil)))) (pg_name (i := 7) sc_law.nd rfl (.inl rfl))
        (pss_cons (ps_expr (pe_mt mR hr (by decide) (pv 3) (pa_cons (pe_callTy call_list_of rfl bl.list boot_list (pa_cons (pv 7) pa_nil)) pa_nil)))
        (pss_cons (ps_set (i := 8) sc_law.nd rfl (.inr rfl) (pe_mt0 mS hr (by decide) (pv 3)))
        (pss_one (ps_if (pt_cmpR (op_neD hu64) (pe_lc (own := [("_law_name", 4)]) (g := gName 4) rfl sc_law.nd (pi_tup (pv 2)) (blkOk_by (N := N_law) (sc := defScope s_law) (by decide +kernel))
              (fun _ _ _ _ _ => pg_name (i := 4) sc_law.nd rfl (Or.inl rfl)) (fun _ _ _ _ _ => pts_one (pt_not (pt_val (pe_c cI hr (by decide) rfl (pa_cons (pe_c cP hr (by decide) rfl (pa_cons (pe_dget hu (pv 8) (pv 4) (fun _ _ => rfl)) pa_nil)) (pa_cons (pe_dget hu (pv 5) (pv 4) (fun _ _ => rfl)) pa_nil)))))) (fun _ _ _ _ _ => pv 4))
            (pe_lst pa_nil) (nomark _)) pss_never pss_nil)))))
      (pss_one (ps_ret pe_bl)))))))), ?_⟩
    refine ⟨_, rfl, s0, ns, rfl, hS, hlen, fun h H1 s1 f1 held1 => ?_⟩
    refine ⟨fun σ' H' => ∃ (ot : Addr) (xs : List Str), σ' = [some (.ref s0), some (.ref h), some (.ref ot), none, none, none, none, none, none] ∧ H' ot = some (.tup (xs.map V.str)) ∧ Ord xs ∧ Held H' h 800000000, ?_, ?_⟩
    · refine ⟨_, rfl, _, rfl, h, 800000041, 8, rfl, held1.weak (by decide), by decide, by decide, fun m H2 m0 m7 held2 k2 => ?_⟩
      obtain ⟨k, rfl⟩ : ∃ k : Nat, m = k := ⟨m.toNat, by omega⟩
      refine ⟨_, _, rfl, rfl, h, 800000001, 1 + k, rfl, held2.weak (by decide), by omega, fun o zs H3 held3 k3 fo ho zl zok zpw => ?_⟩
      refine ⟨o, _, rfl, .inl ⟨SqL.of ho, fun ot fot => ?_⟩⟩
      have sot := same_new (o := .tup (zs.map fun l => V.str (S l))) fot
      refine ⟨ot, zs.map S, rfl, ?_, ord_of (by omega) (by omega) zok zpw, (held3.same sot).weak (by decide)⟩
      rw [upd_same, List.map_map]
      rfl
    rintro σ' H2 ⟨ot, xs, rfl, hot2, ox, held2⟩
    have xpos : 0 < xs.length := List.length_pos_iff.mpr ox.ne
    have l8 := ox.l8
    -- the Turns
    refine ⟨fun σ' H' => ∃ (a : Ad) (hd kp : Addr), σ' = [some (.ref s0), some (.ref a.h), some (.ref a.ot), some (.ref a.tu), none, none, none, none, none] ∧ M0 a xs hd kp (fun _ => 0) [] [] 700000000 H' ∧ a.CT = CT, ?_, ?_⟩
    · refine ⟨_, rfl, by show 2 ≤ sizeLine; decide, fun ru fru => ?_⟩
      have sr := same_new (o := .tup [.str "rounds", .ref ot]) fru
      have rl : LeastR (upd H2 ru (.tup [.str "rounds", .ref ot])) ru ot xs 0 := ⟨upd_same, sr _ _ hot2, ox, by decide, by decide⟩
      have held3 := held2.same sr
      generalize upd H2 ru (.tup [.str "rounds", .ref ot]) = H3 at rl held3
      intro tu dx ntu ndx nne
      have lift : ∀ b o, H3 b = some o → (upd (upd H3 dx (.own tu)) tu (.ins CT dx [])) b = some o := fun b o e => by
        rw [upd_ne (ne_of_none e ntu), upd_ne (ne_of_none e ndx)]
        exact e
      refine ⟨tu, dx, ru, ot, xs, 0, rfl, upd_same, rl.ext fun b ys e => lift _ _ e, fun H4 hd kp ps back fps htu hcd hck hps => ⟨rfl, ?_⟩⟩
      have s34 : Same H3 H4 := fun b o e => back b o (ne_of_none e ntu) (lift b o e)
      have fps' : H3 ps = none := by
        cases e : H3 ps with
        | none => rfl
        | some o => rw [lift ps o e] at fps; cases fps
      have held4 := held3.same s34
      have ce4 : Cel h ps H4 := (Cel.of held3 fps').kp (Kp.same s34)
      obtain ⟨ll4, ns4, p4, q4, hh4, hl4, _⟩ := id held4
      obtain ⟨_, _, _, _, hh3, _⟩ := id held3
      have e1 : h ≠ tu := ne_of_none hh3 ntu
      have e2 : h ≠ ps := fun z => by rw [z, hps] at hh4; cases hh4
      have e3 : tu ≠ ps := fun z => by rw [z, hps] at htu; cases htu
      refine ⟨⟨CT, h, tu, ru, ot, ps⟩, hd, kp, rfl, ⟨held4.weak (by decide), rl.same s34, ⟨dx, htu⟩, hcd, hck, hps, Cr.zero xs, rfl, ce4, ?_⟩, rfl⟩
      show [h, tu, ps].Nodup
      simp only [List.nodup_cons, List.mem_cons, List.not_mem_nil, or_false, not_or, List.nodup_nil, and_true, not_false_eq_true]
      exact ⟨⟨e1, e2⟩, e3⟩
    clear hot2 held2 held1
    rintro σ' H4 ⟨a, hd, kp, rfl, M4, rfl⟩
    -- the bounds
    refine ⟨fun σ' H' => ∃ bd : Addr, σ' = [some (.ref s0), some (.ref a.h), some (.ref a.ot), some (.ref a.tu), none, some (.ref bd), none, none, none] ∧ M0 a xs hd kp (fun _ => 0) [] [] 700000000 H' ∧ Bnds H' a.Z bd xs, ?_, ?_⟩
    · refine ⟨_, rfl, a.ot, rfl, ⟨_, SqT.of M4.rl.2.1⟩, fun E3 hE3 => lc_tup (fun i H5 => ∃ ea ta pa qa : Str → Addr, H5 E3 = some (.lst ((xs.take i).map fun x => V.ref (ea x))) ∧ (∀ x ∈ xs.take i, H5 (ea x) = some (.tup [.str x, .ref (ta x)]) ∧ H5 (ta x) = some (.tup [.ref (pa x), .ref (qa x)]) ∧ H5 (pa x) = some (tupP (pr (rt (UP x xs)))) ∧ H5 (qa x) = some (tupP (pr (rt (DN x xs))))) ∧ Same H4 H5)
        ⟨fun _ => 0, fun _ => 0, fun _ => 0, fun _ => 0, upd_same, fun x hx => by simp at hx, same_new hE3⟩ (fun _ H5 _ z => by obtain ⟨_, _, _, _, _, _, sm⟩ := z; exact SqT.of (sm _ _ M4.rl.2.1)) ?_ ?_⟩
      · rintro i x H5 hx ⟨ea, ta, pa, qa, hee5, hpa, sm⟩
        rw [List.getElem?_map] at hx
        obtain ⟨z, hz, rfl⟩ := Option.map_eq_some_iff.mp hx
        have hzx := List.mem_of_getElem? hz
        have nz := nin_take ox.nd hz
        have et := take_one hz
        have hi' : i < xs.length := (List.getElem?_eq_some_iff.mp hz).1
        refine ⟨rfl, ?_⟩
        refine ⟨_, rfl, _, rfl, _, rfl, a.ot, xs, z, rfl, sm _ _ M4.rl.2.1, l8, ox.nd, hzx, fun t p q H6 s6 ft ht hp hq => ⟨by show 2 ≤ sizeLine; decide, fun u fu => ?_⟩⟩
        have su := same_new (o := .tup [.str z, .ref t]) fu
        have s56 := s6.trans su
        have hE5 := s56 _ _ hee5
        refine ⟨_, hE5, ?_, fun x => if x = z then u else ea x, fun x => if x = z then t else ta x, fun x => if x = z then p else pa x, fun x => if x = z then q else qa x, ?_, ?_, ?_⟩
        · rw [List.length_map, List.length_take]
          exact Nat.lt_of_lt_of_le (by omega : min i xs.length < 64) (by decide)
        · rw [upd_same, et, List.map_append]
          have e1 : (xs.take i).map (fun x => V.ref (ea x)) = (xs.take i).map fun x => V.ref (if x = z then u else ea x) := List.map_congr_left fun x hx => by rw [if_neg (show x ≠ z from fun e => nz (e ▸ hx))]
          rw [e1]
          simp
        · intro x hx
          have keep : ∀ {p : Addr} {o : HO} {ys : List V}, (upd H6 u (.tup [.str z, .ref t])) p = some (.tup ys) → (upd (upd H6 u (.tup [.str z, .ref t])) E3 o) p = some (.tup ys) := fun {p o ys} hp => by
            rw [upd_ne (fun e => by rw [e, hE5] at hp; cases hp)]
            exact hp
          show (upd _ E3 _) (if x = z then u else ea x) = some (.tup [.str x, .ref (if x = z then t else ta x)]) ∧ (upd _ E3 _) (if x = z then t else ta x) = some (.tup [.ref (if x = z then p else pa x), .ref (if x = z then q else qa x)]) ∧ (upd _ E3 _) (if x = z then p else pa x) = _ ∧ (upd _ E3 _) (if x = z then q else qa x) = _
          rw [et] at hx
          rcases List.mem_append.mp hx with hx | hx
          · have n : ¬ x = z := fun e => nz (e ▸ hx)
            rw [if_neg n, if_neg n, if_neg n, if_neg n]
            obtain ⟨c1, c2, c3, c4⟩ := hpa x hx
            exact ⟨keep (s56 _ _ c1), keep (s56 _ _ c2), keep (s56 _ _ c3), keep (s56 _ _ c4)⟩
          · rw [List.mem_singleton] at hx
            rw [if_pos hx, if_pos hx, if_pos hx, if_pos hx, hx]
            exact ⟨keep upd_same, keep (su _ _ ht), keep (su _ _ hp), keep (su _ _ hq)⟩
        · intro b o e
          rw [upd_ne (ne_of_none e hE3)]
          exact s56 b o (sm b o e)
      rintro H5 ⟨ea, ta, pa, qa, hee5, hpa, s5⟩
      rw [List.length_map, List.take_length] at hee5 hpa
      refine ⟨E3, xs.map ea, xs.map fun x => ((Sum.inr x : Key), V.ref (ta x)), rfl, by rw [List.map_map]; exact SqL.of hee5, paired_map fun x hx => SqT.of (hpa x hx).1, fun d fd0 => ?_⟩
      have em := DQ.merge_map (fun x => V.ref (ta x)) (l := xs) (m := []) ox.nd
      rw [List.nil_append] at em
      have em' : mergeK [] (xs.map fun x => ((Sum.inr x : Key), V.ref (ta x))) = xs.map fun x => ((Sum.inr x : Key), V.ref (ta x)) := em
      rw [em']
      have sd := same_new (o := .dK (xs.map fun x => ((Sum.inr x : Key), V.ref (ta x)))) fd0
      have M5 := M4.same s5
      refine ⟨d, rfl, M5.same sd, ta, pa, qa, upd_same, M5.notin fd0, fun x hx => ?_⟩
      obtain ⟨c1, c2, c3, c4⟩ := hpa x hx
      exact ⟨sd _ _ c2, sd _ _ c3, sd _ _ c4, M5.nt _ _ c2, M5.nt _ _ c3, M5.nt _ _ c4⟩
    clear M4
    rintro σ' H6 ⟨bd, rfl, M6, B6⟩
    -- what the program tells of them
    refine ⟨fun σ' H' => ∃ v4 v6 : Option V, σ' = [some (.ref s0), some (.ref a.h), some (.ref a.ot), some (.ref a.tu), v4, some (.ref bd), v6, none, none] ∧ M0 a xs hd kp (fun _ => 0) [] [] 700000000 H' ∧ Bnds H' a.Z bd xs, ?_, ?_⟩
    · refine ⟨_, rfl, a.ot, rfl, ⟨_, SqT.of M6.rl.2.1⟩, for_tup (K := K) (xs := xs.map V.str) (fun i σ H' => ∃ v4 v6 : Option V, σ = [some (.ref s0), some (.ref a.h), some (.ref a.ot), some (.ref a.tu), v4, some (.ref bd), v6, none, none] ∧ Same H6 H')
        ⟨_, _, rfl, Same.refl _⟩ (fun i σ H' _ z => by obtain ⟨_, _, _, sm⟩ := z; exact SqT.of (sm _ _ M6.rl.2.1)) ?_ ?_⟩
      · rintro i v σ H7 hi ⟨v4, v6, rfl, s7⟩
        rw [List.getElem?_map] at hi
        obtain ⟨z, hz, rfl⟩ := Option.map_eq_some_iff.mp hi
        have hzx := List.mem_of_getElem? hz
        obtain ⟨ta, pa, qa, hbd, nbd, hba⟩ := id B6
        obtain ⟨c1, c2, c3, _⟩ := hba z hzx
        refine ⟨_, rfl, _, rfl, a.ot, xs, z, rfl, s7 _ _ M6.rl.2.1, l8, hzx, fun t p q H8 s8 ft ht hp hq => ?_⟩
        refine ⟨_, rfl, t, _, _, _, rfl, rfl, SqT.of ht, rfl, p, _, rfl, hp, fun o1 H9 s9 f9 ho1 => ?_⟩
        refine ⟨_, rfl, t, _, _, _, rfl, rfl, SqT.of (s9 _ _ ht), rfl, q, _, rfl, hq.keep s9, fun o2 Ha sa fa ho2 => ?_⟩
        refine ⟨by show 2 ≤ sizeLine; decide, fun u fu => ?_⟩
        have su := same_new (o := .tup [.ref o1, .ref o2]) fu
        have s6u := (((s7.trans s8).trans s9).trans sa).trans su
        have dg : DGet (upd Ha u (.tup [.ref o1, .ref o2])) bd (.str z) (some (.ref (ta z))) := by
          have := DGet.k (k := Sum.inr z) (s6u _ _ hbd)
          rw [DQ.val_map (fun x => V.ref (ta x)) hzx] at this
          exact this
        refine ⟨_, rfl, _, rfl, bd, _, rfl, dg, ?_⟩
        refine ⟨ppD (pr (rt (UP z xs))) (pr (rt (DN z xs))), ppD (pr (rt (UP z xs))) (pr (rt (DN z xs))), pp_dp upd_same (su _ _ (sa _ _ ho1)) (su _ _ ho2), pp_dp (s6u _ _ c1) (s6u _ _ c2) (s6u _ _ c3), pp_sh _ _, pp_sh _ _, _, rfl, ?_⟩
        rw [pp_same]
        exact iteF ⟨_, _, rfl, s6u⟩
      · rintro σ H7 ⟨v4, v6, rfl, s7⟩
        exact ⟨_, _, rfl, M6.same s7, B6.xk fun b o e _ => s7 b o e⟩
    clear M6 B6
    rintro σ' H7 ⟨v4, v6, rfl, M7, B7⟩
    -- the days
    refine ⟨_, rfl, _, rfl, a.h, a.ot, 600000000, xs, rfl, M7.held.weak (by decide), M7.rl.2.1, ox, fun D ds H8 held8 k8 fD hD hds dl => ?_⟩
    have M8 := M7.kept k8 held8
    have B8 := B7.xk (M0.kx k8)
    have D8 : Days H8 a.Z xs D ds := ⟨hD, M7.notin fD, fun p hp => ⟨(hds p hp).1, (hds p hp).2.1, M7.notin (hds p hp).2.2⟩⟩
    refine ⟨D, rfl, ⟨_, SqL.of D8.1⟩, for_list (K := K) (xs := ds.map fun p => V.ref p.1) (fun i σ H' => ∃ (v7 v8 : Option V) (hd kp : Addr) (c : Str → Int) (rode : List (List Str)) (drs : List Str), σ = [some (.ref s0), some (.ref a.h), some (.ref a.ot), some (.ref a.tu), v4, some (.ref bd), v6, v7, v8] ∧
        M0 a xs hd kp c rode drs 600000000 H' ∧ Bnds H' a.Z bd xs ∧ Days H' a.Z xs D ds ∧ drs.length = i)
      ⟨_, _, hd, kp, _, [], [], rfl, M8, B8, D8, rfl⟩ (fun i σ H' _ z => by obtain ⟨_, _, _, _, _, _, _, _, _, _, d, _⟩ := z; exact SqL.of d.1) ?_ ?_⟩
    · rintro i v σ Ha hi ⟨v7, v8, hd, kp, c, rode, drs, rfl, Ma, Ba, Da, dli⟩
      rw [List.getElem?_map] at hi
      obtain ⟨p, hp, rfl⟩ := Option.map_eq_some_iff.mp hi
      have hpm := List.mem_of_getElem? hp
      have hil : i < ds.length := (List.getElem?_eq_some_iff.mp hp).1
      obtain ⟨hrd, dy, nrd⟩ := Da.2.2 p hpm
      obtain ⟨dx, htu⟩ := id Ma.tr
      refine ⟨_, rfl, a.tu, dx, _, rfl, htu, tr_no _ _ _ _ (by decide +kernel) (by decide +kernel) (by decide +kernel) (by decide +kernel), _, rfl, p.1, _, rfl, .inl (SqL.of hrd), fun l fl => ?_⟩
      have sl := same_new (o := .lst (p.2.map V.str)) fl
      have Mb := Ma.same sl
      have nlp : l ≠ a.ps := (ne_of_none Ma.pa fl).symm
      have rl0 := Mb.ll
      refine ⟨a.tu, l, a.rt, a.ot, hd, kp, a.ps, xs, p.2, rode, 0, c, _, rfl, Mb.tr, Mb.rl, Mb.ch, Mb.ck, by omega, upd_same, dy, Mb.pa, by rw [List.length_map]; omega, nlp, fun Hc hd' kp' y kc dr tr' ch' ck' pa' => ?_⟩
      obtain ⟨kx, Mc⟩ := Mb.ride ox dy kc dr tr' ch' ck' pa'
      have kac : Xk a.Z Ha Hc := fun b o e nz => kx _ _ (sl _ _ e) nz
      have Bc := Ba.xk kac
      have Dc := Da.xk kac
      obtain ⟨dx2, htu2⟩ := id Mc.tr
      refine ⟨_, rfl, a.tu, dx2, _, rfl, htu2, tr_no _ _ _ _ (by decide +kernel) (by decide +kernel) (by decide +kernel) (by decide +kernel), a.tu, a.rt, a.ot, hd', kp', a.ps, xs, 0, _, rfl, Mc.tr, Mc.rl, Mc.ch, fun SD Hd ad sd fSD hSD hval => ?_⟩
      have Md := Mc.same sd
      have Bd := Bc.xk fun b o e _ => sd b o e
      have Dd := Dc.same sd
      obtain ⟨ta, pa, qa, hbd, nbd, hba⟩ := id Bd
      refine ⟨_, rfl, a.ot, rfl, ⟨_, SqT.of Md.rl.2.1⟩, fun E2 hE2 => lc_tup (fun j H' => H' E2 = some (.lst []) ∧ Same Hd H') ⟨upd_same, same_new hE2⟩ (fun _ H' _ z => SqT.of (z.2 _ _ Md.rl.2.1)) ?_ ?_⟩
      · rintro j x Hj hx ⟨hej, sj⟩
        rw [List.getElem?_map] at hx
        obtain ⟨z, hz, rfl⟩ := Option.map_eq_some_iff.mp hx
        have hzx := List.mem_of_getElem? hz
        have dg : DGet Hj SD (.str z) (some (.ref (ad z))) := by
          have := DGet.k (k := Sum.inr z) (sj _ _ hSD)
          rw [DQ.val_map (fun x => V.ref (ad x)) hzx] at this
          exact this
        refine ⟨rfl, ?_⟩
        refine ⟨_, rfl, _, rfl, SD, _, rfl, dg, ad z, _, rfl, (hval z hzx).keep sj, fun pt Hk sk fk hpt => ?_⟩
        have sjk := sj.trans sk
        have dg2 : DGet Hk bd (.str z) (some (.ref (ta z))) := by
          have := DGet.k (k := Sum.inr z) (sjk _ _ hbd)
          rw [DQ.val_map (fun x => V.ref (ta x)) hzx] at this
          exact this
        obtain ⟨c1, c2, c3, _⟩ := hba z hzx
        obtain ⟨b1, b2⟩ := Md.cr.bound l8 hzx
        have bu : (UP z xs).natAbs ≤ 840 * 256 ∧ (DN z xs).natAbs ≤ 840 * 256 := by
          have e : ∀ s ∈ SM.wsets z xs, (SM.upI z s).natAbs ≤ 840 ∧ (SM.dnI z s).natAbs ≤ 840 := fun s hs => by
            obtain ⟨a, _, b⟩ := SM.mem_w.mp hs
            exact SM.ud_small b (Nat.le_trans (SM.sub_of _ _ a).length_le l8)
          exact ⟨Nat.le_trans (SM.sm_abs fun s hs => (e s hs).1) (Nat.mul_le_mul_left _ (w_few z l8)), Nat.le_trans (SM.sm_abs fun s hs => (e s hs).2) (Nat.mul_le_mul_left _ (w_few z l8))⟩
        have szc : KM.Sz 60 (rt (nxt p.2 y c z)) := sz_rtn (Nat.lt_of_le_of_lt (show (nxt p.2 y c z).natAbs ≤ 840 * 256 by omega) (by decide)) (by decide)
        have sz1 : (pr (rt (nxt p.2 y c z))).1.natAbs < 2 ^ 60 := szc.1
        have sz2 : (pr (rt (nxt p.2 y c z))).2.natAbs < 2 ^ 60 := by
          show ((rt (nxt p.2 y c z)).den : Int).natAbs < 2 ^ 60
          rw [Int.natAbs_natCast]
          exact szc.2
        obtain ⟨i1, i2⟩ := in_b b1 b2
        refine ⟨_, rfl, _, rfl, bd, _, rfl, dg2, pt, ta z, pa z, qa z, _, _, _, rfl, hpt, sjk _ _ c1, sjk _ _ c2, sjk _ _ c3, by omega, by omega, by omega, by omega, i1, i2, true, rfl, iteF ⟨sk _ _ hej, sjk⟩⟩
      · rintro Hj ⟨hej, sj⟩
        refine ⟨by show 0 ≤ sizeLine; decide, fun e fe => ?_⟩
        have se := same_new (o := .lst []) fe
        refine ⟨.list [], .list [], Dp.lst (SqL.of (se _ _ hej)) .nil, Dp.lst (SqL.of upd_same) .nil, by decide, by decide, _, rfl, ?_⟩
        rw [nil_false]
        have sje := sj.trans se
        exact iteF ⟨_, _, hd', kp', _, _, _, rfl, Md.same sje, Bd.xk fun b o e _ => sje b o e, Dd.same sje, by rw [List.length_append, dli]; rfl⟩
    · rintro σ Hd ⟨v7, v8, hd, kp, c, rode, drs, rfl, Md, _⟩
      exact hQ Hd
end
end K38
set_option Elab.async false
set_option linter.all false
set_option maxRecDepth 100000
set_option maxHeartbeats 0
namespace K38
open PySem PySem.Spec PyProof.Rows L2
open C8 (Cal Mak Met pe_c pe_mk pe_mt pe_mt0)
def fa : List He.Fa := [.glo "is_whole", .glo "is_name", .glo "is_order", .glo "is_rule", .glo "sets_of", .glo "row_of", .glo "common_part", .glo "total", .glo "check_in_order", .glo "sets_with", .glo "round_bound", .glo "round_row", .glo "names_of", .glo "first_memory", .glo "driver_by", .glo "parts_behind", .glo "rounds_behind", .glo "memory_behind", .glo "_law_held", .glo "_law_draw", .glo "_law_names", .glo "_law_low", .glo "_law_add", .glo "_law_pair", .glo "_law_day", .glo "_law_in_bound", .glo "_law_sets", .glo "_law_round_bound", .glo "_law_days", .glo "law", .free "isinstance", .free "int", .free "bool", .free "abs", .free "list", .free "range", .free "len", .free "str", .free "all", .free "tuple", .free "set", .free "zip", .free "min", .free "enumerate", .free "dict", .free "sorted", .glo "Share", .cls "Share", .mkr "Share", .glo "Turns", .cls "Turns", .mkr "Turns", .noat "Share" "top", .noat "Share" "bottom", .noat "Turns" "rule", .noat "Turns" "held", .noat "Turns" "kept", .noat "Turns" "past", .meth "Share" "plus", .meth "Turns" "check_riders", .meth "Turns" "who", .meth "Turns" "ride", .meth "Turns" "stands", .int "LONGEST_NAME" 8, .int "MOST_NAMES" 8, .int "RIDE_PARTS" 840, .int "MOST_IN_ROW" 6]
def xk (K : PySem.W.Frag) : Bool := (fun K => GX.isB K (He.ga K "Share")) K
abbrev R : PySem.W.OpenRow := PySem.W.OpenLaw.row PySem.Challenge.rw_rideturns_k38_whole_nobody_beyond_by_rou
abbrev hk : PySem.W.Hook := He.hookX 6 fa fn [] [] xk
def ob (s : PySem.W.SharedT) : He.AlX := He.obsX 6 fa fn [] [] xk (HandSHeadRun.getT s)
theorem ob_eq (s : PySem.W.SharedT) : ob s = hk.obs s.abs := He.obsX_eq (HandSHeadRun.getT_eq s)
abbrev loose : List Str := [("_wall" : Str), ("NoKind" : Str), ("Nought" : Str), ("NoName" : Str), ("TooMany" : Str), ("NoRule" : Str), ("LONGEST_NAME" : Str), ("is_whole" : Str), ("is_between" : Str), ("is_name" : Str), ("MOST_NAMES" : Str), ("MOST_GRAIN" : Str), ("is_order" : Str), ("is_rule" : Str), ("sets_of" : Str), ("row_of" : Str), ("common_part" : Str), ("Share" : Str), ("total" : Str), ("MOST_IN_ROW" : Str), ("check_in_order" : Str), ("sets_with" : Str), ("round_bound" : Str), ("round_row" : Str), ("RIDE_PARTS" : Str), ("names_of" : Str), ("first_memory" : Str), ("least_driver" : Str), ("driver_by" : Str), ("parts_behind" : Str), ("line_behind" : Str), ("rounds_behind" : Str), ("memory_behind" : Str), ("Turns" : Str), ("_law_held" : Str), ("_law_draw" : Str), ("_law_names" : Str), ("_law_low" : Str), ("_law_add" : Str), ("_law_pair" : Str), ("_law_day" : Str), ("_law_in_bound" : Str), ("_law_sets" : Str), ("_law_round_bound" : Str), ("_law_days" : Str)]
theorem run_ (w : World) : HandSHeadRun.RunEq R (PySem.W.view R.prog [52]) hk ob 4000 loose w := by
  intro os
  kernel_rfl
theorem cal_of {P : Program} {w : World} {K : PySem.W.Frag} {mg : Str → Option Value} {base : Heap} {f : Addr} {fd : FuncData} {ps : List Str} {k : Nat} {x : Str} {sp : Sp} (F : FnOk P w K mg base CX0 k f fd ps sp) (g : mg x = some (.ref f)) (kp : PySem.W.keepIn K (.ref f) = true) (b : Binds K fd ps []) : Cal P w K mg base k x sp [] :=
  ⟨f, fd, ps, [], F, g, kp, b, .nil⟩
theorem met_of {P : Program} {w : World} {K : PySem.W.Frag} {mg : Str → Option Value} {base : Heap} {f C : Addr} {fd : FuncData} {ps : List Str} {k : Nat} {m : Str} {sp : Sp} (c : Cls K C) (h : Meth K C m f) (F : FnOk P w K mg base CX0 k f fd ps sp) (b : Binds K fd ps []) : Met P w K mg base k C m sp [] :=
  ⟨f, fd, ps, [], c, h, F, b, .nil⟩
theorem facts {P : Program} {w : World} {K : PySem.W.Frag} {h h0 : Heap} {mg : Str → Option Value} {f : Addr} (X : K.In h) (G : h.Ns mainGlobals mg) (hfa : mg ("law" : Str) = some (.ref f)) (c : He.SaysX fa fn [] [] xk w h0 K) :
    ∃ fd : FuncData, (∀ (s : Shared) (v : Value), BindsTo s fd ⟨[v], []⟩ [("_law_script", v)]) ∧ ∀ base : Heap, K.In base → base.Ns mainGlobals mg → FnOk P w K mg base CX0 7 f fd ["_law_script"] (spLaw K) := by
  have d := c.t.d
  have x := c.more
  have gl : ∀ (i : Nat) (x : Str), fa[i]? = some (.glo x) → mg x = some (.ref (He.ga K x)) := fun i x e => He.glo_ok X G (d.fact i e)
  have fr : ∀ (i : Nat) (x : Str), fa[i]? = some (.free x) → mg x = none := fun i x e => He.free_ok X G (d.fact i e)
  have me : ∀ (i : Nat) (C m : Str), fa[i]? = some (.meth C m) → Meth K (He.ga K C) m (He.ma K (He.ga K C) m) := fun i C m e => He.meth_ok (d.fact i e)
  have gl_is_whole := gl 0 "is_whole" rfl
  have gl_is_name := gl 1 "is_name" rfl
  have gl_is_order := gl 2 "is_order" rfl
  have gl_is_rule := gl 3 "is_rule" rfl
  have gl_sets_of := gl 4 "sets_of" rfl
  have gl_row_of := gl 5 "row_of" rfl
  have gl_common_part := gl 6 "common_part" rfl
  have gl_total := gl 7 "total" rfl
  have gl_check_in_order := gl 8 "check_in_order" rfl
  have gl_sets_with := gl 9 "sets_with" rfl
  have gl_round_bound := gl 10 "round_bound" rfl
  have gl_round_row := gl 11 "round_row" rfl
  have gl_names_of := gl 12 "names_of" rfl
  have gl_first_memory := gl 13 "first_memory" rfl
  have gl_driver_by := gl 14 "driver_by" rfl
  have gl_parts_behind := gl 15 "parts_behind" rfl
  have gl_rounds_behind := gl 16 "rounds_behind" rfl
  have gl_memory_behind := gl 17 "memory_behind" rfl
  have gl__law_held := gl 18 "_law_held" rfl
  have gl__law_draw := gl 19 "_law_draw" rfl
  have gl__law_names := gl 20 "_law_names" rfl
  have gl__law_low := gl 21 "_law_low" rfl
  have gl__law_add := gl 22 "_law_add" rfl
  have gl__law_pair := gl 23 "_law_pair" rfl
  have gl__law_day := gl 24 "_law_day" rfl
  have gl__law_in_bound := gl 25 "_law_in_bound" rfl
  have gl__law_sets := gl 26 "_law_sets" rfl
  have gl__law_round_bound := gl 27 "_law_round_bound" rfl
  have gl__law_days := gl 28 "_law_days" rfl
  have gl_law := gl 29 "law" rfl
  have fr_isinstance := fr 30 "isinstance" rfl
  have fr_int := fr 31 "int" rfl
  have fr_bool := fr 32 "bool" rfl
  have fr_abs := fr 33 "abs" rfl
  have fr_list := fr 34 "list" rfl
  have fr_range := fr 35 "range" rfl
  have fr_len := fr 36 "len" rfl
  have fr_str := fr 37 "str" rfl
  have fr_all := fr 38 "all" rfl
  have fr_tuple := fr 39 "tuple" rfl
  have fr_set := fr 40 "set" rfl
  have fr_zip := fr 41 "zip" rfl
  have fr_min := fr 42 "min" rfl
  have fr_enumerate := fr 43 "enumerate" rfl
  have fr_dict := fr 44 "dict" rfl
  have fr_sorted := fr 45 "sorted" rfl
  have gl_Share := gl 46 "Share" rfl
  have cls_Share := He.cls_ok (d.fact 47 (f := .cls "Share") rfl)
  have mk_Share := He.mkr_ok (d.fact 48 (f := .mkr "Share") rfl)
  have gl_Turns := gl 49 "Turns" rfl
  have cls_Turns := He.cls_ok (d.fact 50 (f := .cls "Turns") rfl)
  have mk_Turns := He.mkr_ok (d.fact 51 (f := .mkr "Turns") rfl)
  have no_Share_top := He.noat_ok (d.fact 52 (f := .noat "Share" "top") rfl)
  have no_Share_bottom := He.noat_ok (d.fact 53 (f := .noat "Share" "bottom") rfl)
  have no_Turns_rule := He.noat_ok (d.fact 54 (f := .noat "Turns" "rule") rfl)
  have no_Turns_held := He.noat_ok (d.fact 55 (f := .noat "Turns" "held") rfl)
  have no_Turns_kept := He.noat_ok (d.fact 56 (f := .noat "Turns" "kept") rfl)
  have no_Turns_past := He.noat_ok (d.fact 57 (f := .noat "Turns" "past") rfl)
  have me_Share_plus := me 58 "Share" "plus" rfl
  have me_Turns_check_riders := me 59 "Turns" "check_riders" rfl
  have me_Turns_who := me 60 "Turns" "who" rfl
  have me_Turns_ride := me 61 "Turns" "ride" rfl
  have me_Turns_stands := me 62 "Turns" "stands" rfl
  have val_LONGEST_NAME := He.int_ok X G (d.fact 63 (f := .int "LONGEST_NAME" 8) rfl)
  have val_MOST_NAMES := He.int_ok X G (d.fact 64 (f := .int "MOST_NAMES" 8) rfl)
  have val_RIDE_PARTS := He.int_ok X G (d.fact 65 (f := .int "RIDE_PARTS" 840) rfl)
  have val_MOST_IN_ROW := He.int_ok X G (d.fact 66 (f := .int "MOST_IN_ROW" 6) rfl)
  obtain ⟨fd_is_whole, D_is_whole⟩ := d.def_ 6 (d := d_is_whole) rfl
  obtain ⟨fd_is_name, D_is_name⟩ := d.def_ 8 (d := d_is_name) rfl
  obtain ⟨fd_is_order, D_is_order⟩ := d.def_ 9 (d := d_is_order) rfl
  obtain ⟨fd_is_rule, D_is_rule⟩ := d.def_ 10 (d := d_is_rule) rfl
  obtain ⟨fd_sets_of, D_sets_of⟩ := d.def_ 11 (d := d_sets_of) rfl
  obtain ⟨fd_row_of, D_row_of⟩ := d.def_ 12 (d := d_row_of) rfl
  obtain ⟨fd_common_part, D_common_part⟩ := d.def_ 13 (d := d_common_part) rfl
  obtain ⟨fd_Share_init, D_Share_init⟩ := d.def_ 14 (d := d_Share_init) rfl
  obtain ⟨fd_Share_plus, D_Share_plus⟩ := d.def_ 18 (d := d_Share_plus) rfl
  obtain ⟨fd_total, D_total⟩ := d.def_ 24 (d := d_total) rfl
  obtain ⟨fd_check_in_order, D_check_in_order⟩ := d.def_ 25 (d := d_check_in_order) rfl
  obtain ⟨fd_sets_with, D_sets_with⟩ := d.def_ 26 (d := d_sets_with) rfl
  obtain ⟨fd_round_bound, D_round_bound⟩ := d.def_ 27 (d := d_round_bound) rfl
  obtain ⟨fd_round_row, D_round_row⟩ := d.def_ 28 (d := d_round_row) rfl
  obtain ⟨fd_names_of, D_names_of⟩ := d.def_ 29 (d := d_names_of) rfl
  obtain ⟨fd_first_memory, D_first_memory⟩ := d.def_ 30 (d := d_first_memory) rfl
  obtain ⟨fd_driver_by, D_driver_by⟩ := d.def_ 32 (d := d_driver_by) rfl
  obtain ⟨fd_parts_behind, D_parts_behind⟩ := d.def_ 33 (d := d_parts_behind) rfl
  obtain ⟨fd_rounds_behind, D_rounds_behind⟩ := d.def_ 35 (d := d_rounds_behind) rfl
  obtain ⟨fd_memory_behind, D_memory_behind⟩ := d.def_ 36 (d := d_memory_behind) rfl
  obtain ⟨fd_Turns_init, D_Turns_init⟩ := d.def_ 37 (d := d_Turns_init) rfl
  obtain ⟨fd_Turns_check_riders, D_Turns_check_riders⟩ := d.def_ 40 (d := d_Turns_check_riders) rfl
  obtain ⟨fd_Turns_who, D_Turns_who⟩ := d.def_ 41 (d := d_Turns_who) rfl
  obtain ⟨fd_Turns_ride, D_Turns_ride⟩ := d.def_ 42 (d := d_Turns_ride) rfl
  obtain ⟨fd_Turns_stands, D_Turns_stands⟩ := d.def_ 43 (d := d_Turns_stands) rfl
  obtain ⟨fd_l_held, D_l_held⟩ := d.def_ 46 (d := d_l_held) rfl
  obtain ⟨fd_l_draw, D_l_draw⟩ := d.def_ 47 (d := d_l_draw) rfl
  obtain ⟨fd_l_names, D_l_names⟩ := d.def_ 48 (d := d_l_names) rfl
  obtain ⟨fd_l_low, D_l_low⟩ := d.def_ 49 (d := d_l_low) rfl
  obtain ⟨fd_l_add, D_l_add⟩ := d.def_ 50 (d := d_l_add) rfl
  obtain ⟨fd_l_pair, D_l_pair⟩ := d.def_ 51 (d := d_l_pair) rfl
  obtain ⟨fd_l_day, D_l_day⟩ := d.def_ 52 (d := d_l_day) rfl
  obtain ⟨fd_l_in_bound, D_l_in_bound⟩ := d.def_ 53 (d := d_l_in_bound) rfl
  obtain ⟨fd_l_sets, D_l_sets⟩ := d.def_ 54 (d := d_l_sets) rfl
  obtain ⟨fd_l_round_bound, D_l_round_bound⟩ := d.def_ 55 (d := d_l_round_bound) rfl
  obtain ⟨fd_l_days, D_l_days⟩ := d.def_ 56 (d := d_l_days) rfl
  obtain ⟨fd_law, D_law⟩ := d.def_ 57 (d := d_law) rfl
  have e := hfa.symm.trans gl_law
  cases e
  have bL := FunD.bindsA (ps := ["_law_script"]) D_law fun _ _ _ _ _ _ us hl => match us, hl with | [_], _ => rfl
  refine ⟨fd_law, fun s v => bL s [v] rfl, fun base _ _ => ?_⟩
  have b_is_whole : Binds K fd_is_whole ["thing"] [] := D_is_whole.bindsN fun _ _ _ _ _ _ us hl => match us, hl with | [_], _ => rfl
  have b_is_name : Binds K fd_is_name ["thing"] [] := D_is_name.bindsN fun _ _ _ _ _ _ us hl => match us, hl with | [_], _ => rfl
  have b_is_order : Binds K fd_is_order ["thing"] [] := D_is_order.bindsN fun _ _ _ _ _ _ us hl => match us, hl with | [_], _ => rfl
  have b_is_rule : Binds K fd_is_rule ["thing"] [] := D_is_rule.bindsN fun _ _ _ _ _ _ us hl => match us, hl with | [_], _ => rfl
  have b_sets_of : Binds K fd_sets_of ["order"] [] := D_sets_of.bindsN fun _ _ _ _ _ _ us hl => match us, hl with | [_], _ => rfl
  have b_row_of : Binds K fd_row_of ["sets"] [] := D_row_of.bindsN fun _ _ _ _ _ _ us hl => match us, hl with | [_], _ => rfl
  have b_common_part : Binds K fd_common_part ["one", "other"] [] := D_common_part.bindsN fun _ _ _ _ _ _ us hl => match us, hl with | [_, _], _ => rfl
  have b_Share_init : Binds K fd_Share_init ["self", "top", "bottom"] [] := by
    obtain ⟨ds, h1, h2⟩ := D_Share_init.binds1 (ps := ["self", "top", "bottom"]) 3 1 (List.cons_ne_nil _ _) rfl (fun T kV doc pm an cdv ct us its hl h1 => match us, hl, its, h1 with | [_, _, _], _, [_], _ => ⟨_, rfl, rfl⟩)
    cases h1
    exact h2
  obtain ⟨ds1_Share_init, v1_Share_init, b1_Share_init⟩ := D_Share_init.binds1 (ps := ["self", "top", "bottom"]) 2 0 (List.cons_ne_nil _ _) rfl (fun T kV doc pm an cdv ct us its hl h1 => match us, hl, its, h1 with | [_, _], _, [_], _ => ⟨_, rfl, rfl⟩)
  have b_Share_plus : Binds K fd_Share_plus ["self", "other"] [] := D_Share_plus.bindsN fun _ _ _ _ _ _ us hl => match us, hl with | [_, _], _ => rfl
  have b_total : Binds K fd_total ["shares", "start"] [] := by
    obtain ⟨ds, h1, h2⟩ := D_total.binds1 (ps := ["shares", "start"]) 2 1 (List.cons_ne_nil _ _) rfl (fun T kV doc pm an cdv ct us its hl h1 => match us, hl, its, h1 with | [_, _], _, [_], _ => ⟨_, rfl, rfl⟩)
    cases h1
    exact h2
  obtain ⟨ds1_total, v1_total, b1_total⟩ := D_total.binds1 (ps := ["shares", "start"]) 1 0 (List.cons_ne_nil _ _) rfl (fun T kV doc pm an cdv ct us its hl h1 => match us, hl, its, h1 with | [_], _, [_], _ => ⟨_, rfl, rfl⟩)
  have b_check_in_order : Binds K fd_check_in_order ["order", "name"] [] := D_check_in_order.bindsN fun _ _ _ _ _ _ us hl => match us, hl with | [_, _], _ => rfl
  have b_sets_with : Binds K fd_sets_with ["order", "name"] [] := D_sets_with.bindsN fun _ _ _ _ _ _ us hl => match us, hl with | [_, _], _ => rfl
  have b_round_bound : Binds K fd_round_bound ["order", "name"] [] := D_round_bound.bindsN fun _ _ _ _ _ _ us hl => match us, hl with | [_, _], _ => rfl
  have b_round_row : Binds K fd_round_row ["order", "name", "owed"] [] := by
    obtain ⟨ds, h1, h2⟩ := D_round_row.binds1 (ps := ["order", "name", "owed"]) 3 1 (List.cons_ne_nil _ _) rfl (fun T kV doc pm an cdv ct us its hl h1 => match us, hl, its, h1 with | [_, _, _], _, [_], _ => ⟨_, rfl, rfl⟩)
    cases h1
    exact h2
  obtain ⟨ds1_round_row, v1_round_row, b1_round_row⟩ := D_round_row.binds1 (ps := ["order", "name", "owed"]) 2 0 (List.cons_ne_nil _ _) rfl (fun T kV doc pm an cdv ct us its hl h1 => match us, hl, its, h1 with | [_, _], _, [_], _ => ⟨_, rfl, rfl⟩)
  have b_names_of : Binds K fd_names_of ["order", "riders"] [] := D_names_of.bindsN fun _ _ _ _ _ _ us hl => match us, hl with | [_, _], _ => rfl
  have b_first_memory : Binds K fd_first_memory ["rule"] [] := D_first_memory.bindsN fun _ _ _ _ _ _ us hl => match us, hl with | [_], _ => rfl
  have b_driver_by : Binds K fd_driver_by ["rule", "memory", "riders"] [] := D_driver_by.bindsN fun _ _ _ _ _ _ us hl => match us, hl with | [_, _, _], _ => rfl
  have b_parts_behind : Binds K fd_parts_behind ["order", "held", "riders", "driver"] [] := D_parts_behind.bindsN fun _ _ _ _ _ _ us hl => match us, hl with | [_, _, _, _], _ => rfl
  have b_rounds_behind : Binds K fd_rounds_behind ["order", "rounds", "riders"] [] := D_rounds_behind.bindsN fun _ _ _ _ _ _ us hl => match us, hl with | [_, _, _], _ => rfl
  have b_memory_behind : Binds K fd_memory_behind ["rule", "memory", "riders"] [] := D_memory_behind.bindsN fun _ _ _ _ _ _ us hl => match us, hl with | [_, _, _], _ => rfl
  have b_Turns_init : Binds K fd_Turns_init ["self", "rule"] [] := D_Turns_init.bindsN fun _ _ _ _ _ _ us hl => match us, hl with | [_, _], _ => rfl
  have b_Turns_check_riders : Binds K fd_Turns_check_riders ["self", "riders"] [] := D_Turns_check_riders.bindsN fun _ _ _ _ _ _ us hl => match us, hl with | [_, _], _ => rfl
  have b_Turns_who : Binds K fd_Turns_who ["self", "riders"] [] := D_Turns_who.bindsN fun _ _ _ _ _ _ us hl => match us, hl with | [_, _], _ => rfl
  have b_Turns_ride : Binds K fd_Turns_ride ["self", "riders"] [] := D_Turns_ride.bindsN fun _ _ _ _ _ _ us hl => match us, hl with | [_, _], _ => rfl
  have b_Turns_stands : Binds K fd_Turns_stands ["self"] [] := D_Turns_stands.bindsN fun _ _ _ _ _ _ us hl => match us, hl with | [_], _ => rfl
  have b_l_held : Binds K fd_l_held ["_law_script"] [] := D_l_held.bindsN fun _ _ _ _ _ _ us hl => match us, hl with | [_], _ => rfl
  have b_l_draw : Binds K fd_l_draw ["_law_held_here", "_law_many"] [] := D_l_draw.bindsN fun _ _ _ _ _ _ us hl => match us, hl with | [_, _], _ => rfl
  have b_l_names : Binds K fd_l_names ["_law_held_here", "_law_many"] [] := D_l_names.bindsN fun _ _ _ _ _ _ us hl => match us, hl with | [_, _], _ => rfl
  have b_l_low : Binds K fd_l_low ["_law_top", "_law_bottom"] [] := D_l_low.bindsN fun _ _ _ _ _ _ us hl => match us, hl with | [_, _], _ => rfl
  have b_l_add : Binds K fd_l_add ["_law_one", "_law_other"] [] := D_l_add.bindsN fun _ _ _ _ _ _ us hl => match us, hl with | [_, _], _ => rfl
  have b_l_pair : Binds K fd_l_pair ["_law_share"] [] := D_l_pair.bindsN fun _ _ _ _ _ _ us hl => match us, hl with | [_], _ => rfl
  have b_l_day : Binds K fd_l_day ["_law_held_here", "_law_order"] [] := D_l_day.bindsN fun _ _ _ _ _ _ us hl => match us, hl with | [_, _], _ => rfl
  have b_l_in_bound : Binds K fd_l_in_bound ["_law_pair_here", "_law_bound"] [] := D_l_in_bound.bindsN fun _ _ _ _ _ _ us hl => match us, hl with | [_, _], _ => rfl
  have b_l_sets : Binds K fd_l_sets ["_law_order", "_law_name"] [] := D_l_sets.bindsN fun _ _ _ _ _ _ us hl => match us, hl with | [_, _], _ => rfl
  have b_l_round_bound : Binds K fd_l_round_bound ["_law_order", "_law_name"] [] := D_l_round_bound.bindsN fun _ _ _ _ _ _ us hl => match us, hl with | [_, _], _ => rfl
  have b_l_days : Binds K fd_l_days ["_law_held_here", "_law_order"] [] := D_l_days.bindsN fun _ _ _ _ _ _ us hl => match us, hl with | [_, _], _ => rfl
  have b_law : Binds K fd_law ["_law_script"] [] := D_law.bindsN fun _ _ _ _ _ _ us hl => match us, hl with | [_], _ => rfl
  unfold xk GX.isB at x
  simp only [Bool.and_eq_true, decide_eq_true_eq] at x
  obtain ⟨y1, y2, y3, y4⟩ := x
  have IC : IsC K (He.ga K "Share") := ⟨He.eqO_ok y1, He.eqO_ok y2, y3, y4, by unfold PySem.W.kitOne; rw [if_pos (beq_self_eq_true _)]⟩
  have B : Bl mg := ⟨fr_isinstance, fr_int, fr_bool, fr_abs, fr_list, fr_range, fr_len⟩
  have B2 : Bl2 mg := ⟨fr_str, fr_all, fr_tuple, fr_set, fr_zip, fr_min, fr_enumerate⟩
  have T : Cl K mg (He.ga K "Share") := ⟨cls_Share, no_Share_top, no_Share_bottom, gl_Share⟩
  have TT : ClT K (He.ga K "Turns") := ⟨cls_Turns, no_Turns_rule, no_Turns_held, no_Turns_kept, no_Turns_past⟩
  have cW : CalW P w K mg base := cal_of (ok_whole D_is_whole B) gl_is_whole D_is_whole.kp b_is_whole
  have cNa : CalN P w K mg base := cal_of (ok_name D_is_name B B2 val_LONGEST_NAME) gl_is_name D_is_name.kp b_is_name
  have cOr := cal_of (ok_order D_is_order B B2 val_MOST_NAMES cNa) gl_is_order D_is_order.kp b_is_order
  have cRu := cal_of (ok_rule D_is_rule B B2 cOr) gl_is_rule D_is_rule.kp b_is_rule
  have cG : CalG P w K mg base := cal_of (ok_gcd D_common_part B) gl_common_part D_common_part.kp b_common_part
  have MS : MakS P w K mg base (He.ga K "Share") := ⟨_, _, _, _, mk_Share, ok_init D_Share_init cW cG T, T.g, b_Share_init, .nil⟩
  have M1 : MakS1 P w K mg base (He.ga K "Share") := ⟨_, _, _, _, mk_Share, ok_init D_Share_init cW cG T, T.g, b1_Share_init, v1_Share_init⟩
  have mP := met_of T.cl me_Share_plus ((ok_plus D_Share_plus MS T).imp fun _ _ _ _ => plusR) b_Share_plus
  have cTo : Cal P w K mg base 5 "total" (spTotal K (He.ga K "Share")) [.int 0] := ⟨_, _, _, _, ok_total D_total M1 mP, gl_total, D_total.kp, b1_total, v1_total⟩
  have cNo := cal_of (P := P) (w := w) (base := base) (ok_no D_names_of B2) gl_names_of D_names_of.kp b_names_of
  have cFm := cal_of (P := P) (w := w) (base := base) (mg := mg) (ok_fm D_first_memory) gl_first_memory D_first_memory.kp b_first_memory
  have cDb := cal_of (ok_db D_driver_by cNo) gl_driver_by D_driver_by.kp b_driver_by
  have cPb := cal_of (P := P) (w := w) (base := base) (ok_pb D_parts_behind B B2 val_RIDE_PARTS) gl_parts_behind D_parts_behind.kp b_parts_behind
  have cRb := cal_of (ok_rb D_rounds_behind B B2 fr_sorted cNo) gl_rounds_behind D_rounds_behind.kp b_rounds_behind
  have cMb := cal_of (ok_mb D_memory_behind cRb) gl_memory_behind D_memory_behind.kp b_memory_behind
  have MT : Mak P w K mg base 4 "Turns" (He.ga K "Turns") (spTi (He.ga K "Turns")) [] := ⟨_, _, _, _, mk_Turns, ok_ti D_Turns_init B2 TT cRu cFm, gl_Turns, b_Turns_init, .nil⟩
  have mC := met_of (P := P) (w := w) (base := base) TT.cl me_Turns_check_riders (ok_ck D_Turns_check_riders B B2 TT) b_Turns_check_riders
  have mW := met_of TT.cl me_Turns_who (ok_who D_Turns_who TT mC cDb) b_Turns_who
  have mR := met_of TT.cl me_Turns_ride (ok_ride D_Turns_ride TT mW cPb cMb) b_Turns_ride
  have mS := met_of TT.cl me_Turns_stands (ok_st D_Turns_stands B2 TT val_RIDE_PARTS MS) b_Turns_stands
  have cH := cal_of (P := P) (w := w) (base := base) (ok_held D_l_held B) gl__law_held D_l_held.kp b_l_held
  have cD : CalD P w K mg base := cal_of (ok_draw D_l_draw B) gl__law_draw D_l_draw.kp b_l_draw
  have cNm := cal_of (ok_names D_l_names B cD) gl__law_names D_l_names.kp b_l_names
  have cLo : CalL P w K mg base := cal_of (ok_low D_l_low B) gl__law_low D_l_low.kp b_l_low
  have cA := cal_of (ok_add D_l_add cLo) gl__law_add D_l_add.kp b_l_add
  have cP := cal_of (P := P) (w := w) (base := base) (ok_pair D_l_pair B T IC) gl__law_pair D_l_pair.kp b_l_pair
  have cDy := cal_of (ok_day D_l_day B fr_min cD) gl__law_day D_l_day.kp b_l_day
  have cSo := cal_of (P := P) (w := w) (base := base) (ok_so D_sets_of B) gl_sets_of D_sets_of.kp b_sets_of
  have cRo := cal_of (P := P) (w := w) (base := base) (ok_ro D_row_of B) gl_row_of D_row_of.kp b_row_of
  have cCi := cal_of (P := P) (w := w) (base := base) (mg := mg) (ok_ci D_check_in_order) gl_check_in_order D_check_in_order.kp b_check_in_order
  have cSw := cal_of (ok_sw D_sets_with cSo) gl_sets_with D_sets_with.kp b_sets_with
  have cRbd := cal_of (ok_rbd D_round_bound B MS cCi cSw cTo) gl_round_bound D_round_bound.kp b_round_bound
  have cRr := cal_of (ok_rr D_round_row B val_MOST_IN_ROW cCi cSw cRo) gl_round_row D_round_row.kp b_round_row
  have cIb := cal_of (P := P) (w := w) (base := base) (mg := mg) (ok_ib D_l_in_bound) gl__law_in_bound D_l_in_bound.kp b_l_in_bound
  have cLs := cal_of (P := P) (w := w) (base := base) (mg := mg) (ok_ls D_l_sets) gl__law_sets D_l_sets.kp b_l_sets
  have cLb := cal_of (ok_lb D_l_round_bound B cLs cA) gl__law_round_bound D_l_round_bound.kp b_l_round_bound
  have cDs := cal_of (ok_days D_l_days B cD cDy cRr) gl__law_days D_l_days.kp b_l_days
  exact ok_law D_law B B2 fr_dict cH cD cNm cP cIb cLb cRbd cDs MT mR mS
end K38
open PySem PySem.W PySem.Calls PyProof.Rows
set_option maxRecDepth 100000 in
set_option maxHeartbeats 0 in
theorem PySem.Challenge.cw_rideturns_k38_whole_nobody_beyond_by_rou_holds : PySem.Challenge.rw_rideturns_k38_whole_nobody_beyond_by_rou.Holds := by
  w_on; o_law
  refine HandSHeadRun.head_any (r := OpenLaw.row PySem.Challenge.rw_rideturns_k38_whole_nobody_beyond_by_rou) (q := view (OpenLaw.row PySem.Challenge.rw_rideturns_k38_whole_nobody_beyond_by_rou).prog [52]) (H := K38.hk) (ob := K38.ob) (M := 4000) (loose := K38.loose) (d := HandSHeadRun.topDef (OpenLaw.row PySem.Challenge.rw_rideturns_k38_whole_nobody_beyond_by_rou).prog 52) (kwd := []) K38.ob_eq
    (by kernel_rfl) (fun s => by kernel_rfl) K38.run_ (by kernel_rfl) (by kernel_rfl) (by kernel_rfl) (by rfl) (by first | assumption | decide +kernel) (by decide +kernel) ⟨rfl, rfl, rfl, rfl, rfl, by decide +kernel⟩ ?hw ?hc
  case hw => w_witness2
  case hc =>
    refine L2.walk_ofE (l := PySem.Challenge.rw_rideturns_k38_whole_nobody_beyond_by_rou) (n := 63) (k := 7) (x := "_law_script") (CX := L2.CX0) rfl (by decide) (by kernel_rfl) ⟨rfl, by decide, by decide⟩ ?F (fun _ _ _ _ z => z)
    intro w mg fa h Y G hmg0
    obtain ⟨K, KX, c⟩ := Y
    have hmg : mg ("law" : PySem.Str) = some (.ref fa) := by
      have e : (HandSHeadRun.topDef (OpenLaw.row PySem.Challenge.rw_rideturns_k38_whole_nobody_beyond_by_rou).prog 52).name = ("law" : PySem.Str) := by kernel_rfl
      rw [← e]
      exact hmg0
    obtain ⟨fd, hb, hF⟩ := K38.facts (P := (PySem.Challenge.rw_rideturns_k38_whole_nobody_beyond_by_rou).prog) (w := w) KX G hmg c
    exact ⟨K, fd, K38.spLaw K, KX, hb, fun H a ns hl _ hS => ⟨a, ns, rfl, hS, hl, fun _ => rfl⟩, hF⟩
