import PyProof.Rows.All
import Wide.All
import OpenK.AllK
import Wide.FinOn
import HandS.ForMost
import HandS.ForExc
import HandS.Defaults
import HandS.Codes
import HandS.IsInst
import HandS.Wide
import HandS.Flow
import HandS.Evl
import HandS.Steps
import HandS.ExcField
import HandS.Head0
import HandS.Head1
import HandS.Head2
import HandS.HeadEnd
import HandS.HeadHook1
import HandS.HeadHook2
import HandS.HeadHook3
import HandS.HeadHook4
import KE.KExcInit
import HandS.ExcInit
import HandS.Words
import HandS.MakeKw
import HandS.MakeKwOnly
import HandS.Strs
import KE.KLam
import KE.DataMinKey
import HandS.Dict
import HandS.Lambda
import HandS.HeadWalk
import KE.KEqSeq
import HandS.Style
import HandS.Comp
import HandS.Text
import HandS.More
import PyProof.StrOps2
import HandS.Walk
import HandS.StrMore
import HandS.Zip
import HandS.DictComp
import HandS.NestedK
import PySem.Challenge.RW_rideturns_k35_whole_nobody_beyond_by_the
set_option Elab.async false
set_option linter.all false
set_option maxRecDepth 100000
set_option maxHeartbeats 4000000
namespace K35
open PySem PySem.Spec PyProof.Rows L2
def top (i : Nat) : Stmt := PySem.Challenge.pw_rideturns_k35_whole_nobody_beyond_by_the.main.body.getD i (.Pass ⟨0, 0, 0, 0⟩)
abbrev s__wall : Stmt := top 0
abbrev N__wall : List Str := ["k"]
theorem sc__wall : FnScope N__wall ["k"] (defScope s__wall) := ⟨rfl, rfl, rfl, by decide +kernel, rfl, by decide +kernel, by decide +kernel⟩
def d__wall : He.DefD := ⟨("_wall", none), "_wall", "_wall", defArgs s__wall, defBody s__wall, defScope s__wall, [], []⟩
abbrev s_NoKind_init : Stmt := inClass (top 2) 0
abbrev N_NoKind_init : List Str := ["self", "thing"]
theorem sc_NoKind_init : FnScope N_NoKind_init ["self", "thing"] (defScope s_NoKind_init) := ⟨rfl, rfl, rfl, by decide +kernel, rfl, by decide +kernel, by decide +kernel⟩
def d_NoKind_init : He.DefD := ⟨("NoKind", some "__init__"), "__init__", "NoKind.__init__", defArgs s_NoKind_init, defBody s_NoKind_init, defScope s_NoKind_init, [], []⟩
abbrev s_Nought_init : Stmt := inClass (top 3) 0
abbrev N_Nought_init : List Str := ["self", "top"]
theorem sc_Nought_init : FnScope N_Nought_init ["self", "top"] (defScope s_Nought_init) := ⟨rfl, rfl, rfl, by decide +kernel, rfl, by decide +kernel, by decide +kernel⟩
def d_Nought_init : He.DefD := ⟨("Nought", some "__init__"), "__init__", "Nought.__init__", defArgs s_Nought_init, defBody s_Nought_init, defScope s_Nought_init, [], []⟩
abbrev s_NoName_init : Stmt := inClass (top 4) 0
abbrev N_NoName_init : List Str := ["self", "name"]
theorem sc_NoName_init : FnScope N_NoName_init ["self", "name"] (defScope s_NoName_init) := ⟨rfl, rfl, rfl, by decide +kernel, rfl, by decide +kernel, by decide +kernel⟩
def d_NoName_init : He.DefD := ⟨("NoName", some "__init__"), "__init__", "NoName.__init__", defArgs s_NoName_init, defBody s_NoName_init, defScope s_NoName_init, [], []⟩
abbrev s_NoRule_init : Stmt := inClass (top 5) 0
abbrev N_NoRule_init : List Str := ["self", "thing"]
theorem sc_NoRule_init : FnScope N_NoRule_init ["self", "thing"] (defScope s_NoRule_init) := ⟨rfl, rfl, rfl, by decide +kernel, rfl, by decide +kernel, by decide +kernel⟩
def d_NoRule_init : He.DefD := ⟨("NoRule", some "__init__"), "__init__", "NoRule.__init__", defArgs s_NoRule_init, defBody s_NoRule_init, defScope s_NoRule_init, [], []⟩
abbrev s_is_whole : Stmt := top 8
abbrev N_is_whole : List Str := ["thing"]
theorem sc_is_whole : FnScope N_is_whole ["thing"] (defScope s_is_whole) := ⟨rfl, rfl, rfl, by decide +kernel, rfl, by decide +kernel, by decide +kernel⟩
def d_is_whole : He.DefD := ⟨("is_whole", none), "is_whole", "is_whole", defArgs s_is_whole, defBody s_is_whole, defScope s_is_whole, [], []⟩
abbrev s_is_between : Stmt := top 9
abbrev N_is_between : List Str := ["thing", "low", "high"]
theorem sc_is_between : FnScope N_is_between ["thing", "low", "high"] (defScope s_is_between) := ⟨rfl, rfl, rfl, by decide +kernel, rfl, by decide +kernel, by decide +kernel⟩
def d_is_between : He.DefD := ⟨("is_between", none), "is_between", "is_between", defArgs s_is_between, defBody s_is_between, defScope s_is_between, [], []⟩
abbrev s_is_name : Stmt := top 10
abbrev N_is_name : List Str := ["thing", "sign"]
theorem sc_is_name : FnScope N_is_name ["thing"] (defScope s_is_name) := ⟨rfl, rfl, rfl, by decide +kernel, rfl, by decide +kernel, by decide +kernel⟩
def d_is_name : He.DefD := ⟨("is_name", none), "is_name", "is_name", defArgs s_is_name, defBody s_is_name, defScope s_is_name, [], []⟩
abbrev s_is_order : Stmt := top 14
abbrev N_is_order : List Str := ["thing", "name"]
theorem sc_is_order : FnScope N_is_order ["thing"] (defScope s_is_order) := ⟨rfl, rfl, rfl, by decide +kernel, rfl, by decide +kernel, by decide +kernel⟩
def d_is_order : He.DefD := ⟨("is_order", none), "is_order", "is_order", defArgs s_is_order, defBody s_is_order, defScope s_is_order, [], []⟩
abbrev s_is_rule : Stmt := top 15
abbrev N_is_rule : List Str := ["thing"]
theorem sc_is_rule : FnScope N_is_rule ["thing"] (defScope s_is_rule) := ⟨rfl, rfl, rfl, by decide +kernel, rfl, by decide +kernel, by decide +kernel⟩
def d_is_rule : He.DefD := ⟨("is_rule", none), "is_rule", "is_rule", defArgs s_is_rule, defBody s_is_rule, defScope s_is_rule, [], []⟩
abbrev s_common_part : Stmt := top 17
abbrev N_common_part : List Str := ["one", "other"]
theorem sc_common_part : FnScope N_common_part ["one", "other"] (defScope s_common_part) := ⟨rfl, rfl, rfl, by decide +kernel, rfl, by decide +kernel, by decide +kernel⟩
def d_common_part : He.DefD := ⟨("common_part", none), "common_part", "common_part", defArgs s_common_part, defBody s_common_part, defScope s_common_part, [], []⟩
abbrev s_Share_init : Stmt := inClass (top 18) 0
abbrev N_Share_init : List Str := ["self", "top", "bottom", "thing", "common"]
theorem sc_Share_init : FnScope N_Share_init ["self", "top", "bottom"] (defScope s_Share_init) := ⟨rfl, rfl, rfl, by decide +kernel, rfl, by decide +kernel, by decide +kernel⟩
def d_Share_init : He.DefD := ⟨("Share", some "__init__"), "__init__", "Share.__init__", defArgs s_Share_init, defBody s_Share_init, defScope s_Share_init, [.int 1], []⟩
abbrev s_Share_eq : Stmt := inClass (top 18) 1
abbrev N_Share_eq : List Str := ["self", "other"]
theorem sc_Share_eq : FnScope N_Share_eq ["self", "other"] (defScope s_Share_eq) := ⟨rfl, rfl, rfl, by decide +kernel, rfl, by decide +kernel, by decide +kernel⟩
def d_Share_eq : He.DefD := ⟨("Share", some "__eq__"), "__eq__", "Share.__eq__", defArgs s_Share_eq, defBody s_Share_eq, defScope s_Share_eq, [], []⟩
abbrev s_Share_str : Stmt := inClass (top 18) 2
abbrev N_Share_str : List Str := ["self"]
theorem sc_Share_str : FnScope N_Share_str ["self"] (defScope s_Share_str) := ⟨rfl, rfl, rfl, by decide +kernel, rfl, by decide +kernel, by decide +kernel⟩
def d_Share_str : He.DefD := ⟨("Share", some "__str__"), "__str__", "Share.__str__", defArgs s_Share_str, defBody s_Share_str, defScope s_Share_str, [], []⟩
abbrev s_Share_repr : Stmt := inClass (top 18) 3
abbrev N_Share_repr : List Str := ["self"]
theorem sc_Share_repr : FnScope N_Share_repr ["self"] (defScope s_Share_repr) := ⟨rfl, rfl, rfl, by decide +kernel, rfl, by decide +kernel, by decide +kernel⟩
def d_Share_repr : He.DefD := ⟨("Share", some "__repr__"), "__repr__", "Share.__repr__", defArgs s_Share_repr, defBody s_Share_repr, defScope s_Share_repr, [], []⟩
abbrev s_Share_plus : Stmt := inClass (top 18) 4
abbrev N_Share_plus : List Str := ["self", "other"]
theorem sc_Share_plus : FnScope N_Share_plus ["self", "other"] (defScope s_Share_plus) := ⟨rfl, rfl, rfl, by decide +kernel, rfl, by decide +kernel, by decide +kernel⟩
def d_Share_plus : He.DefD := ⟨("Share", some "plus"), "plus", "Share.plus", defArgs s_Share_plus, defBody s_Share_plus, defScope s_Share_plus, [], []⟩
abbrev s_Share_less : Stmt := inClass (top 18) 5
abbrev N_Share_less : List Str := ["self", "other"]
theorem sc_Share_less : FnScope N_Share_less ["self", "other"] (defScope s_Share_less) := ⟨rfl, rfl, rfl, by decide +kernel, rfl, by decide +kernel, by decide +kernel⟩
def d_Share_less : He.DefD := ⟨("Share", some "less"), "less", "Share.less", defArgs s_Share_less, defBody s_Share_less, defScope s_Share_less, [], []⟩
abbrev s_Share_times : Stmt := inClass (top 18) 6
abbrev N_Share_times : List Str := ["self", "many"]
theorem sc_Share_times : FnScope N_Share_times ["self", "many"] (defScope s_Share_times) := ⟨rfl, rfl, rfl, by decide +kernel, rfl, by decide +kernel, by decide +kernel⟩
def d_Share_times : He.DefD := ⟨("Share", some "times"), "times", "Share.times", defArgs s_Share_times, defBody s_Share_times, defScope s_Share_times, [], []⟩
abbrev s_Share_over : Stmt := inClass (top 18) 7
abbrev N_Share_over : List Str := ["self", "many"]
theorem sc_Share_over : FnScope N_Share_over ["self", "many"] (defScope s_Share_over) := ⟨rfl, rfl, rfl, by decide +kernel, rfl, by decide +kernel, by decide +kernel⟩
def d_Share_over : He.DefD := ⟨("Share", some "over"), "over", "Share.over", defArgs s_Share_over, defBody s_Share_over, defScope s_Share_over, [], []⟩
abbrev s_Share_below : Stmt := inClass (top 18) 8
abbrev N_Share_below : List Str := ["self", "other"]
theorem sc_Share_below : FnScope N_Share_below ["self", "other"] (defScope s_Share_below) := ⟨rfl, rfl, rfl, by decide +kernel, rfl, by decide +kernel, by decide +kernel⟩
def d_Share_below : He.DefD := ⟨("Share", some "below"), "below", "Share.below", defArgs s_Share_below, defBody s_Share_below, defScope s_Share_below, [], []⟩
abbrev s_Share_whole : Stmt := inClass (top 18) 9
abbrev N_Share_whole : List Str := ["self"]
theorem sc_Share_whole : FnScope N_Share_whole ["self"] (defScope s_Share_whole) := ⟨rfl, rfl, rfl, by decide +kernel, rfl, by decide +kernel, by decide +kernel⟩
def d_Share_whole : He.DefD := ⟨("Share", some "whole"), "whole", "Share.whole", defArgs s_Share_whole, defBody s_Share_whole, defScope s_Share_whole, [], []⟩
abbrev s_never_beyond : Stmt := top 20
abbrev N_never_beyond : List Str := ["many", "grain", "spare", "owed", "owes", "place", "step"]
theorem sc_never_beyond : FnScope N_never_beyond ["many", "grain"] (defScope s_never_beyond) := ⟨rfl, rfl, rfl, by decide +kernel, rfl, by decide +kernel, by decide +kernel⟩
def d_never_beyond : He.DefD := ⟨("never_beyond", none), "never_beyond", "never_beyond", defArgs s_never_beyond, defBody s_never_beyond, defScope s_never_beyond, [.int 0], []⟩
abbrev s_names_of : Stmt := top 23
abbrev N_names_of : List Str := ["order", "riders", "name"]
theorem sc_names_of : FnScope N_names_of ["order", "riders"] (defScope s_names_of) := ⟨rfl, rfl, rfl, by decide +kernel, rfl, by decide +kernel, by decide +kernel⟩
def d_names_of : He.DefD := ⟨("names_of", none), "names_of", "names_of", defArgs s_names_of, defBody s_names_of, defScope s_names_of, [], []⟩
abbrev s_first_memory : Stmt := top 24
abbrev N_first_memory : List Str := ["rule", "name"]
theorem sc_first_memory : FnScope N_first_memory ["rule"] (defScope s_first_memory) := ⟨rfl, rfl, rfl, by decide +kernel, rfl, by decide +kernel, by decide +kernel⟩
def d_first_memory : He.DefD := ⟨("first_memory", none), "first_memory", "first_memory", defArgs s_first_memory, defBody s_first_memory, defScope s_first_memory, [], []⟩
abbrev s_least_driver : Stmt := top 25
abbrev N_least_driver : List Str := ["rule", "held", "names", "grain", "name", "parts", "counts"]
theorem sc_least_driver : FnScope N_least_driver ["rule", "held", "names"] (defScope s_least_driver) := ⟨rfl, rfl, rfl, by decide +kernel, rfl, by decide +kernel, by decide +kernel⟩
def d_least_driver : He.DefD := ⟨("least_driver", none), "least_driver", "least_driver", defArgs s_least_driver, defBody s_least_driver, defScope s_least_driver, [], []⟩
abbrev s_driver_by : Stmt := top 26
abbrev N_driver_by : List Str := ["rule", "memory", "riders", "names", "gone", "same", "many"]
theorem sc_driver_by : FnScope N_driver_by ["rule", "memory", "riders"] (defScope s_driver_by) := ⟨rfl, rfl, rfl, by decide +kernel, rfl, by decide +kernel, by decide +kernel⟩
def d_driver_by : He.DefD := ⟨("driver_by", none), "driver_by", "driver_by", defArgs s_driver_by, defBody s_driver_by, defScope s_driver_by, [], []⟩
abbrev s_parts_behind : Stmt := top 27
abbrev N_parts_behind : List Str := ["order", "held", "riders", "driver", "behind", "name", "parts", "fare", "wage"]
theorem sc_parts_behind : FnScope N_parts_behind ["order", "held", "riders", "driver"] (defScope s_parts_behind) := ⟨rfl, rfl, rfl, by decide +kernel, rfl, by decide +kernel, by decide +kernel⟩
def d_parts_behind : He.DefD := ⟨("parts_behind", none), "parts_behind", "parts_behind", defArgs s_parts_behind, defBody s_parts_behind, defScope s_parts_behind, [], []⟩
abbrev s_line_behind : Stmt := top 28
abbrev N_line_behind : List Str := ["line", "riders", "driver", "name"]
theorem sc_line_behind : FnScope N_line_behind ["line", "riders", "driver"] (defScope s_line_behind) := ⟨rfl, rfl, rfl, by decide +kernel, rfl, by decide +kernel, by decide +kernel⟩
def d_line_behind : He.DefD := ⟨("line_behind", none), "line_behind", "line_behind", defArgs s_line_behind, defBody s_line_behind, defScope s_line_behind, [], []⟩
abbrev s_rounds_behind : Stmt := top 29
abbrev N_rounds_behind : List Str := ["order", "rounds", "riders", "names", "gone", "same", "many"]
theorem sc_rounds_behind : FnScope N_rounds_behind ["order", "rounds", "riders"] (defScope s_rounds_behind) := ⟨rfl, rfl, rfl, by decide +kernel, rfl, by decide +kernel, by decide +kernel⟩
def d_rounds_behind : He.DefD := ⟨("rounds_behind", none), "rounds_behind", "rounds_behind", defArgs s_rounds_behind, defBody s_rounds_behind, defScope s_rounds_behind, [], []⟩
abbrev s_memory_behind : Stmt := top 30
abbrev N_memory_behind : List Str := ["rule", "memory", "riders", "driver"]
theorem sc_memory_behind : FnScope N_memory_behind ["rule", "memory", "riders"] (defScope s_memory_behind) := ⟨rfl, rfl, rfl, by decide +kernel, rfl, by decide +kernel, by decide +kernel⟩
def d_memory_behind : He.DefD := ⟨("memory_behind", none), "memory_behind", "memory_behind", defArgs s_memory_behind, defBody s_memory_behind, defScope s_memory_behind, [], []⟩
abbrev s_Turns_init : Stmt := inClass (top 31) 0
abbrev N_Turns_init : List Str := ["self", "rule", "name"]
theorem sc_Turns_init : FnScope N_Turns_init ["self", "rule"] (defScope s_Turns_init) := ⟨rfl, rfl, rfl, by decide +kernel, rfl, by decide +kernel, by decide +kernel⟩
def d_Turns_init : He.DefD := ⟨("Turns", some "__init__"), "__init__", "Turns.__init__", defArgs s_Turns_init, defBody s_Turns_init, defScope s_Turns_init, [], []⟩
abbrev s_Turns_eq : Stmt := inClass (top 31) 1
abbrev N_Turns_eq : List Str := ["self", "other"]
theorem sc_Turns_eq : FnScope N_Turns_eq ["self", "other"] (defScope s_Turns_eq) := ⟨rfl, rfl, rfl, by decide +kernel, rfl, by decide +kernel, by decide +kernel⟩
def d_Turns_eq : He.DefD := ⟨("Turns", some "__eq__"), "__eq__", "Turns.__eq__", defArgs s_Turns_eq, defBody s_Turns_eq, defScope s_Turns_eq, [], []⟩
abbrev s_Turns_len : Stmt := inClass (top 31) 2
abbrev N_Turns_len : List Str := ["self"]
theorem sc_Turns_len : FnScope N_Turns_len ["self"] (defScope s_Turns_len) := ⟨rfl, rfl, rfl, by decide +kernel, rfl, by decide +kernel, by decide +kernel⟩
def d_Turns_len : He.DefD := ⟨("Turns", some "__len__"), "__len__", "Turns.__len__", defArgs s_Turns_len, defBody s_Turns_len, defScope s_Turns_len, [], []⟩
abbrev s_Turns_check_riders : Stmt := inClass (top 31) 3
abbrev N_Turns_check_riders : List Str := ["self", "riders", "at", "name"]
theorem sc_Turns_check_riders : FnScope N_Turns_check_riders ["self", "riders"] (defScope s_Turns_check_riders) := ⟨rfl, rfl, rfl, by decide +kernel, rfl, by decide +kernel, by decide +kernel⟩
def d_Turns_check_riders : He.DefD := ⟨("Turns", some "check_riders"), "check_riders", "Turns.check_riders", defArgs s_Turns_check_riders, defBody s_Turns_check_riders, defScope s_Turns_check_riders, [], []⟩
abbrev s_Turns_who : Stmt := inClass (top 31) 4
abbrev N_Turns_who : List Str := ["self", "riders"]
theorem sc_Turns_who : FnScope N_Turns_who ["self", "riders"] (defScope s_Turns_who) := ⟨rfl, rfl, rfl, by decide +kernel, rfl, by decide +kernel, by decide +kernel⟩
def d_Turns_who : He.DefD := ⟨("Turns", some "who"), "who", "Turns.who", defArgs s_Turns_who, defBody s_Turns_who, defScope s_Turns_who, [], []⟩
abbrev s_Turns_ride : Stmt := inClass (top 31) 5
abbrev N_Turns_ride : List Str := ["self", "riders", "driver"]
theorem sc_Turns_ride : FnScope N_Turns_ride ["self", "riders"] (defScope s_Turns_ride) := ⟨rfl, rfl, rfl, by decide +kernel, rfl, by decide +kernel, by decide +kernel⟩
def d_Turns_ride : He.DefD := ⟨("Turns", some "ride"), "ride", "Turns.ride", defArgs s_Turns_ride, defBody s_Turns_ride, defScope s_Turns_ride, [], []⟩
abbrev s_Turns_stands : Stmt := inClass (top 31) 6
abbrev N_Turns_stands : List Str := ["self", "name", "parts"]
theorem sc_Turns_stands : FnScope N_Turns_stands ["self"] (defScope s_Turns_stands) := ⟨rfl, rfl, rfl, by decide +kernel, rfl, by decide +kernel, by decide +kernel⟩
def d_Turns_stands : He.DefD := ⟨("Turns", some "stands"), "stands", "Turns.stands", defArgs s_Turns_stands, defBody s_Turns_stands, defScope s_Turns_stands, [], []⟩
abbrev s_Turns_drives : Stmt := inClass (top 31) 7
abbrev N_Turns_drives : List Str := ["self", "name"]
theorem sc_Turns_drives : FnScope N_Turns_drives ["self"] (defScope s_Turns_drives) := ⟨rfl, rfl, rfl, by decide +kernel, rfl, by decide +kernel, by decide +kernel⟩
def d_Turns_drives : He.DefD := ⟨("Turns", some "drives"), "drives", "Turns.drives", defArgs s_Turns_drives, defBody s_Turns_drives, defScope s_Turns_drives, [], []⟩
abbrev s_Turns_memory : Stmt := inClass (top 31) 8
abbrev N_Turns_memory : List Str := ["self", "parts"]
theorem sc_Turns_memory : FnScope N_Turns_memory ["self"] (defScope s_Turns_memory) := ⟨rfl, rfl, rfl, by decide +kernel, rfl, by decide +kernel, by decide +kernel⟩
def d_Turns_memory : He.DefD := ⟨("Turns", some "memory"), "memory", "Turns.memory", defArgs s_Turns_memory, defBody s_Turns_memory, defScope s_Turns_memory, [], []⟩
abbrev s_l_held : Stmt := top 33
abbrev N_l_held : List Str := ["_law_script"]
theorem sc_l_held : FnScope N_l_held ["_law_script"] (defScope s_l_held) := ⟨rfl, rfl, rfl, by decide +kernel, rfl, by decide +kernel, by decide +kernel⟩
def d_l_held : He.DefD := ⟨("_law_held", none), "_law_held", "_law_held", defArgs s_l_held, defBody s_l_held, defScope s_l_held, [], []⟩
abbrev s_l_draw : Stmt := top 34
abbrev N_l_draw : List Str := ["_law_held_here", "_law_many", "_law_found", "_law_at", "_law_cell", "_law_number"]
theorem sc_l_draw : FnScope N_l_draw ["_law_held_here", "_law_many"] (defScope s_l_draw) := ⟨rfl, rfl, rfl, by decide +kernel, rfl, by decide +kernel, by decide +kernel⟩
def d_l_draw : He.DefD := ⟨("_law_draw", none), "_law_draw", "_law_draw", defArgs s_l_draw, defBody s_l_draw, defScope s_l_draw, [], []⟩
abbrev s_l_names : Stmt := top 35
abbrev N_l_names : List Str := ["_law_held_here", "_law_many", "_law_letters", "_law_size", "_law_k", "_law_base", "_law_at", "_law_begin", "_law_step", "_law_lot", "_law_found", "_law_tail"]
theorem sc_l_names : FnScope N_l_names ["_law_held_here", "_law_many"] (defScope s_l_names) := ⟨rfl, rfl, rfl, by decide +kernel, rfl, by decide +kernel, by decide +kernel⟩
def d_l_names : He.DefD := ⟨("_law_names", none), "_law_names", "_law_names", defArgs s_l_names, defBody s_l_names, defScope s_l_names, [], []⟩
abbrev s_l_pair : Stmt := top 36
abbrev N_l_pair : List Str := ["_law_share", "_law_part"]
theorem sc_l_pair : FnScope N_l_pair ["_law_share"] (defScope s_l_pair) := ⟨rfl, rfl, rfl, by decide +kernel, rfl, by decide +kernel, by decide +kernel⟩
def d_l_pair : He.DefD := ⟨("_law_pair", none), "_law_pair", "_law_pair", defArgs s_l_pair, defBody s_l_pair, defScope s_l_pair, [], []⟩
abbrev s_l_day : Stmt := top 37
abbrev N_l_day : List Str := ["_law_held_here", "_law_order", "_law_many", "_law_left", "_law_found", "_law_turn"]
theorem sc_l_day : FnScope N_l_day ["_law_held_here", "_law_order"] (defScope s_l_day) := ⟨rfl, rfl, rfl, by decide +kernel, rfl, by decide +kernel, by decide +kernel⟩
def d_l_day : He.DefD := ⟨("_law_day", none), "_law_day", "_law_day", defArgs s_l_day, defBody s_l_day, defScope s_l_day, [], []⟩
abbrev s_l_in_bound : Stmt := top 38
abbrev N_l_in_bound : List Str := ["_law_pair_here", "_law_bound", "_law_owed", "_law_owes"]
theorem sc_l_in_bound : FnScope N_l_in_bound ["_law_pair_here", "_law_bound"] (defScope s_l_in_bound) := ⟨rfl, rfl, rfl, by decide +kernel, rfl, by decide +kernel, by decide +kernel⟩
def d_l_in_bound : He.DefD := ⟨("_law_in_bound", none), "_law_in_bound", "_law_in_bound", defArgs s_l_in_bound, defBody s_l_in_bound, defScope s_l_in_bound, [], []⟩
abbrev s_l_far : Stmt := top 39
abbrev N_l_far : List Str := ["_law_held_here", "_law_order", "_law_stands", "_law_hero", "_law_name", "_law_others", "_law_ranked", "_law_top", "_law_bottom", "_law_at", "_law_other", "_law_there", "_law_some"]
theorem sc_l_far : FnScope N_l_far ["_law_held_here", "_law_order", "_law_stands", "_law_hero"] (defScope s_l_far) := ⟨rfl, rfl, rfl, by decide +kernel, rfl, by decide +kernel, by decide +kernel⟩
def d_l_far : He.DefD := ⟨("_law_far", none), "_law_far", "_law_far", defArgs s_l_far, defBody s_l_far, defScope s_l_far, [], []⟩
abbrev s_law : Stmt := top 40
abbrev N_law : List Str := ["_law_script", "_law_held_here", "_law_order", "_law_turns", "_law_far_here", "_law_hero", "_law_rode", "_law_turn", "_law_riders", "_law_stands", "_law_bounds", "_law_owed", "_law_owes", "_law_bound", "_law_name"]
theorem sc_law : FnScope N_law ["_law_script"] (defScope s_law) := ⟨rfl, rfl, rfl, by decide +kernel, rfl, by decide +kernel, by decide +kernel⟩
def d_law : He.DefD := ⟨("law", none), "law", "law", defArgs s_law, defBody s_law, defScope s_law, [], []⟩
def fn : List He.DefD := [d__wall, d_NoKind_init, d_Nought_init, d_NoName_init, d_NoRule_init, d_is_whole, d_is_between, d_is_name, d_is_order, d_is_rule, d_common_part, d_Share_init, d_Share_eq, d_Share_str, d_Share_repr, d_Share_plus, d_Share_less, d_Share_times, d_Share_over, d_Share_below, d_Share_whole, d_never_beyond, d_names_of, d_first_memory, d_least_driver, d_driver_by, d_parts_behind, d_line_behind, d_rounds_behind, d_memory_behind, d_Turns_init, d_Turns_eq, d_Turns_len, d_Turns_check_riders, d_Turns_who, d_Turns_ride, d_Turns_stands, d_Turns_drives, d_Turns_memory, d_l_held, d_l_draw, d_l_names, d_l_pair, d_l_day, d_l_in_bound, d_l_far, d_law]
end K35
set_option Elab.async false
set_option linter.all false
set_option maxRecDepth 100000
set_option maxHeartbeats 4000000
/-! GX: own exceptions over any built-in base, whose own __init__ calls the base's and stores a field. -/
namespace GX
open PySem PySem.Spec PyProof.Rows L2

/-- what the written part tells of the class -/
structure Gx (K : PySem.W.Frag) (C : Addr) (bmB : List Value) (nid : String) : Prop where
  over : PySem.W.excOver K C bmB = true
  made : PySem.W.excInitIn K C bmB nid = true
  hasd : ∃ cd, PySem.W.clsIn K C = some cd ∧ cd.hasDict = true
  sets : PySem.W.findIn K (.ref C) "__setattr__" = some (some (.builtin "object.__setattr__"))
  base : PySem.W.subIn K (.ref C) (.type "BaseException") = some true
  typ : PySem.W.typeIn K (.ref C) = some (.type "type")
  keep : PySem.W.keepIn K (.ref C) = true

section
open Builtin Builtin.ObjectAttr
variable {prog : Program} {w : World} {A : Around} {R : Result → Shared → Prop} {hp : Heap} {g : Array GenState} {d : Drawn} {t : Nat} {os : OsState} {B : String} {bmB : List Value}
theorem first_store {K : PySem.W.Frag} {name : Str} {tk : Tok} {v : Value} {x C : Addr} {fv : Array Value} {cd : ClassData} (SF : StoreFacts B bmB "object.__setattr__" "object")
    (X : K.In hp) (hx : hp.get? x = some { cls := .ref C, data := .fields fv }) (ho : PySem.W.excOver K C bmB = true) (hc : PySem.W.clsIn K C = some cd) (hd : cd.hasDict = true)
    (hf : PySem.W.findIn K (.ref C) name = some none)
    (post : ∀ h' tk' dx, (∀ b o, b ≠ x → hp.get? b = some o → h'.get? b = some o) → hp.objs.size ≤ dx → dx ≠ x →
      h'.get? x = some { cls := .ref C, dict := some dx, data := .fields fv } → h'.Ns1 dx (fun y => if y = name then some v else none) → R (.ok (.ret .none)) ⟨h', g, d, tk', os⟩) :
    codeAny (model prog w) A (.call (.builtin "object.__setattr__") ⟨[.ref x, .str name tk, v], []⟩) R ⟨hp, g, d, t, os⟩ := by
  have inst : PySem.W.InstAt hp x { cls := .ref C, data := .fields fv } C none := ⟨hx, rfl, rfl, trivial⟩
  have far : x ≠ hp.objs.size := Nat.ne_of_lt (Heap.lt_size hx)
  have lc : PySem.W.Looks (model prog w) hp (classData C) cd := PySem.W.looks_clsIn X hc
  refine PySem.W.osa_openX (r := none) SF X inst ho (by unfold PySem.W.takerIn; rw [hf]; rfl) fun b => ?_
  dsimp only
  obtain ⟨n1, n2, n3, n4, n5, n6, n7, n8, n9, n10, n11⟩ := cd
  dsimp only at hd
  subst hd
  unfold storeInOwnDict ownDictForStores
  repeat (first | with_reducible refine PySem.HandSPX.store_in_new ?_ ?_ | with_reducible refine wpAny_loadPart_at hx ?_ | with_reducible refine lc.at ?_ | wp_step)
  · exact ⟨_, #[], _, (Heap.get?_update_ne _ _ _ _ far.symm).trans (Heap.get?_push_at rfl rfl), rfl, fun e he => absurd he (by simp), fun _ => rfl⟩
  · intro h' tk' hn hs
    have hx1 : (hp.push { cls := .type "dict", data := .dict #[] }).get? x = some { cls := .ref C, data := .fields fv } := Heap.get?_push_of_some _ hx
    refine post h' tk' hp.objs.size (fun b o hb hob => ?_) (Nat.le_refl _) far.symm ?_ hn
    · have e1 := hs.2 b (Nat.ne_of_lt (Heap.lt_size hob))
      rw [e1, Heap.get?_update_ne _ _ _ _ hb]
      exact Heap.get?_push_of_some _ hob
    · rw [hs.2 x far]
      exact Heap.get?_update_self _ hx1 rfl
end

section
variable {X : Cx} {pins : List (Addr × Obj)} {σ : L2.St} {H : Hp} {s : Shared} {a C dx : Addr} {f : Str} {y : V} {u : Value} {Q : Unit → Shared → Prop} {E : Value → Shared → Prop} {A : Around} {B : String} {bmB : List Value} {nid iid : String}
/-- self.f = y, the first store -/
theorem put_first (SF : StoreFacts B bmB "object.__setattr__" "object") (T : Gx X.K C bmB nid) (I : Inv X pins σ H s) (e : H a = some (exo a C none)) (hno : PySem.W.findIn X.K (.ref C) f = some none) (ry : RelV y u)
    (post : ∀ dx s', H dx = none → dx ≠ a → Inv X pins σ (upd (upd H dx (exd dx [(f, y)])) a (exo a C (some dx))) s' → Q () s') : wpAny (model X.prog X.w) A (setAttr (.ref a) f u) Q E s := by
  obtain ⟨cd, hcd, hdd⟩ := T.hasd
  obtain ⟨t1, at1⟩ := exo_at I.hok e
  obtain ⟨hp, g, d, t, os⟩ := s
  refine PySem.W.set_plain I.kIn (ox := { cls := .ref C, dict := none, data := .fields #[.ref t1, .none, .none, .none, .bool false, .none] }) (od := none) ⟨at1, rfl, rfl, trivial⟩ T.sets ?_
  refine first_store SF I.kIn at1 T.over hcd hdd hno (fun h' tk' dx kp dn dne hx hn => ?_)
  have fresh : H dx = none := I.hok.fresh dn
  have old : ∀ {b : Addr} {o : Obj}, hp.get? b = some o → b ≠ dx := fun {b o} q => Nat.ne_of_lt (Nat.lt_of_lt_of_le (Heap.lt_size q) dn)
  have other : ∀ {b : Addr}, H b = none → b ≠ a := fun {b} n z => by
    rw [z, e] at n
    cases n
  have un : Un X.fs [] H (upd (upd H dx (exd dx [(f, y)])) a (exo a C (some dx))) hp h' := {
    keep := fun b o q n _ _ => kp b o (other n) q
    slot := fun b o q n _ _ => ⟨o.slots, kp b o (other n) q⟩
    free := fun b o q n _ => by rw [upd_ne (other n), upd_ne (old q)]; exact n
    there := fun b o q _ => by
      by_cases hb : b = a
      · exact ⟨_, hb ▸ hx⟩
      · exact ⟨o, kp b o hb q⟩
    tups := fun b xs q => by rw [upd_ne (at_ne e q exo_tup), upd_ne (ne_of_none q fresh)]; exact q
    frzs := fun b o v q => by rw [upd_ne (at_ne e q exo_frz), upd_ne (ne_of_none q fresh)]; exact q
    tbls := fun b ps q => ⟨#[], by rw [upd_ne (at_ne e q exo_tbl), upd_ne (ne_of_none q fresh), q]; simp⟩ }
  refine post dx _ fresh dne (I.un (t' := tk') un fun b o q => ?_)
  by_cases hb : b = a
  · subst hb
    rw [upd_same] at q
    cases q
    exact exo_ok hx
  · rw [upd_ne hb] at q
    by_cases hd : b = dx
    · subst hd
      rw [upd_same] at q
      cases q
      exact exd_ok hn (relO_put (fs := []) ry fun g => True.intro)
    · rw [upd_ne hd] at q
      refine (I.hok b o q).stay (fun c v hc z => kp c v ?_ z) (fun c hc => ?_) (fun c xs hc => ?_)
      · rcases hc with hc | hc
        · exact hc ▸ hb
        · exact at_ne e hc exo_own
      · rw [upd_ne (at_ne e hc exo_own), upd_ne (ne_of_none hc fresh)]; exact hc
      · rw [upd_ne (at_ne e hc exo_tup), upd_ne (ne_of_none hc fresh)]; exact hc
/-- Base.__init__(self, ..) -/
theorem base_init {us : List Value} {Q : Value → Shared → Prop} (FB : ExcBaseFacts B nid iid bmB) (T : Gx X.K C bmB nid) (I : Inv X pins σ H s) (e : H a = some (exo a C none)) (hl : us.length ≤ sizeLine) (post : ∀ s', Inv X pins σ H s' → Q .none s') :
    wpAny (model X.prog X.w) A (call (.builtin iid) (.ref a :: us)) Q E s := by
  obtain ⟨nm, N, qn, bs, bm, hdct, sn, sub, ab, col, dd, k0, k1, k2, k3, k5, hC, hT⟩ := PySem.W.excInit_of I.kIn T.made
  obtain ⟨t1, at1⟩ := exo_at I.hok e
  obtain ⟨hp, g, d, t, os⟩ := s
  refine wpAny_call (PySem.HandSPX.init_base FB hT hC at1 hl fun h' t2 kp hx => ?_)
  have J := I.write (t' := t) (x := a) (e := a) (o := exo a C none) (by rw [e]; exact True.intro) (.inl rfl) kp ⟨_, hx⟩ (exo_ok hx)
  have same : upd H a (exo a C none) = H := funext fun b => by
    by_cases hb : b = a
    · rw [hb, upd_same, e]
    · rw [upd_ne hb]
  rw [same] at J
  exact post _ J
end

/-! ### readings and rules -/
/-- Base.__init__(self, ..) -/
def tBi (K : PySem.W.Frag) (bmB : List Value) (nid : String) (ta : TA) : TE := fun σ H Q => ta σ H fun vs H1 => ∃ (a C : Addr) (ws : List V), vs = .ref a :: ws ∧ ws.length ≤ 1000 ∧ Gx K C bmB nid ∧ H1 a = some (exo a C none) ∧ Q .non H1
/-- self.f = e, the first one -/
def tPf (K : PySem.W.Frag) (bmB : List Value) (nid : String) (f : Str) (to te : TE) : TS := fun D σ H => te σ H fun y H1 => to σ H1 fun x H2 => ∃ a C : Addr, x = .ref a ∧ Gx K C bmB nid ∧ PySem.W.findIn K (.ref C) f = some none ∧
  H2 a = some (exo a C none) ∧ ∀ dx, H2 dx = none → dx ≠ a → D.nx σ (upd (upd H2 dx (exd dx [(f, y)])) a (exo a C (some dx)))
section
variable {X : Cx} {o e : Expr} {es : List Expr} {to te : TE} {ta : TA} {f : Str} {p p' p1 p2 pos : Pos} {B nid iid : String} {bmB : List Value} {x : Str}
theorem pe_bi {pl : Sem Bool} (FB : ExcBaseFacts B nid iid bmB) (hg : Gl X x) (hm : X.mg x = none) (hv : bootBuiltins x = some (.type B)) (ty : typeOf (.type B) = pure (.type "type"))
    (vV : PySem.W.findCls X.K (.type B) (.type "type") "__init__" = some (.val (.builtin iid))) (hb : PySem.W.handedIn (.builtin iid) = true) (hst : Manifest.isStub B = false) (ha : PA X (e :: es) ta)
    (hc : eval (.Call (.Attribute (.Name x p1) "__init__" p2) (e :: es) [] pos) X.env = (do
      let ov ← eval (.Name x p1) X.env
      standAt p2.atName
      let (f, first) ← holding [ov] (getMethod ov "__init__" pl)
      callWith pos f first (backTo pos (starEach (e :: es) X.env)) (backToKw pos (keywordEach [] X.env))) := by rfl)
    (hn : x ≠ "__name__" := by decide) (hd : (x == ("__debug__" : Str)) = false := by decide)
    (he : starEach (e :: es) X.env = (false, eval e X.env) :: starEach es X.env := by rfl) (hpl : (backTo pos (starEach es X.env)).any (·.1) = false := by rfl) :
    PE X (.Call (.Attribute (.Name x p1) "__init__" p2) (e :: es) [] pos) (tBi X.K bmB nid ta) := by
  refine ⟨fun pins s σ H Q I h => ?_⟩
  refine PySem.W.methodCall_KW (ld_blt I hg hm hv ?_ hn hd) hc
  obtain ⟨m, fr⟩ := I.fr
  refine PySem.W.method_type fr I.ok.mod.kin ty hst vV hb ?_
  show wpAny _ _ (callWith pos (Value.builtin iid) [] (backTo pos (starEach (e :: es) X.env)) []) _ _ _
  refine PyProof.Rows.callWith_method1 (thn (ha.run pos pins _ σ H _ (I.tok _) h) fun us s1 hh => ?_) he hpl
  obtain ⟨vs, H1, I1, r1, a, C, ws, ev, hl, T, ea, q⟩ := hh
  subst ev
  cases r1 with
  | @cons _ u0 _ ur ra rw' =>
    obtain rfl : u0 = Value.ref a := ra
    have hlen : ur.length ≤ sizeLine := by
      have := Paired.length rw'
      rw [sizeLine_eq]
      omega
    exact base_init FB T I1 ea hlen fun s' J => ⟨.non, H1, J, rfl, q⟩
theorem ps_pf (SF : StoreFacts B bmB "object.__setattr__" "object") (ho : PE X o to) (he : PE X e te) (hs : swapsWith e (some (.Attribute o f p')) pos.line X.env = pure false := by rfl) : PS X (.Assign [.Attribute o f p'] e pos) (tPf X.K bmB nid f to te) := by
  refine ⟨fun pins s σ H D I h => ?_⟩
  refine plainObj_wpAny_Assign_Attribute (thn (he.run pins s σ H _ I h) fun v s1 h1 => ?_) hs
  obtain ⟨y, H1, I1, r1, q1⟩ := h1
  refine thn (ho.run pins s1 σ H1 _ I1 q1) fun u s2 h2 => ?_
  obtain ⟨z, H2, I2, r2, a, C, ex, T, hno, ea, q⟩ := h2
  subst ex
  obtain rfl : u = Value.ref a := r2
  exact put_first SF T I2 ea hno r1 fun dx s' n ne J => ⟨σ, _, J, q dx n ne⟩
/-- C(e, ..) as what is raised, C's own __init__ keeping sp -/
theorem pmk_gx {CX : CXT} {C fI : Addr} {k : Nat} {fd : FuncData} {ps : List Str} {sp : Sp} {ds : List Value} {dvs : List V} (FB : ExcBaseFacts B nid iid bmB) (T : Gx X.K C bmB nid) (iC : PySem.W.findIn X.K (.ref C) "__init__" = some (some (.ref fI)))
    (tI : PySem.W.typeIn X.K (.ref fI) = some (.type "function"))
    (F1 : FnOk X.prog X.w X.K X.mg X.base CX k fI fd ps sp) (hr : Room (k + 1) X.A) (hb : Binds X.K fd ps ds) (hd : Vals dvs ds) (hx : Passes CX X (fun _ _ _ => False)) (hg : Gl X x) (hm : X.mg x = some (.ref C)) (ha : PA X (e :: es) ta)
    (hdb : (x == ("__debug__" : Str)) = false := by decide) (he : starEach (e :: es) X.env = (false, eval e X.env) :: starEach es X.env := by rfl) (hpl : (backTo pos (starEach es X.env)).any (·.1) = false := by rfl) :
    PMk X (.Call (.Name x p) (e :: es) [] pos) (tMkO C sp dvs ta) := by
  intro pins s σ H Q I h
  refine wpAny_Call_Name_kw (ld_glob I hg hm ?_ hdb)
  refine PySem.W.callWith_K (h₀ := X.base) I.ok.mod.kin T.keep (thn (ha.run pos pins s σ H _ I h) fun us s1 hh => ?_) he hpl
  obtain ⟨vs, H1, I1, r1, hz, q1⟩ := hh
  refine ⟨I1.kIn, ?_⟩
  show wpAny _ _ (call (.ref C) us) _ _ _
  obtain ⟨nm, N, qn, bs, bm, hdct, sn, sub, ab, col, dd, k0, k1, k2, k3, k5, hC, hT⟩ := PySem.W.excInit_of I1.kIn T.made
  obtain ⟨hp, g, dr, tk, os⟩ := s1
  have big : hp.objs.size ≤ hp.objs.size + 1 := Nat.le_succ _
  have hq := q1 (hp.objs.size + 1) (I1.hok.fresh big)
  have kk : ∀ b o, hp.get? b = some o → ((hp.push (PySem.W.kdv_tup us)).push (PySem.HandSPX.excO C hp.objs.size)).get? b = some o := fun b o z =>
    Heap.get?_push_of_some _ (Heap.get?_push_of_some _ z)
  have there : ((hp.push (PySem.W.kdv_tup us)).push (PySem.HandSPX.excO C hp.objs.size)).get? (hp.objs.size + 1) = some (PySem.HandSPX.excO C hp.objs.size) := by heap_get
  have I2 := I1.laid (t' := tk) (a := hp.objs.size + 1) (o := exo (hp.objs.size + 1) C none) (h' := (hp.push (PySem.W.kdv_tup us)).push (PySem.HandSPX.excO C hp.objs.size)) kk big (exo_ok there)
  have r2 : Vals (V.ref (hp.objs.size + 1) :: (vs ++ dvs)) (Value.ref (hp.objs.size + 1) :: (us ++ ds)) := .cons rfl (r1.append hd)
  have hl : (Value.ref (hp.objs.size + 1) :: us ++ ds).length = ps.length := by
    have e1 := r2.length
    rw [F1.len _ _ _ _ hq] at e1
    exact e1.symm
  have few : us.length ≤ sizeLine := by
    have := Paired.length r1
    rw [sizeLine_eq]
    omega
  refine wpAny_call (PySem.HandSPX.call_own FB hT hC (PySem.W.looks_findIn I1.kIn iC) (fun self => PySem.W.bind_fn I1.kIn self tI) few (codeAny_mono
    (F1.run _ X.stack _ _ ⟨Value.ref (hp.objs.size + 1) :: us, []⟩ (Value.ref (hp.objs.size + 1) :: (us ++ ds)) _ _ (fun _ _ _ => False) (hr.make C us []) (I2.env0.make C us []) (hb _ (Value.ref (hp.objs.size + 1) :: us) I2.kIn hl) r2 hq) fun r s' hq' => ?_))
  cases r with
  | error er => exact hx pins σ _ _ er s' I2 hq'
  | ok fl =>
    cases fl with
    | ret u =>
      obtain ⟨v, H2, os2, bare2, un2, hok2, rv, ev, d, fs, ea, ed, hd1, q2⟩ := hq'
      subst ev
      obtain ⟨h2, g2, d2, t2, os'⟩ := s'
      exact ⟨rv, mk_end (raises_own T.base T.typ) I1 big kk un2 hok2 os2 bare2 ea ed hd1 q2⟩
    | next => exact False.elim hq'
    | brk => exact False.elim hq'
    | cont => exact False.elim hq'
end
/-! ### the head's look at such a class -/
def hasDB (K : PySem.W.Frag) (C : Addr) : Bool := match PySem.W.clsIn K C with
  | some cd => cd.hasDict
  | none => false
/-- Base.__init__, read off the class Base -/
def vvB (K : PySem.W.Frag) (B iid : String) : Bool := match PySem.W.findCls K (.type B) (.type "type") "__init__" with
  | some (.val (.builtin n)) => n == iid
  | _ => false
theorem vvB_ok {K : PySem.W.Frag} {B iid : String} (h : vvB K B iid = true) : PySem.W.findCls K (.type B) (.type "type") "__init__" = some (.val (.builtin iid)) := by
  unfold vvB at h
  split at h
  · rename_i n e
    rw [e, eq_of_beq h]
  · cases h
/-- what isinstance asks of an own class -/
def isB (K : PySem.W.Frag) (C : Addr) : Bool := He.eqO (PySem.W.findIn K (.ref C) "__class__") (some (some (.builtin "object.__class__"))) && (He.eqO (PySem.W.specialIn K (.builtin "object.__class__") "__get__") (some (some (.builtin "getset_descriptor.__get__"))) &&
  (decide (PySem.W.takesIn K (.builtin "object.__class__") = some true) && decide (PySem.W.mroIn K C (.type "object") = some true)))
def gxB (K : PySem.W.Frag) (C : Addr) (bmB : List Value) (nid : String) : Bool := PySem.W.excOver K C bmB && (PySem.W.excInitIn K C bmB nid && (hasDB K C &&
  (He.eqO (PySem.W.findIn K (.ref C) "__setattr__") (some (some (.builtin "object.__setattr__"))) && (decide (PySem.W.subIn K (.ref C) (.type "BaseException") = some true) &&
  (decide (PySem.W.typeIn K (.ref C) = some (.type "type")) && PySem.W.keepIn K (.ref C))))))
theorem gxB_ok {K : PySem.W.Frag} {C : Addr} {bmB : List Value} {nid : String} (h : gxB K C bmB nid = true) : Gx K C bmB nid := by
  unfold gxB at h
  simp only [Bool.and_eq_true, decide_eq_true_eq] at h
  obtain ⟨h1, h2, h3, h4, h5, h6, h7⟩ := h
  refine ⟨h1, h2, ?_, He.eqO_ok h4, h5, h6, h7⟩
  unfold hasDB at h3
  split at h3
  · rename_i cd e
    exact ⟨cd, e, h3⟩
  · cases h3
end GX
set_option linter.all false
namespace KM
/-- the signed common part -/
def sg (t b : Int) : Int := if b < 0 then -(Int.gcd t b : Int) else (Int.gcd t b : Int)
/-- a fraction in lowest terms -/
def low (t b : Int) : Int × Int := (t.fdiv (sg t b), b.fdiv (sg t b))
theorem gcd_pos {t b : Int} (h : b ≠ 0) : 0 < Int.gcd t b := Int.gcd_pos_of_ne_zero_right t h
theorem sg_ne {t b : Int} (h : b ≠ 0) : sg t b ≠ 0 := by
  have := gcd_pos (t := t) h
  unfold sg
  split <;> omega
theorem sg_dvd_left (t b : Int) : sg t b ∣ t := by
  unfold sg
  split
  · exact Int.neg_dvd.mpr (Int.gcd_dvd_left ..)
  · exact Int.gcd_dvd_left ..
theorem sg_dvd_right (t b : Int) : sg t b ∣ b := by
  unfold sg
  split
  · exact Int.neg_dvd.mpr (Int.gcd_dvd_right ..)
  · exact Int.gcd_dvd_right ..
theorem low_top {t b : Int} : sg t b * (low t b).1 = t := by
  show sg t b * t.fdiv (sg t b) = t
  rw [Int.fdiv_eq_ediv_of_dvd (sg_dvd_left t b)]
  exact Int.mul_ediv_cancel' (sg_dvd_left t b)
theorem low_bot {t b : Int} : sg t b * (low t b).2 = b := by
  show sg t b * b.fdiv (sg t b) = b
  rw [Int.fdiv_eq_ediv_of_dvd (sg_dvd_right t b)]
  exact Int.mul_ediv_cancel' (sg_dvd_right t b)
theorem sg_abs (t b : Int) : (sg t b).natAbs = Int.gcd t b := by
  unfold sg
  split <;> simp
theorem low_pos {t b : Int} (h : b ≠ 0) : 0 < (low t b).2 := by
  have e := low_bot (t := t) (b := b)
  have g := gcd_pos (t := t) h
  by_cases hb : b < 0
  · have hs : sg t b < 0 := by unfold sg; rw [if_pos hb]; omega
    refine Int.lt_of_not_ge fun hc => ?_
    have := Int.mul_nonneg_of_nonpos_of_nonpos (Int.le_of_lt hs) hc
    omega
  · have hs : 0 < sg t b := by unfold sg; rw [if_neg hb]; omega
    refine Int.lt_of_not_ge fun hc => ?_
    have := Int.mul_nonpos_of_nonneg_of_nonpos (Int.le_of_lt hs) hc
    omega
theorem low_cop {t b : Int} (h : b ≠ 0) : Int.gcd (low t b).1 (low t b).2 = 1 := by
  have e : Int.gcd (sg t b * (low t b).1) (sg t b * (low t b).2) = (sg t b).natAbs * Int.gcd (low t b).1 (low t b).2 := Int.gcd_mul_left ..
  rw [low_top, low_bot, sg_abs] at e
  have g := gcd_pos (t := t) h
  have : Int.gcd t b * Int.gcd (low t b).1 (low t b).2 = Int.gcd t b * 1 := by omega
  exact Nat.eq_of_mul_eq_mul_left g this
theorem low_id {t b : Int} (hb : 0 < b) (h : Int.gcd t b = 1) : low t b = (t, b) := by
  have e : sg t b = 1 := by unfold sg; rw [if_neg (by omega), h]; rfl
  unfold low
  rw [e]
  simp
theorem low_low {t b : Int} (h : b ≠ 0) : low (low t b).1 (low t b).2 = low t b := low_id (low_pos h) (low_cop h)
/-- the bottom stays: nothing is taken out -/
theorem low_same {t b : Int} (hb : 0 < b) (h : (low t b).2 = b) : low t b = (t, b) := by
  have e := low_bot (t := t) (b := b)
  rw [h] at e
  have e1 : sg t b * b = 1 * b := by omega
  have e2 := Int.eq_of_mul_eq_mul_right (Int.ne_of_gt hb) e1
  have e3 := low_top (t := t) (b := b)
  rw [e2] at e3
  refine Prod.ext ?_ h
  show (low t b).1 = t
  omega
theorem dvd_le {x y : Int} (h : x * y ≠ 0) : y.natAbs ≤ (x * y).natAbs := by
  rw [Int.natAbs_mul]
  have : x ≠ 0 := fun z => h (by rw [z, Int.zero_mul])
  exact Nat.le_mul_of_pos_left _ (by omega)
theorem low_top_le {t b : Int} (h : b ≠ 0) : (low t b).1.natAbs ≤ t.natAbs := by
  by_cases ht : t = 0
  · subst ht
    have e := low_top (t := 0) (b := b)
    rcases Int.mul_eq_zero.mp e with z | z
    · exact absurd z (sg_ne h)
    · rw [z]; exact Nat.le_refl _
  · have e := low_top (t := t) (b := b)
    have := dvd_le (x := sg t b) (y := (low t b).1) (by omega)
    rw [e] at this
    exact this
theorem low_bot_le {t b : Int} (h : b ≠ 0) : (low t b).2.natAbs ≤ b.natAbs := by
  have e := low_bot (t := t) (b := b)
  have := dvd_le (x := sg t b) (y := (low t b).2) (by omega)
  rw [e] at this
  exact this
theorem sg_le {t b : Int} (h : b ≠ 0) : (sg t b).natAbs ≤ b.natAbs := by
  have e := low_bot (t := t) (b := b)
  have := dvd_le (x := (low t b).2) (y := sg t b) (by rw [Int.mul_comm]; omega)
  rw [Int.mul_comm, e] at this
  exact this
/-- Euclid's turn over whole numbers from 0 on -/
theorem gcd_turn {a b : Int} (ha : 0 ≤ a) (hb : 0 < b) : Int.gcd b (a % b) = Int.gcd a b := by
  obtain ⟨m, rfl⟩ := Int.eq_ofNat_of_zero_le ha
  obtain ⟨n, rfl⟩ := Int.eq_ofNat_of_zero_le (Int.le_of_lt hb)
  show Nat.gcd (Int.natAbs (n : Int)) (Int.natAbs ((m : Int) % (n : Int))) = Nat.gcd (Int.natAbs (m : Int)) (Int.natAbs (n : Int))
  rw [← Int.natCast_emod, Int.natAbs_natCast, Int.natAbs_natCast, Int.natAbs_natCast, Nat.gcd_comm n, Nat.gcd_comm m n]
  exact (Nat.gcd_rec n m).symm
theorem gcd_succ (a : Int) : Int.gcd a (a + 1) = 1 := by
  have : Int.gcd (a + 1) a = Int.gcd 1 a := by
    rw [Int.add_comm, Int.gcd_add_self_left]
  rw [Int.gcd_comm, this, Int.gcd_comm]
  simp
end KM
set_option linter.all false
namespace KM
/-- top and bottom of a rational number -/
def pr (r : Rat) : Int × Int := (r.num, (r.den : Int))
theorem pr_inj {r s : Rat} (h : pr r = pr s) : r = s := by
  have h1 : r.num = s.num := congrArg Prod.fst h
  have h2 : (r.den : Int) = (s.den : Int) := congrArg Prod.snd h
  rw [← Rat.num_divInt_den r, ← Rat.num_divInt_den s, h1, h2]
theorem den_ne (r : Rat) : (r.den : Int) ≠ 0 := by
  have := r.den_nz
  omega
theorem den_pos (r : Rat) : 0 < (r.den : Int) := by
  have := r.den_nz
  omega
theorem low_eq {t b : Int} (h : b ≠ 0) : low t b = pr (Rat.divInt t b) := by
  have hp := low_pos (t := t) h
  have hc := low_cop (t := t) h
  obtain ⟨d, hd⟩ := Int.eq_ofNat_of_zero_le (Int.le_of_lt hp)
  have hd0 : d ≠ 0 := by
    intro z
    rw [z] at hd
    omega
  have hcop : (low t b).1.natAbs.Coprime d := by
    have : Int.gcd (low t b).1 (low t b).2 = 1 := hc
    rw [hd] at this
    exact this
  have e1 : Rat.divInt (low t b).1 (d : Int) = Rat.divInt t b := by
    rw [Rat.divInt_eq_divInt_iff (by omega) h, ← hd]
    have h1 := low_top (t := t) (b := b)
    have h2 := low_bot (t := t) (b := b)
    calc (low t b).1 * b = (low t b).1 * (sg t b * (low t b).2) := by rw [h2]
      _ = sg t b * (low t b).1 * (low t b).2 := by rw [← Int.mul_assoc, Int.mul_comm (low t b).1]
      _ = t * (low t b).2 := by rw [h1]
  have e2 : ({ num := (low t b).1, den := d, den_nz := hd0, reduced := hcop } : Rat) = Rat.divInt t b := by rw [Rat.mk_eq_divInt, e1]
  rw [← e2]
  exact Prod.ext rfl hd
theorem pr_plus (r s : Rat) : low ((pr r).1 * (pr s).2 + (pr s).1 * (pr r).2) ((pr r).2 * (pr s).2) = pr (r + s) := by
  show low (r.num * s.den + s.num * r.den) (r.den * s.den) = _
  rw [low_eq (Int.mul_ne_zero (den_ne r) (den_ne s)), ← Rat.divInt_add_divInt _ _ (den_ne r) (den_ne s), Rat.num_divInt_den, Rat.num_divInt_den]
theorem pr_less (r s : Rat) : low ((pr r).1 * (pr s).2 - (pr s).1 * (pr r).2) ((pr r).2 * (pr s).2) = pr (r - s) := by
  show low (r.num * s.den - s.num * r.den) (r.den * s.den) = _
  rw [low_eq (Int.mul_ne_zero (den_ne r) (den_ne s)), ← Rat.divInt_sub_divInt _ _ (den_ne r) (den_ne s), Rat.num_divInt_den, Rat.num_divInt_den]
theorem pr_times (r : Rat) (k : Int) : low ((pr r).1 * k) (pr r).2 = pr (r * (Rat.divInt k 1)) := by
  show low (r.num * k) r.den = _
  have e : Rat.divInt (r.num * k) (r.den : Int) = Rat.divInt r.num r.den * Rat.divInt k 1 := by rw [Rat.divInt_mul_divInt, Int.mul_one]
  rw [low_eq (den_ne r), e, Rat.num_divInt_den]
theorem pr_over (r : Rat) {k : Int} (h : k ≠ 0) : low (pr r).1 ((pr r).2 * k) = pr (r * (Rat.divInt 1 k)) := by
  show low r.num (r.den * k) = _
  have e : Rat.divInt r.num (r.den * k : Int) = Rat.divInt r.num r.den * Rat.divInt 1 k := by rw [Rat.divInt_mul_divInt, Int.mul_one]
  rw [low_eq (Int.mul_ne_zero (den_ne r) h), e, Rat.num_divInt_den]
theorem inv_k {k : Int} (h : k ≠ 0) : Rat.divInt k 1 * Rat.divInt 1 k = 1 := by
  rw [Rat.divInt_mul_divInt, Int.mul_one, Int.one_mul]
  exact Rat.divInt_self' h
theorem pr_lt (r s : Rat) : ((pr r).1 * (pr s).2 < (pr s).1 * (pr r).2) ↔ r < s := (Rat.lt_iff r s).symm
theorem pr_bot (r : Rat) : 0 < (pr r).2 := den_pos r
theorem add_back (r s : Rat) : r + s - s = r := by
  rw [Rat.sub_eq_add_neg, Rat.add_assoc, Rat.add_neg_cancel, Rat.add_zero]
theorem sub_back (r s : Rat) : r - s + s = r := by
  rw [Rat.sub_eq_add_neg, Rat.add_assoc, Rat.neg_add_cancel, Rat.add_zero]
theorem mul_back (r : Rat) {k : Int} (h : k ≠ 0) : r * Rat.divInt k 1 * Rat.divInt 1 k = r := by
  rw [Rat.mul_assoc, inv_k h, Rat.mul_one]
theorem div_back (r : Rat) {k : Int} (h : k ≠ 0) : r * Rat.divInt 1 k * Rat.divInt k 1 = r := by
  rw [Rat.mul_assoc, Rat.mul_comm (Rat.divInt 1 k), inv_k h, Rat.mul_one]
/-- small -/
def Sz (n : Nat) (r : Rat) : Prop := r.num.natAbs < 2 ^ n ∧ r.den < 2 ^ n
theorem Sz.mono {n m : Nat} {r : Rat} (h : Sz n r) (hm : n ≤ m) : Sz m r := ⟨Nat.lt_of_lt_of_le h.1 (Nat.pow_le_pow_right (by decide) hm), Nat.lt_of_lt_of_le h.2 (Nat.pow_le_pow_right (by decide) hm)⟩
theorem sz_of_low {t b : Int} {n : Nat} (hb : b ≠ 0) (h1 : t.natAbs < 2 ^ n) (h2 : b.natAbs < 2 ^ n) : Sz n (Rat.divInt t b) := by
  have e := low_eq (t := t) hb
  have e1 : (low t b).1 = (Rat.divInt t b).num := congrArg Prod.fst e
  have e2 : (low t b).2 = ((Rat.divInt t b).den : Int) := congrArg Prod.snd e
  have l1 := low_top_le (t := t) hb
  have l2 := low_bot_le (t := t) hb
  constructor
  · rw [← e1]; omega
  · have : ((low t b).2).natAbs < 2 ^ n := by omega
    rw [e2] at this
    simpa using this
theorem two_lt {x y n m : Nat} (h1 : x < 2 ^ n) (h2 : y < 2 ^ m) : x * y < 2 ^ (n + m) := by
  rw [Nat.pow_add]
  exact Nat.mul_lt_mul'' h1 h2
theorem sz_sum {a b c d : Int} {n m : Nat} (h1 : a.natAbs < 2 ^ n) (h2 : d.natAbs < 2 ^ m) (h3 : c.natAbs < 2 ^ m) (h4 : b.natAbs < 2 ^ n) : (a * d + c * b).natAbs < 2 ^ (n + m + 1) ∧ (a * d - c * b).natAbs < 2 ^ (n + m + 1) := by
  have e1 : (a * d).natAbs < 2 ^ (n + m) := by rw [Int.natAbs_mul]; exact two_lt h1 h2
  have e2 : (c * b).natAbs < 2 ^ (n + m) := by rw [Int.natAbs_mul, Nat.add_comm]; exact two_lt h3 h4
  have e3 : 2 ^ (n + m + 1) = 2 * 2 ^ (n + m) := by rw [Nat.pow_succ, Nat.mul_comm]
  omega
theorem sz_plus {n m : Nat} {r s : Rat} (hr : Sz n r) (hs : Sz m s) : Sz (n + m + 1) (r + s) ∧ Sz (n + m + 1) (r - s) := by
  have d1 : ((r.den : Int)).natAbs < 2 ^ n := by simpa using hr.2
  have d2 : ((s.den : Int)).natAbs < 2 ^ m := by simpa using hs.2
  have hd : ((r.den : Int) * s.den).natAbs < 2 ^ (n + m + 1) := by
    have : ((r.den : Int) * s.den).natAbs < 2 ^ (n + m) := by rw [Int.natAbs_mul]; exact two_lt d1 d2
    exact Nat.lt_of_lt_of_le this (Nat.pow_le_pow_right (by decide) (by omega))
  have hn := sz_sum hr.1 d2 hs.1 d1
  have ne := Int.mul_ne_zero (den_ne r) (den_ne s)
  constructor
  · have := sz_of_low ne hn.1 hd
    rw [← Rat.divInt_add_divInt _ _ (den_ne r) (den_ne s), Rat.num_divInt_den, Rat.num_divInt_den] at this
    exact this
  · have := sz_of_low ne hn.2 hd
    rw [← Rat.divInt_sub_divInt _ _ (den_ne r) (den_ne s), Rat.num_divInt_den, Rat.num_divInt_den] at this
    exact this
theorem sz_times {n m : Nat} {r : Rat} {k : Int} (hr : Sz n r) (hk : k.natAbs < 2 ^ m) : Sz (n + m) (r * Rat.divInt k 1) := by
  have e : r * Rat.divInt k 1 = Rat.divInt (r.num * k) r.den := by
    have : Rat.divInt (r.num * k) (r.den : Int) = Rat.divInt r.num r.den * Rat.divInt k 1 := by rw [Rat.divInt_mul_divInt, Int.mul_one]
    rw [this, Rat.num_divInt_den]
  rw [e]
  refine sz_of_low (den_ne r) (by rw [Int.natAbs_mul]; exact two_lt hr.1 hk) ?_
  have d1 : ((r.den : Int)).natAbs < 2 ^ n := by simpa using hr.2
  exact Nat.lt_of_lt_of_le d1 (Nat.pow_le_pow_right (by decide) (by omega))
theorem sz_over {n m : Nat} {r : Rat} {k : Int} (hr : Sz n r) (h : k ≠ 0) (hk : k.natAbs < 2 ^ m) : Sz (n + m) (r * Rat.divInt 1 k) := by
  have e : r * Rat.divInt 1 k = Rat.divInt r.num (r.den * k) := by
    have : Rat.divInt r.num (r.den * k : Int) = Rat.divInt r.num r.den * Rat.divInt 1 k := by rw [Rat.divInt_mul_divInt, Int.mul_one]
    rw [this, Rat.num_divInt_den]
  rw [e]
  have d1 : ((r.den : Int)).natAbs < 2 ^ n := by simpa using hr.2
  refine sz_of_low (Int.mul_ne_zero (den_ne r) h) (Nat.lt_of_lt_of_le hr.1 (Nat.pow_le_pow_right (by decide) (by omega))) ?_
  rw [Int.natAbs_mul]
  exact two_lt d1 hk
end KM
set_option Elab.async false
set_option linter.all false
set_option maxRecDepth 100000
set_option maxHeartbeats 4000000
/-! KW: calls by keywords alone: f(k = v, ..), o.m(k = v, ..). -/
namespace KW
open PySem PySem.Spec PyProof.Rows L2
section
variable {X : Cx} {k j : Nat} {C f : Addr} {fd : FuncData} {ps ks : List Str} {sp : Sp} {x m : Str} {p pos apos : Pos} {o : Expr} {kws : List Keyword} {ta : TE} {tk : TA} {g : List Value → List Value → List Value} {gV : List V → List V → List V}
theorem pe_cK (F : FnOk X.prog X.w X.K X.mg X.base CX0 k f fd ps sp) (hr : Room k X.A) (hg : Gl X x) (hm : X.mg x = some (.ref f)) (hk : PySem.W.keepIn X.K (.ref f) = true) (hb : KBn X.K fd ps 0 ks g gV) (hkw : PK X kws tk)
    (hall : (backToKw pos (keywordEach kws X.env)).all (·.1.isSome) = true := by rfl) (hks : (backToKw pos (keywordEach kws X.env)).filterMap (·.1) = ks := by rfl) (hdb : (x == ("__debug__" : Str)) = false := by decide)
    (hpl : ((backTo pos (starEach [] X.env)).any (·.1) || (backToKw pos (keywordEach kws X.env)).any (·.1.isNone)) = false := by rfl) :
    PE X (.Call (.Name x p) [] kws pos) (fun σ H Q => tk σ H fun zs H1 => zs.length = ks.length ∧ sp (gV [] zs) H1 Q E0) := by
  refine ⟨fun pins s σ H Q I h => wpAny_Call_Name_kw (ld_glob I hg hm (PySem.W.callWith_KW0 (h₀ := X.base) I.ok.mod.kin hk hall ?_ hpl) hdb)⟩
  refine thn (hkw.run pos pins s σ H _ I h) fun ws s2 ⟨zs, H2, I2, rz, l2, q2⟩ => ⟨I2.kIn, ?_⟩
  rw [hks]
  exact run_fnN (us := []) (vs := []) F hr hb (fun _ _ _ _ _ _ _ h => False.elim h) I2 .nil rz rfl l2 q2
theorem pe_mtK {pl : Sem Bool} (he : PE X o ta) (c : Cls X.K C) (hm : Meth X.K C m f) (F : FnOk X.prog X.w X.K X.mg X.base CX0 k f fd ps sp) (hr : Room k X.A) (hb : KBn X.K fd ps 1 ks g gV) (hkw : PK X kws tk)
    (hall : (backToKw pos (keywordEach kws X.env)).all (·.1.isSome) = true := by rfl) (hks : (backToKw pos (keywordEach kws X.env)).filterMap (·.1) = ks := by rfl)
    (hpl : ((backTo pos (starEach [] X.env)).any (·.1) || (backToKw pos (keywordEach kws X.env)).any (·.1.isNone)) = false := by rfl)
    (ht : eval (.Call (.Attribute o m apos) [] kws pos) X.env = (do
      let ov ← eval o X.env
      standAt apos.atName
      let (f, first) ← holding [ov] (getMethod ov m pl)
      callWith pos f first (backTo pos (starEach [] X.env)) (backToKw pos (keywordEach kws X.env))) := by rfl) :
    PE X (.Call (.Attribute o m apos) [] kws pos) (fun σ H Q => ta σ H fun x H1 => ∃ a dx fs, x = .ref a ∧ H1 a = some (.ins C dx fs) ∧ fs.lookup m = none ∧ tk σ H1 fun zs H2 => zs.length = ks.length ∧ sp (gV [.ref a] zs) H2 Q E0) := by
  refine ⟨fun pins s σ H Q I h => ?_⟩
  refine PySem.W.methodCall_KW (pl := pl) (thn (he.run pins s σ H _ I h) fun u s1 ⟨x, H1, I1, rx, a, dx, fs, ex, ea, l, q⟩ => ?_) ht
  subst ex
  obtain rfl : u = Value.ref a := rx
  refine getmeth_ok I1 ea c hm l (PySem.W.callWith_KW0 (first := [.ref a]) (h₀ := X.base) I.ok.mod.kin hm.kp hall ?_ hpl)
  refine thn (hkw.run pos pins s1 σ H1 _ I1 q) fun ws s2 ⟨zs, H2, I2, rz, l2, q2⟩ => ⟨I2.kIn, ?_⟩
  rw [hks]
  exact run_fnN (us := [.ref a]) (vs := [.ref a]) F hr hb (fun _ _ _ _ _ _ _ h => False.elim h) I2 (.cons rfl .nil) rz rfl l2 q2
end
end KW
set_option Elab.async false
set_option linter.all false
set_option maxRecDepth 100000
set_option maxHeartbeats 4000000
/-! KB: what a call by keywords binds, for a def without keyword-only parameters. -/
namespace KW
open PySem PySem.Spec PyProof.Rows L2
section
variable {K : PySem.W.Frag} {x qual : Str} {params : Arguments} {body : List Stmt} {scope : Scope} {dvs : List V} {kws : List (Str × V)} {f : Addr} {fd : FuncData} {ps : List Str}
theorem kb1 (F : FunD K x qual params body scope dvs kws f fd) (n : Nat) (ks : List Str) (g : {α : Type} → List α → List α → List α → List α) (hd : dvs ≠ [])
    (hrel : ∀ {vs ds zs : List V} {us its ws : List Value}, Vals vs us → Vals ds its → Vals zs ws → Vals (g vs ds zs) (g us its ws))
    (h : ∀ (T : Addr) (kV doc pm : Value) (an : Option Addr) (cdv ct : Value) (us its ws : List Value), us.length = n → its.length = dvs.length → ws.length = ks.length →
      ∃ k, bindArgs (PySem.W.fnOf x qual params body scope (.ref T) kV doc pm an cdv ct) ⟨us, ks.zip ws⟩ = seqItems? (.ref T) >>= k ∧ k (some its.toArray) = pure (ps.zip (g us its ws))) :
    ∃ its : List Value, KBn K fd ps n ks (fun us ws => g us its ws) (fun vs zs => g vs dvs zs) := by
  obtain ⟨oc, od, dV, kV, doc, pm, an, cdv, ct, osl, rfl, lk, hcd, hD, hK⟩ := F.ex
  rcases hD with ⟨e, _⟩ | ⟨_, T, o, its, m, rfl, lT, oT, rT⟩
  · exact absurd e hd
  · refine ⟨its, ⟨fun s us ws X l1 l2 => ?_, fun r1 r2 => hrel r1 rT r2⟩⟩
    obtain ⟨k, e1, e2⟩ := h T kV doc pm an cdv ct us its ws l1 rT.length.symm l2
    refine BindsTo.of_looks fun M => ?_
    rw [e1]
    exact looks_items X lT oT (.of_pure e2)
theorem kb0 (F : FunD K x qual params body scope [] kws f fd) (n : Nat) (ks : List Str) (g : {α : Type} → List α → List α → List α)
    (hrel : ∀ {vs zs : List V} {us ws : List Value}, Vals vs us → Vals zs ws → Vals (g vs zs) (g us ws))
    (h : ∀ (kV doc pm : Value) (an : Option Addr) (cdv ct : Value) (us ws : List Value), us.length = n → ws.length = ks.length →
      bindArgs (PySem.W.fnOf x qual params body scope .none kV doc pm an cdv ct) ⟨us, ks.zip ws⟩ = pure (ps.zip (g us ws))) :
    KBn K fd ps n ks (fun us ws => g us ws) (fun vs zs => g vs zs) := by
  obtain ⟨oc, od, dV, kV, doc, pm, an, cdv, ct, osl, rfl, lk, hcd, hD, hK⟩ := F.ex
  rcases hD with ⟨_, rfl⟩ | ⟨e, _⟩
  · exact ⟨fun s us ws X l1 l2 => .of_eq (h kV doc pm an cdv ct us ws l1 l2), fun r1 r2 => hrel r1 r2⟩
  · exact absurd rfl e
end
end KW
set_option Elab.async false
set_option linter.all false
set_option maxRecDepth 100000
set_option maxHeartbeats 4000000
/-! NM: the names that a law draws: words by a base, a place, a spot and a way. -/
namespace NM
open PySem PySem.Spec
def ok (l : List Nat) : Prop := 1 ≤ l.length ∧ l.length ≤ 8 ∧ ∀ c ∈ l, 97 ≤ c ∧ c ≤ 122
def words : List (List Nat) := [[108, 97, 116, 101], [105, 110], [111, 117, 116], [114, 105, 100, 101], [104, 97, 110, 100], [108, 97, 99, 107], [121, 101, 115], [110, 111], [110, 97, 109, 101, 115], [103, 111, 110, 101], [116, 101, 120, 116], [112, 108, 97, 110], [117, 110, 100, 111], [117, 115, 117, 97, 108], [98, 97, 99, 107], [108, 101, 97, 118, 101]]
def lets : List Nat := (List.range 26).map (97 + ·)
def w0 (bs : List Nat) (at_ spot k : Nat) : List Nat := bs.take at_ ++ [97 + (spot + 5 * k) % 26] ++ bs.drop (at_ + 1)
def w1 (bs : List Nat) (at_ spot k : Nat) : List Nat := (w0 bs at_ spot k).take (bs.length - k % (bs.length - at_))
def w2 (spot k : Nat) : List Nat := (List.replicate 8 (97 + (spot + k / 8) % 26)).take (k % 8 + 1)
def w3 (spot k : Nat) : List Nat := words.getD ((spot + k) % 16) []
def word (bs : List Nat) (at_ spot way k : Nat) : List Nat := if way = 1 then w1 bs at_ spot k else if way = 2 then w2 spot k else if way = 3 then w3 spot k else w0 bs at_ spot k
theorem words_ok : ∀ i, i < 16 → ok (words.getD i []) := by
  have : ∀ i : Fin 16, 1 ≤ (words.getD i.1 []).length ∧ (words.getD i.1 []).length ≤ 8 ∧ (words.getD i.1 []).all (fun c => decide (97 ≤ c ∧ c ≤ 122)) = true := by decide +kernel
  intro i hi
  obtain ⟨h1, h2, h3⟩ := this ⟨i, hi⟩
  refine ⟨h1, h2, fun c hc => ?_⟩
  have := List.all_eq_true.mp h3 c hc
  exact of_decide_eq_true this
theorem words_inj : ∀ i j, i < 16 → j < 16 → words.getD i [] = words.getD j [] → i = j := by
  have : ∀ i j : Fin 16, words.getD i.1 [] = words.getD j.1 [] → i = j := by decide +kernel
  intro i j hi hj e
  exact congrArg Fin.val (this ⟨i, hi⟩ ⟨j, hj⟩ e)
section
variable {bs : List Nat} {at_ spot k : Nat}
theorem w0_len (h : at_ < bs.length) : (w0 bs at_ spot k).length = bs.length := by
  unfold w0
  simp only [List.length_append, List.length_take, List.length_drop, List.length_cons, List.length_nil]
  omega
theorem w0_at (h : at_ < bs.length) : (w0 bs at_ spot k)[at_]? = some (97 + (spot + 5 * k) % 26) := by
  unfold w0
  rw [List.append_assoc, List.getElem?_append_right (by rw [List.length_take]; omega), List.length_take, Nat.min_eq_left (by omega), Nat.sub_self]
  rfl
theorem w0_mem (hb : ∀ c ∈ bs, 97 ≤ c ∧ c ≤ 122) : ∀ c ∈ w0 bs at_ spot k, 97 ≤ c ∧ c ≤ 122 := by
  intro c hc
  unfold w0 at hc
  rcases List.mem_append.mp hc with hc | hc
  · rcases List.mem_append.mp hc with hc | hc
    · exact hb c (List.mem_of_mem_take hc)
    · rw [List.mem_singleton] at hc
      omega
  · exact hb c (List.mem_of_mem_drop hc)
theorem w1_len (h : at_ < bs.length) : at_ + 1 ≤ (w1 bs at_ spot k).length ∧ (w1 bs at_ spot k).length ≤ bs.length := by
  unfold w1
  rw [List.length_take, w0_len h]
  have := Nat.mod_lt k (show 0 < bs.length - at_ by omega)
  omega
theorem w1_at (h : at_ < bs.length) : (w1 bs at_ spot k)[at_]? = some (97 + (spot + 5 * k) % 26) := by
  have h1 := (w1_len (spot := spot) (k := k) h).1
  unfold w1 at h1 ⊢
  rw [List.length_take, w0_len h] at h1
  rw [List.getElem?_take_of_lt (by omega)]
  exact w0_at h
theorem spot_inj {i j : Nat} (hi : i < 16) (hj : j < 16) (e : 97 + (spot + 5 * i) % 26 = 97 + (spot + 5 * j) % 26) : i = j := by omega
theorem word_ok (hb0 : 1 ≤ bs.length) (hb8 : bs.length ≤ 8) (hb : ∀ c ∈ bs, 97 ≤ c ∧ c ≤ 122) (h : at_ < bs.length) (way : Nat) : ok (word bs at_ spot way k) := by
  unfold word
  split
  · have := w1_len (spot := spot) (k := k) h
    exact ⟨by omega, by omega, fun c hc => w0_mem hb c (List.mem_of_mem_take hc)⟩
  split
  · unfold w2
    refine ⟨by rw [List.length_take, List.length_replicate]; omega, by rw [List.length_take, List.length_replicate]; omega, fun c hc => ?_⟩
    have := List.eq_of_mem_replicate (List.mem_of_mem_take hc)
    omega
  split
  · exact words_ok _ (Nat.mod_lt _ (by decide))
  · exact ⟨by rw [w0_len h]; exact hb0, by rw [w0_len h]; exact hb8, w0_mem hb⟩
theorem word_inj (h : at_ < bs.length) (way : Nat) {i j : Nat} (hi : i < 16) (hj : j < 16) (e : word bs at_ spot way i = word bs at_ spot way j) : i = j := by
  unfold word at e
  split at e
  · have h1 := w1_at (spot := spot) (k := i) h
    rw [e, w1_at h] at h1
    exact (spot_inj hj hi (Option.some.inj h1)).symm
  split at e
  · unfold w2 at e
    have hl := congrArg List.length e
    rw [List.length_take, List.length_take, List.length_replicate, List.length_replicate] at hl
    have h0 : ((List.replicate 8 (97 + (spot + i / 8) % 26)).take (i % 8 + 1))[0]? = ((List.replicate 8 (97 + (spot + j / 8) % 26)).take (j % 8 + 1))[0]? := by rw [e]
    rw [List.getElem?_take_of_lt (by omega), List.getElem?_take_of_lt (by omega), List.getElem?_replicate, List.getElem?_replicate, if_pos (by decide), if_pos (by decide)] at h0
    have := Option.some.inj h0
    omega
  split at e
  · have := words_inj _ _ (Nat.mod_lt _ (by decide)) (Nat.mod_lt _ (by decide)) e
    omega
  · have h1 := w0_at (spot := spot) (k := i) h
    rw [e, w0_at h] at h1
    exact (spot_inj hj hi (Option.some.inj h1)).symm
/-- as many as are asked: unlike ones -/
theorem all_unlike (h : at_ < bs.length) (way n : Nat) (hn : n ≤ 16) : ((List.range n).map (word bs at_ spot way)).Pairwise (· ≠ ·) := by
  rw [List.pairwise_map]
  refine (List.pairwise_lt_range (n := n)).imp_of_mem fun {a b} ha hb hlt e => ?_
  have := word_inj h way (by have := List.mem_range.mp ha; omega) (by have := List.mem_range.mp hb; omega) e
  omega
end
end NM
set_option Elab.async false
set_option linter.all false
set_option maxRecDepth 100000
set_option maxHeartbeats 4000000
/-! ST: len(set(xs)) of unlike texts, xs a list or a tuple. -/
namespace ST
open PySem PySem.Spec PyProof.Rows
theorem not_yet {xs : List Str} (hn : xs.Nodup) {i : Nat} (h : i < xs.length) : ((xs.take i).any (· == xs.getD i Str.empty)) = false := by
  have e : xs.getD i Str.empty = xs[i] := by rw [List.getD_eq_getElem?_getD, List.getElem?_eq_getElem h]; rfl
  rw [e, List.any_eq_false]
  intro x hx z
  obtain ⟨j, hj, ej⟩ := List.getElem_of_mem hx
  have hji : j < i := by rw [List.length_take] at hj; omega
  rw [List.getElem_take] at ej
  exact List.pairwise_iff_getElem.mp hn j i (by omega) h hji (ej.trans (beq_iff_eq.mp z))
theorem one_more (xs : List Str) {i : Nat} (h : i < xs.length) (k : Str) : ((xs.take i).any (· == k) || decide (k = xs.getD i Str.empty)) = (xs.take (i + 1)).any (· == k) := by
  have e : xs.getD i Str.empty = xs[i] := by rw [List.getD_eq_getElem?_getD, List.getElem?_eq_getElem h]; rfl
  rw [e, List.take_add_one, List.getElem?_eq_getElem h, List.any_append]
  congr 1
  show decide (k = xs[i]) = [xs[i]].any (· == k)
  rw [List.any_cons, List.any_nil, Bool.or_false, Bool.eq_iff_iff, decide_eq_true_eq, beq_iff_eq]
  exact ⟨Eq.symm, Eq.symm⟩
section
variable {prog : Program} {w : World} {A : Around} {R : Result → Shared → Prop} {I S : Addr} {fp wr : List Addr} {G : Array GenState → Array GenState → Prop} {n : Nat} {P : Nat → Value → Prop} {St : Nat → Shared → Prop}
/-- the set of the first i of them stands at S -/
abbrev Has (prog : Program) (w : World) (S : Addr) (xs : List Str) (i : Nat) (h : Heap) : Prop := h.SetOf (PySem.strKind prog w) S (fun k => (xs.take i).any (· == k)) i
theorem Has.to {xs : List Str} {i : Nat} {h h' : Heap} (x : Has prog w S xs i h) (k : ∀ o, h.get? S = some o → h'.get? S = some o) : Has prog w S xs i h' := by
  obtain ⟨o, es, ep, t, ho, r⟩ := x
  exact ⟨o, es, ep, t, k o ho, r⟩
theorem walk (W : WalksS prog w A.in1 I fp wr G n P St) (hf : S ∉ fp) {xs : List Str} (hn : xs.Nodup) (hl : xs.length = n) (hb : n + 1 < scanBound) (hv : ∀ i v, P i v → ∃ t, v = .str (xs.getD i Str.empty) t) :
    ∀ (r i : Nat) (s : Shared), i + r = n → St i s → Has prog w S xs i s.heap → (∀ s', Moved (S :: wr) G s s' → Has prog w S xs n s'.heap → R (.ok (.ret .none)) s') →
      codeAny (model prog w) A (.builtin "set.update.loop" ⟨[.ref S, .ref I], []⟩) R s := by
  have nw : S ∉ wr := fun z => hf (W.sub _ z)
  have up : ∀ b ∈ wr, b ∈ S :: wr := fun b z => List.mem_cons_of_mem _ z
  intro r
  induction r with
  | zero =>
    intro i s e st hs fin
    cases (show i = n from e)
    refine codeAny_builtin PyProof.Rows.F.entry_set_update_loop ?_; rw [Around.under_plainId PyProof.Rows.F.plain_set_update_loop _]
    show wpAny _ A.in1 (pyNext (.ref I) >>= _) _ _ s; refine wpAny_bind (W.done s _ _ st fun s' m => ?_)
    exact wpAny_pure (fin s' (m.mono up) (hs.to fun o => m.heap S o nw))
  | succ r ih =>
    intro i s e st hs fin
    have li : i < n := by omega
    refine codeAny_builtin PyProof.Rows.F.entry_set_update_loop ?_; rw [Around.under_plainId PyProof.Rows.F.plain_set_update_loop _]
    show wpAny _ A.in1 (pyNext (.ref I) >>= _) _ _ s; refine wpAny_bind (W.item i s _ _ li st fun v s' pv st' m => ?_)
    obtain ⟨t, rfl⟩ := hv i v pv
    have hs' := hs.to fun o => m.heap S o nw
    show wpAny _ A.in1 (holding [Value.str (xs.getD i Str.empty) t] (setAdd S (.str (xs.getD i Str.empty) t)) >>= _) _ _ s'; refine wpAny_bind (wpAny_holding ?_)
    unfold setAdd
    refine wpAny_holding (wpAny_bind ((PySem.strKind prog w).pyHash (k := xs.getD i Str.empty) (strKind_is _ _ _ _) ?_))
    refine wpAny_setAddHashed_of (knd := PySem.strKind prog w) (s := { s' with toks := s'.toks + 1 }) (strKind_is _ _ _ _) rfl hs' (by omega) fun h' but h2 => ?_
    have hs2 : Has prog w S xs (i + 1) h' := SetOf_congr h2 (fun k => one_more xs (by omega) k) (by
      have z : (xs.take i).any (· == xs.getD i Str.empty) = false := not_yet hn (by omega)
      show (if (xs.take i).any (· == xs.getD i Str.empty) = true then i else i + 1) = i + 1
      rw [z]; rfl)
    refine wpAny_pure ⟨plainId_quiet PyProof.Rows.F.plain_set_update_loop _, ih (i + 1) _ (by omega) (W.frame _ s' _ _ st' (Nat.le_succ _) fun b hb o eo => ?_) hs2 fun s2 m2 h3 => ?_⟩
    · rw [but.2 b (fun z : b = S => hf (z ▸ hb))]
      exact eo
    · refine fin s2 (Moved.trans W.gtrans ((m.mono up).then_heap (Nat.le_succ _) fun b o hb eo => ?_) m2) h3
      rw [but.2 b (fun z : b = S => hb (z ▸ List.mem_cons_self))]
      exact eo
end
/-- a new set -/
abbrev fresh (led : Bool) : Obj := { cls := .type "set", dict := none, data := .set #[] 0 (.fresh 0 0 led) }
section
variable {prog : Program} {w : World} {A : Around} {E : Value → Shared → Prop} {s : Shared}
/-- how the call of set ends -/
abbrev EndOf (prog : Program) (w : World) (xs : List Str) (s : Shared) (s2 : Shared) : Prop := ∃ h' tk, s2 = { s with heap := h', toks := tk } ∧ Has prog w s.heap.objs.size xs xs.length h' ∧ ∀ b o, s.heap.get? b = some o → h'.get? b = some o
set_option maxHeartbeats 8000000 in
/-- set(xs), given what __init__ does with the new set -/
theorem call_by {l : Addr} {xs : List Str} {Q : Value → Shared → Prop}
    (hi : ∀ led : Bool, wpAny (model prog w) A.in1.in1 (Builtin.«set.__init__» ⟨[.ref s.heap.objs.size, .ref l], []⟩)
      (fun fin s' => match fin with | .done f => wants (fun r s₂ => r = .none ∧ EndOf prog w xs s s₂) E (.ok f) s' | .again c' => c'.quiet = true ∧ codeAny (model prog w) A.in1 c' (wants (fun r s₂ => r = .none ∧ EndOf prog w xs s s₂) E) s')
      (fun e s' => wants (fun r s₂ => r = .none ∧ EndOf prog w xs s s₂) E (.error e) s') { s with heap := s.heap.push (fresh led) })
    (h : ∀ s2, EndOf prog w xs s s2 → Q (.ref s.heap.objs.size) s2) : wpAny (model prog w) A (call (.type "set") [.ref l]) Q E s := by
  obtain ⟨c0, t0, mro0⟩ := PySem.F.called_set.mro
  have made0 := PySem.F.called_set.made; have sub0 := PySem.F.called_set.sub
  refine wpAny_call (codeAny_of_tree ?_); show wpAny _ _ (callAny (.type "set") _) _ _ _
  refine wpAny_pure ⟨Code.quiet_builtin _ (by decide +kernel), codeAny_builtin PySem.F.entry_type_call ?_⟩; rw [Around.under_plain (weight_type_call_type "set" [.ref l] []) rfl]
  have nt0 := PySem.F.called_set.notType; have cc0 := PySem.F.called_set.canCreate; have ct0 := PySem.F.typeCall_set_1 (.ref l)
  (repeat (any_goals (first | assumption | wp_step)))
  refine codeAny_mono (code_set_new_1 (.ref l) (E := E) (Q₁ := fun ob s1 => ∃ led : Bool, ob = .ref s.heap.objs.size ∧ s1 = { s with heap := s.heap.push (fresh led) }) fun led => ⟨led, rfl, rfl⟩) fun r s1 hr => ?_
  match r, hr with
  | .error e, hr => exact hr
  | .ok .next, hr => exact hr.elim
  | .ok .brk, hr => exact hr.elim
  | .ok .cont, hr => exact hr.elim
  | .ok (.ret ob), hr =>
    obtain ⟨led, rfl, rfl⟩ := hr
    have at0 : (s.heap.push (fresh led)).get? s.heap.objs.size = some (fresh led) := Heap.get?_push_size _ rfl
    have ty0 : Shared.TypeIs { s with heap := s.heap.push (fresh led) } (.ref s.heap.objs.size) "set" := ⟨_, at0, rfl⟩
    have lo0 := PySem.F.called_set.init.lookup; have bi0 := PySem.F.called_set.init.bind (.ref s.heap.objs.size)
    (repeat (any_goals (first | assumption | wp_step)))
    refine codeAny_mono (codeAny_call_builtin (R := wants (fun r s₂ => r = .none ∧ EndOf prog w xs s s₂) E) PySem.F.called_set.init.plain PySem.F.entry_set_init (check_set_init_1 ty0 (hi led))) fun r2 s2 hr2 => ?_
    match r2, hr2 with
    | .error e, hr2 => exact hr2
    | .ok .next, hr2 => exact hr2.elim
    | .ok .brk, hr2 => exact hr2.elim
    | .ok .cont, hr2 => exact hr2.elim
    | .ok (.ret v), hr2 =>
      obtain ⟨rfl, en⟩ := hr2
      have q := h s2 en
      obtain ⟨h', tk, rfl, h1, h2⟩ := en
      (repeat (any_goals (first | assumption | wp_step)))
set_option maxHeartbeats 8000000 in
theorem call_tup {l : Addr} {items : Array Value} {xs : List Str} {Q : Value → Shared → Prop} (hh : A.handled = none) (hl : s.heap.IsTuple l items) (hi : PyProof.Rows.StrsAre items.toList xs) (hn : xs.Nodup) (hb : xs.length + 1 < scanBound)
    (h : ∀ s2, EndOf prog w xs s s2 → Q (.ref s.heap.objs.size) s2) : wpAny (model prog w) A (call (.type "set") [.ref l]) Q E s := by
  refine call_by (xs := xs) (fun led => ?_) h
  obtain ⟨ol, ho, hc, nl, hd⟩ := hl
  obtain ⟨cl, dc, dt, sl⟩ := ol
  simp only at hc hd
  subst hc; subst hd
  have o1 : (s.heap.push (fresh led)).get? l = some { cls := .type "tuple", dict := dc, data := .seq items nl, slots := sl } := Heap.get?_push_of_some _ ho
  have l1 : (s.heap.push (fresh led)).IsTuple l items := ⟨_, o1, rfl, nl, rfl⟩
  have at0 : (s.heap.push (fresh led)).get? s.heap.objs.size = some (fresh led) := Heap.get?_push_size _ rfl
  have u1 := PySem.F.sub_tuple_set; have u2 := PySem.F.sub_tuple_frozenset; have u3 : (Value.type "tuple" == Value.type "dict") = false := by decide
  unfold Builtin.«set.__init__» noKeywords Builtin.Frozenset.updateFrom; generalize hp : pyIter = pit
  wp_walk
  subst hp
  refine wpAny_pyIter_tuple l1 (wpAny_bind (wpAny_runValue ?_))
  have ls : l < s.heap.objs.size := Heap.lt_size ho
  have h3 : A.in1.in1.in1.handled = none := by simp [hh]
  have ne1 : l ≠ (s.heap.push (fresh led)).objs.size := by rw [Heap.size_push]; exact Nat.ne_of_lt (Nat.lt_succ_of_lt ls)
  have nf : s.heap.objs.size ∉ [(s.heap.push (fresh led)).objs.size, l] := by
    rw [Heap.size_push]
    intro z
    simp only [List.mem_cons, List.not_mem_nil, or_false] at z
    rcases z with z | z
    · exact Nat.ne_of_lt (Nat.lt_succ_self _) z
    · exact Nat.ne_of_gt ls z
  have sz : xs.length = items.size := by rw [← StrsAre.len_eq hi, Array.length_toList]
  refine walk ((Walks.tuple h3 _ l ne1 items).toS) nf hn sz (by omega) (fun i v hv => SS.strs_at hi i v (by rw [Array.getElem?_toList]; exact hv)) items.size 0 _ (by omega) ⟨⟨_, Heap.get?_push_size _ rfl, rfl, rfl⟩, l1.push _⟩ ?_ ?_
  · exact PyProof.Rows.SetOf_congr ((PyProof.Rows.setObjOf_fresh (knd := PySem.strKind prog w) led).setOf (Heap.get?_push_of_some _ at0) (by unfold scanBound; omega)) (fun _ => rfl) rfl
  · intro s' hm hs'
    obtain ⟨h', g', d', tk', os'⟩ := s'
    cases (show g' = s.gens from hm.gens); cases (show d' = s.drawn from hm.drawn); cases (show os' = s.os from hm.os)
    show wpAny _ _ _ _ _ _
    refine wpAny_pure ?_
    show wpAny _ _ (ret Value.none) _ _ _
    refine wpAny_pure ⟨rfl, h', tk', rfl, by rw [sz]; exact hs', fun b o e => ?_⟩
    have lb : b < s.heap.objs.size := Heap.lt_size e
    refine hm.heap b o (fun z => ?_) (Heap.get?_push_of_some _ (Heap.get?_push_of_some _ e))
    rw [Heap.size_push] at z
    simp only [List.mem_cons, List.not_mem_nil, or_false] at z
    rcases z with z | z
    · exact Nat.ne_of_lt lb z
    · exact Nat.ne_of_lt (Nat.lt_succ_of_lt lb) z
set_option maxHeartbeats 8000000 in
theorem call_lst {l : Addr} {items : Array Value} {xs : List Str} {Q : Value → Shared → Prop} (hh : A.handled = none) (hl : s.heap.IsList l items) (hi : PyProof.Rows.StrsAre items.toList xs) (hn : xs.Nodup) (hb : xs.length + 1 < scanBound)
    (h : ∀ s2, EndOf prog w xs s s2 → Q (.ref s.heap.objs.size) s2) : wpAny (model prog w) A (call (.type "set") [.ref l]) Q E s := by
  refine call_by (xs := xs) (fun led => ?_) h
  obtain ⟨ol, ho, hc, nl, hd⟩ := hl
  obtain ⟨cl, dc, dt, sl⟩ := ol
  simp only at hc hd
  subst hc; subst hd
  have o1 : (s.heap.push (fresh led)).get? l = some { cls := .type "list", dict := dc, data := .seq items nl, slots := sl } := Heap.get?_push_of_some _ ho
  have l1 : (s.heap.push (fresh led)).IsList l items := ⟨_, o1, rfl, nl, rfl⟩
  have at0 : (s.heap.push (fresh led)).get? s.heap.objs.size = some (fresh led) := Heap.get?_push_size _ rfl
  have u1 := PySem.F.sub_list_set; have u2 := PySem.F.sub_list_frozenset; have u3 : (Value.type "list" == Value.type "dict") = false := by decide
  unfold Builtin.«set.__init__» noKeywords Builtin.Frozenset.updateFrom; generalize hp : pyIter = pit
  wp_walk
  subst hp
  refine wpAny_pyIter_list l1 (wpAny_bind (wpAny_runValue ?_))
  have ls : l < s.heap.objs.size := Heap.lt_size ho
  have h3 : A.in1.in1.in1.handled = none := by simp [hh]
  have ne1 : l ≠ (s.heap.push (fresh led)).objs.size := by rw [Heap.size_push]; exact Nat.ne_of_lt (Nat.lt_succ_of_lt ls)
  have nf : s.heap.objs.size ∉ [(s.heap.push (fresh led)).objs.size, l] := by
    rw [Heap.size_push]
    intro z
    simp only [List.mem_cons, List.not_mem_nil, or_false] at z
    rcases z with z | z
    · exact Nat.ne_of_lt (Nat.lt_succ_self _) z
    · exact Nat.ne_of_gt ls z
  have sz : xs.length = items.size := by rw [← StrsAre.len_eq hi, Array.length_toList]
  refine walk ((Walks.list h3 _ l ne1 items).toS) nf hn sz (by omega) (fun i v hv => SS.strs_at hi i v (by rw [Array.getElem?_toList]; exact hv)) items.size 0 _ (by omega) ⟨⟨_, Heap.get?_push_size _ rfl, rfl, rfl⟩, l1.push _⟩ ?_ ?_
  · exact PyProof.Rows.SetOf_congr ((PyProof.Rows.setObjOf_fresh (knd := PySem.strKind prog w) led).setOf (Heap.get?_push_of_some _ at0) (by unfold scanBound; omega)) (fun _ => rfl) rfl
  · intro s' hm hs'
    obtain ⟨h', g', d', tk', os'⟩ := s'
    cases (show g' = s.gens from hm.gens); cases (show d' = s.drawn from hm.drawn); cases (show os' = s.os from hm.os)
    show wpAny _ _ _ _ _ _
    refine wpAny_pure ?_
    show wpAny _ _ (ret Value.none) _ _ _
    refine wpAny_pure ⟨rfl, h', tk', rfl, by rw [sz]; exact hs', fun b o e => ?_⟩
    have lb : b < s.heap.objs.size := Heap.lt_size e
    refine hm.heap b o (fun z => ?_) (Heap.get?_push_of_some _ (Heap.get?_push_of_some _ e))
    rw [Heap.size_push] at z
    simp only [List.mem_cons, List.not_mem_nil, or_false] at z
    rcases z with z | z
    · exact Nat.ne_of_lt lb z
    · exact Nat.ne_of_lt (Nat.lt_succ_of_lt lb) z
end
end ST
namespace ST
open PySem PySem.Spec PyProof.Rows L2
section
variable {X : Cx}
/-- len(set(xs)): unlike texts -/
def tLenSet (K : PySem.W.Frag) (ta : TE) : TE := fun σ H Q => ta σ H fun x H1 => ∃ (l : Addr) (xs : List Str), x = .ref l ∧ (SqL K H1 l (xs.map V.str) ∨ SqT K H1 l (xs.map V.str)) ∧ xs.Nodup ∧ xs.length < 64 ∧ Q (.int xs.length) H1
theorem pe_lenSet {a : Expr} {ta : TE} {p p2 q pos : Pos} (hc : X.calm = true) (hg : Gl X "len") (hm : X.mg "len" = none) (hg2 : Gl X "set") (hm2 : X.mg "set" = none) (ha : PE X a ta)
    (na : starEach [a] X.env = (false, eval a X.env) :: starEach [] X.env := by rfl) : PE X (.Call (.Name "len" p) [.Call (.Name "set" p2) [a] [] q] [] pos) (tLenSet X.K ta) := by
  refine ⟨fun pins s σ H Q I h => Call_ (ld_blt I hg hm boot_len (PyProof.Rows.callWith_builtin1 (PyProof.Rows.args_cons (Call_ (ld_blt I hg2 hm2 boot_set ?_)) rfl) rfl rfl))⟩
  refine PyProof.Rows.callWith_type1 (PyProof.Rows.args_cons (thn (ha.run pins s σ H _ I h) fun v s1 ⟨x, H1, I1, r1, z1⟩ => PyProof.Rows.args_nil ?_) na) na rfl
  obtain ⟨l, xs, rfl, hs, hn, h6, q1⟩ := z1
  cases r1
  have sb : xs.length + 1 < scanBound := by unfold scanBound; omega
  have fin : ∀ s2, EndOf X.prog X.w xs s1 s2 → wpAny (model X.prog X.w) X.A (spliced (backTo pos (starEach [] X.env))) (fun vs s₂ => wpAny (model X.prog X.w) X.A (call (.builtin "len") (Value.ref s1.heap.objs.size :: vs)) (EP X pins σ Q) X.xe s₂) X.xe s2 := by
    rintro _ ⟨h', tk, rfl, hS, hk⟩
    refine PyProof.Rows.args_nil ?_
    obtain ⟨o, es, ep, t, ho, ex, hd, _, _, _, hf, hn⟩ := hS
    have I2 : Inv X pins σ H1 { s1 with heap := h', toks := tk } := I1.kept hk
    exact call_len_set ho ex hd hf (by rw [hn]; omega) ⟨.int xs.length, H1, I2.tok _, ⟨_, by rw [hn]⟩, q1⟩
  rcases hs with hs | hs
  · obtain ⟨its, r, pl, hz⟩ := I1.list hs
    exact call_lst (I1.ok.hd hc) pl.isList (by simpa using strsAre_of r) hn sb fin
  · obtain ⟨its, r, pl, hz⟩ := I1.tuple hs
    exact call_tup (I1.ok.hd hc) pl (by simpa using strsAre_of r) hn sb fin
end
end ST
set_option Elab.async false
set_option linter.all false
set_option maxRecDepth 100000
set_option maxHeartbeats 4000000
/-! LK: min(xs, key=lambda a: d[a]), xs a tuple of texts, d a dict of whole numbers that the lambda captures. -/
namespace LK
open PySem PySem.Spec PyProof.Rows L2
open LamX (Tabs ExtN TabB lam_make2)
/-- one parameter a, one captured name d -/
structure Lam1 (scope : Scope) (a d : Str) : Prop where
  kind : scope.kind = .function
  co : scope.isCoroutine = false
  gen : scope.isGenerator = false
  cell : ∀ y ∈ scope.names, y.2 ≠ .cell
  loc : scope.names.lookup a = some .local
  fre : scope.names.lookup d = some .free
  da : (a == ("__debug__" : Str)) = false
  dd : (d == ("__debug__" : Str)) = false
  dc : (d == ("__classdict__" : Str)) = false
section
variable {prog : Program} {w : World} {A : Around} {E : Value → Shared → Prop} {s : Shared}
/-- the lambda called with a text -/
theorem lam_get {f c' cc dd : Addr} {qual a d key : Str} {params : Arguments} {scope : Scope} {cl : List (Str × Addr)} {pm ctv : Value} {p1 p2 p3 : Pos} {vs : List (Key × Value)} {u : Value} {tk : Tok} {Q : Value → Shared → Prop} (L : Lam1 scope a d)
    (hdep : A.depth < recursionLimit) (hlim : s.heap.NoLimit) (hf : s.heap.get? f = some (PySem.W.kla_obj "<lambda>" qual params (.Subscript (.Name d p1) (.Name a p2) p3) scope cl pm c' ctv))
    (hc : ∃ (oc : Obj) (ws : Array Value) (t : Tok), s.heap.get? c' = some oc ∧ oc.data = .fields ws ∧ ws[1]? = some (.str qual t)) (hcl : cl.lookup d = some cc) (hcc : s.heap.IsCell cc (some (.ref dd)))
    (hD : s.heap.DictOf (mixKind prog w) dd vs) (hv : valueAt vs (Sum.inr key) = some u) (hs : NoSl (.Name a p2))
    (hb : bindArgs (PySem.W.kla_fn "<lambda>" qual params (.Subscript (.Name d p1) (.Name a p2) p3) scope cl pm (.ref c') ctv) ⟨[.str key tk], []⟩ = pure [(a, .str key tk)])
    (h : ∀ h' tk', (∀ b o, s.heap.get? b = some o → h'.get? b = some o) → s.toks ≤ tk' → Q u { s with heap := h', toks := tk' }) : wpAny (model prog w) A (call (.ref f) [.str key tk]) Q E s := by
  obtain ⟨oc, ws, t, hoc, hdc, hq⟩ := hc
  refine wpAny_call (PySem.W.kla_callFunE hdep hf rfl L.co L.gen rfl ⟨c', oc, ws, t, rfl, hoc, hdc, hq⟩ ?_)
  rw [hb]
  refine wpAny_pure (wpAny_newFunctionEnv L.cell (fun y hy => ?_) (fun h₁ hns hsb => ⟨hlim.fresh _ hsb, ?_⟩) L.kind)
  · cases List.mem_singleton.mp hy
    exact L.loc
  have kp : ∀ b o, s.heap.get? b = some o → h₁.get? b = some o := fun b o e => hsb.extBut b o (Nat.ne_of_lt (Heap.lt_size e)) (Heap.get?_push_of_some _ e)
  have D1 : h₁.DictOf (mixKind prog w) dd vs := by
    obtain ⟨o, r⟩ := hD
    obtain ⟨es, ep, ho, r⟩ := r
    exact ⟨o, es, ep, kp _ _ ho, r⟩
  have C1 : h₁.IsCell cc (some (.ref dd)) := by
    obtain ⟨o, ho, hd⟩ := hcc
    exact ⟨o, kp _ _ ho, hd⟩
  show codeAny _ _ (.expr _ (PySem.W.envX qual scope s.heap.objs.size f (.ref c') cl)) _ _
  refine PySem.W.kla_codeExpr (subD_of PySem.F.slot_dict_getitem.lookup hs ?_)
  refine wpAny_Name (wpAny_loadName_free L.kind L.fre hcl C1 ?_ L.dc) L.dd
  refine wpAny_Name (wpAny_loadName_local L.kind L.loc hns (v := .str key tk) ?_ ?_) L.da
  · show (List.lookup a [(a, Value.str key tk)]) = _
    rw [List.lookup_cons, beq_self_eq_true]
  · refine ⟨D1.typeIs, wpAny_getItem_of (k := Sum.inr key) (kV_is (k := Sum.inr key) (show RelV (kV (Sum.inr key)) (.str key tk) from ⟨tk, rfl⟩)) D1.mapOf hv ?_⟩
    exact h h₁ _ kp (by show s.toks ≤ s.toks + 1 + 1; omega)
end
theorem best_min (val : Nat → Int) : ∀ k, argBest (fun i j => decide (val i < val j)) k ≤ k ∧ ∀ j, j ≤ k → val (argBest (fun i j => decide (val i < val j)) k) ≤ val j ∧ (j < argBest (fun i j => decide (val i < val j)) k → val (argBest (fun i j => decide (val i < val j)) k) < val j)
  | 0 => ⟨Nat.le_refl _, fun j hj => by
    cases (show j = 0 by omega)
    exact ⟨Int.le_refl _, fun z => absurd z (by show ¬ 0 < 0; omega)⟩⟩
  | k + 1 => by
    obtain ⟨i1, i2⟩ := best_min val k
    show (if decide (val (k + 1) < val (argBest (fun i j => decide (val i < val j)) k)) = true then k + 1 else argBest (fun i j => decide (val i < val j)) k) ≤ k + 1 ∧ ∀ j, j ≤ k + 1 → val (if decide (val (k + 1) < val (argBest (fun i j => decide (val i < val j)) k)) = true then k + 1 else argBest (fun i j => decide (val i < val j)) k) ≤ val j ∧ (j < (if decide (val (k + 1) < val (argBest (fun i j => decide (val i < val j)) k)) = true then k + 1 else argBest (fun i j => decide (val i < val j)) k) → val (if decide (val (k + 1) < val (argBest (fun i j => decide (val i < val j)) k)) = true then k + 1 else argBest (fun i j => decide (val i < val j)) k) < val j)
    generalize argBest (fun i j => decide (val i < val j)) k = b at i1 i2
    by_cases c : val (k + 1) < val b
    · rw [if_pos (decide_eq_true c)]
      refine ⟨Nat.le_refl _, fun j hj => ?_⟩
      by_cases e : j = k + 1
      · subst e
        exact ⟨Int.le_refl _, fun z => absurd z (by omega)⟩
      · have := i2 j (by omega)
        exact ⟨by omega, fun _ => by omega⟩
    · rw [if_neg (by simpa using c)]
      refine ⟨by omega, fun j hj => ?_⟩
      by_cases e : j = k + 1
      · subst e
        exact ⟨by omega, fun z => absurd z (by omega)⟩
      · exact i2 j (by omega)
/-- y is the first of xs whose number is least -/
def IsMin (κ : Str → Int) (xs : List Str) (y : Str) : Prop := ∃ i : Nat, xs[i]? = some y ∧ ∀ (j : Nat) (z : Str), xs[j]? = some z → κ y ≤ κ z ∧ (j < i → κ y < κ z)
section
variable {X : Cx} {pins : List (Addr × Obj)} {σ : L2.St} {H : Hp} {s : Shared}
theorem call_min {E : Value → Shared → Prop} {Q : Value → Shared → Prop} {f c' cc dd l : Addr} {qual a d : Str} {params : Arguments} {scope : Scope} {cl : List (Str × Addr)} {pm ctv : Value} {p1 p2 p3 : Pos} {vs : List (Key × Value)} {xs : List Str} {κ : Str → Int} (L : Lam1 scope a d)
    (I : Inv X pins σ H s) (hr : Room 2 X.A) (hf : s.heap.get? f = some (PySem.W.kla_obj "<lambda>" qual params (.Subscript (.Name d p1) (.Name a p2) p3) scope cl pm c' ctv))
    (hc : ∃ (oc : Obj) (ws : Array Value) (t : Tok), s.heap.get? c' = some oc ∧ oc.data = .fields ws ∧ ws[1]? = some (.str qual t)) (hcl : cl.lookup d = some cc) (hcc : s.heap.IsCell cc (some (.ref dd)))
    (hD : s.heap.DictOf (mixKind X.prog X.w) dd vs) (hs : NoSl (.Name a p2)) (hl : SqT X.K H l (xs.map V.str)) (hne : xs ≠ []) (hv : ∀ y ∈ xs, ∃ t, valueAt vs (Sum.inr y) = some (.int (κ y) t))
    (hb : ∀ u, bindArgs (PySem.W.kla_fn "<lambda>" qual params (.Subscript (.Name d p1) (.Name a p2) p3) scope cl pm (.ref c') ctv) ⟨[u], []⟩ = pure [(a, u)])
    (h : ∀ y t s', IsMin κ xs y → Inv X pins σ H s' → Q (.str y t) s') : wpAny (model X.prog X.w) X.A (call (.builtin "min") [.ref l] [(Str.ofString "key", .ref f)]) Q E s := by
  obtain ⟨its, r, pl, hz⟩ := I.tuple hl
  have hlen : its.toArray.size = xs.length := by rw [List.size_toArray, ← r.length, List.length_map]
  have hpos : 0 < xs.length := List.length_pos_iff.mpr hne
  have at_ : ∀ (i : Nat) (v : Value), its.toArray[i]? = some v → ∃ y t, xs[i]? = some y ∧ v = .str y t := fun i v hi => by
    have hi2 : its[i]? = some v := by rw [← List.getElem?_toArray]; exact hi
    have hl2 : i < xs.length := by
      have := (List.getElem?_eq_some_iff.mp hi2).1
      rw [← r.length, List.length_map] at this
      exact this
    obtain ⟨u, hu, t, ht⟩ := r.get (i := i) (x := .str xs[i]) (by rw [List.getElem?_map, List.getElem?_eq_getElem hl2]; rfl)
    rw [hi2] at hu
    cases Option.some.inj hu
    exact ⟨xs[i], t, List.getElem?_eq_getElem hl2, ht⟩
  have ls : l < s.heap.objs.size := by
    obtain ⟨o, ho, _⟩ := id pl
    exact Heap.lt_size ho
  have ne1 : l ≠ s.heap.objs.size := Nat.ne_of_lt ls
  have sz2 : (s.heap.push { cls := .type "tuple_iterator", data := .fields #[.ref l, .int 0 0] }).objs.size = s.heap.objs.size + 1 := Heap.size_push ..
  refine call_min_walkK (wpAny_pyIter_tuple pl ?_)
  have W := (Walks.tuple (prog := X.prog) (w := X.w) (A := X.A.in1) (by simp [hr.hd]) s.heap.objs.size l ne1 its.toArray).toS
  refine ⟨s.heap.objs.size, _, _, _, _, _, _, fun s1 => ∃ h' tk, s1 = { s with heap := h', toks := tk } ∧ ∀ b o, s.heap.get? b = some o → h'.get? b = some o, fun i k _ => ∃ t, k = .int (κ (xs.getD i Str.empty)) t, fun i j => decide (κ (xs.getD i Str.empty) < κ (xs.getD j Str.empty)), rfl, W, ⟨⟨_, Heap.get?_push_size _ rfl, rfl, rfl⟩, pl.push _⟩, fun b hb => ?_, by rw [hlen]; exact hpos, ?_, ⟨_, s.toks, rfl, fun b o e => Heap.get?_push_of_some _ e⟩, fun v s' hP hJ => ?_⟩
  · show b < (s.heap.push { cls := .type "tuple_iterator", data := .fields #[.ref l, .int 0 0] }).objs.size
    rw [sz2]
    rcases List.mem_cons.mp hb with rfl | hb
    · exact Nat.lt_succ_self _
    · cases List.mem_singleton.mp hb
      exact Nat.lt_succ_of_lt ls
  · refine ⟨?_, fun i k s1 s2 hk _ => hk, ?_, ?_⟩
    · rintro _ s2 ⟨h', tk, rfl, hk⟩ hm
      refine ⟨s2.heap, s2.toks, hm.eq_with, fun b o e => hm.heap b o (fun z => ?_) (hk b o e)⟩
      have lb : b < s.heap.objs.size := Heap.lt_size e
      rcases List.mem_cons.mp z with z | z
      · rw [sz2] at z
        exact Nat.ne_of_lt (Nat.lt_succ_of_lt lb) z
      · cases List.mem_singleton.mp z
        exact Nat.lt_irrefl _ lb
    · rintro i v _ o Q' E' hi hP ⟨h', tk, rfl, hk⟩ hSt hS hq
      obtain ⟨y, t, hy, rfl⟩ := at_ i v hP
      obtain ⟨t2, hv2⟩ := hv y (List.mem_of_getElem? hy)
      obtain ⟨oc, ws, t3, c1, c2, c3⟩ := hc
      have hD1 : h'.DictOf (mixKind X.prog X.w) dd vs := by
        obtain ⟨o, es, ep, ho, r⟩ := hD
        exact ⟨o, es, ep, hk _ _ ho, r⟩
      have hcc1 : h'.IsCell cc (some (.ref dd)) := by
        obtain ⟨o, ho, hd⟩ := hcc
        exact ⟨o, hk _ _ ho, hd⟩
      refine lam_get (s := { s with heap := h', toks := tk }) L hr.in1.depth ((I.nolimit).keeps hk) (hk _ _ hf) ⟨oc, ws, t3, hk _ _ c1, c2, c3⟩ hcl hcc1 hD1 hv2 hs (hb _) fun h2 tk2 hk2 htk => ?_
      have ey : xs.getD i Str.empty = y := by rw [List.getD_eq_getElem?_getD, hy]; rfl
      refine hq _ { s with heap := h2, toks := tk2 } ⟨h2, tk2, rfl, fun b o e => hk2 b o (hk b o e)⟩ ?_ (hk2 _ _ hS) ⟨t2, by rw [ey]⟩ fun _ _ z => z
      exact W.frame (i + 1) { s with heap := h', toks := tk } h2 tk2 hSt htk fun b _ o e => hk2 b o e
    · intro i j ki kj s1 Q' E' _ hi hj hq
      exact CmpOf.ints_lt (prog := X.prog) (w := X.w) (A := X.A.in1) (P := fun i v => ∃ t, v = .int (κ (xs.getD i Str.empty)) t) (fun i => κ (xs.getD i Str.empty)) (fun i v h => h) i j ki kj s1 Q' E' hi hj hq
  · obtain ⟨h', tk, rfl, hk⟩ := hJ
    obtain ⟨b1, b2⟩ := best_min (fun i => κ (xs.getD i Str.empty)) (its.toArray.size - 1)
    obtain ⟨y, t, hy, rfl⟩ := at_ _ v hP
    refine h y t _ ⟨_, hy, fun j z hz => ?_⟩ (I.kept hk)
    have hj : j < xs.length := (List.getElem?_eq_some_iff.mp hz).1
    have ey : xs.getD (argBest (fun i j => decide (κ (xs.getD i Str.empty) < κ (xs.getD j Str.empty))) (its.toArray.size - 1)) Str.empty = y := by rw [List.getD_eq_getElem?_getD, hy]; rfl
    have ez : xs.getD j Str.empty = z := by rw [List.getD_eq_getElem?_getD, hz]; rfl
    have := b2 j (by omega)
    simp only [ey, ez] at this
    exact this
/-- what min(te, key=lambda a: d[a]) wants: the tuple, the dict at slot jd, the tables -/
def tMinK (K : PySem.W.Frag) (T : List (Addr × Str)) (jd : Nat) (t : TA) : TE := fun σ H Q => t σ H fun vs H0 => ∃ (l dd : Addr) (xs : List Str) (kvs : List (Key × V)) (κ : Str → Int), vs = [.ref l] ∧ SqT K H0 l (xs.map V.str) ∧ xs ≠ [] ∧ σ[jd]? = some (some (.ref dd)) ∧ H0 dd = some (.dK kvs) ∧
  (∀ y ∈ xs, valV kvs (Sum.inr y) = some (.int (κ y))) ∧ Tabs T H0 ∧ ∀ H1, ExtN H0 H1 → Tabs T H1 → ∀ y, IsMin κ xs y → Q (.str y) H1
theorem pe_minKey {T : List (Addr × Str)} {c P : Addr} {a d : Str} {params : Arguments} {scope : Scope} {p p1 p2 p3 lpos kpos pos : Pos} {e : Expr} {ta : TA} {jd : Nat} (hg : Gl X "min") (hm : X.mg "min" = none) (ha : PA X [e] ta) (hr : Room 2 X.A) (TB : TabB X.base X.mg c P) (hcode : X.env.code = .ref c)
    (hmT : (P, X.env.qual ++ "<lambda>") ∈ T) (hu : ∀ p ∈ T, p.1 = P → p.2 = X.env.qual ++ "<lambda>") (L : Lam1 scope a d) (hfree : ∀ y ∈ scope.names, y.2 = .free → X.env.scope.names.lookup y.1 = some .cell ∨ X.env.scope.names.lookup y.1 = some .free)
    (hN : X.N[jd]? = some d) (hd : X.env.scope.names.lookup d = some .cell) (hdef : defaultsOf params X.env = ([], [])) (hs : NoSl (.Name a p2))
    (hb : ∀ (q : Str) (cl : List (Str × Addr)) (pm cv ctv u : Value), bindArgs (PySem.W.kla_fn "<lambda>" q params (.Subscript (.Name d p1) (.Name a p2) p3) scope cl pm cv ctv) ⟨[u], []⟩ = pure [(a, u)])
    (he : backTo pos (starEach [e] X.env) = (false, eval e X.env) :: backTo pos (starEach [] X.env) := by rfl) (hpl : (backTo pos (starEach [e] X.env)).any (·.1) = false := by rfl) :
    PE X (.Call (.Name "min" p) [e] [⟨some "key", .Lambda params (.Subscript (.Name d p1) (.Name a p2) p3) scope lpos, kpos⟩] pos) (tMinK X.K T jd ta) := by
  refine ⟨fun pins s σ H Q I h => ?_⟩
  refine wpAny_Call_Name_kw (ld_blt I hg hm boot_min ?_)
  refine PyProof.Rows.callWith_kw (thn (ha.run pos pins s σ H (fun vs H0 => ∃ (l dd : Addr) (xs : List Str) (kvs : List (Key × V)) (κ : Str → Int), vs = [.ref l] ∧ SqT X.K H0 l (xs.map V.str) ∧ xs ≠ [] ∧ σ[jd]? = some (some (.ref dd)) ∧ H0 dd = some (.dK kvs) ∧
    (∀ y ∈ xs, valV kvs (Sum.inr y) = some (.int (κ y))) ∧ Tabs T H0 ∧ ∀ H1, ExtN H0 H1 → Tabs T H1 → ∀ y, IsMin κ xs y → Q (.str y) H1) I h) fun us s1 ⟨vs, H1, I1, r1, q1⟩ => ?_) he hpl
  obtain ⟨l, dd, xs, kvs, κ, rfl, hl, hne, hdd, hD, hv, hT, hQ⟩ := q1
  obtain ⟨u, rfl, ru⟩ := vals1 r1
  cases (show u = Value.ref l from ru)
  have hfr : ∀ y ∈ scope.names, y.2 = .free → ∃ c, X.env.cells.lookup y.1 = some c := fun y hy e => I.ok.has _ (hfree y hy e)
  show wpAny _ _ (evalAll ((do let v ← eval (.Lambda params (.Subscript (.Name d p1) (.Name a p2) p3) scope lpos) X.env; standAt pos; pure v) :: [])) _ _ s1
  refine wpAny_evalAll_cons (wpAny_bind (lam_make2 I1 TB hcode hmT hu hT hdef hfr fun f c' pm ctv H2 s2 I2 eN T2 hf hfn hff hco => ?_))
  refine wpAny_bind (wpAny_standAt (wpAny_pure (wpAny_evalAll_nil ?_)))
  obtain ⟨⟨oc, ws, t, hoc, hdc, hvc⟩, _, _⟩ := I2.hok c' _ hco
  have hl2 : SqT X.K H2 l (xs.map V.str) := by
    rcases hl with z | z
    · rcases z with z | ⟨o, z⟩
      · exact .inl (.inl (eN _ _ z fun _ q => by cases q))
      · exact .inl (.inr ⟨o, eN _ _ z fun _ q => by cases q⟩)
    · exact .inr z
  have hD2 : H2 dd = some (.dK kvs) := eN _ _ hD fun _ q => by cases q
  obtain ⟨m, hn, hlk⟩ := I2.loc
  obtain ⟨w', rw', look⟩ := hlk jd d (.ref dd) hN hdd (.inr (.inl hd))
  cases (show w' = Value.ref dd from rw')
  obtain ⟨cc, hcc, hcell⟩ : ∃ cc, X.env.cells.lookup d = some cc ∧ s2.heap.IsCell cc (some (.ref dd)) := by
    rcases look with ⟨z, _⟩ | ⟨_, cc, z1, z2⟩
    · have z' : X.env.scope.names.lookup d = some .local := z
      rw [hd] at z'
      cases z'
    · exact ⟨cc, z1, z2⟩
  have hcl : (cloFrom X.env.cells scope.names []).lookup d = some cc := by
    have hy : (d, NameKind.free) ∈ scope.names := PySem.mem_of_lookup L.fre
    obtain ⟨c2, h2⟩ := mem_lookup (cloFrom_has (cells := X.env.cells) (acc := []) hy)
    rcases cloFrom_mem (PySem.mem_of_lookup h2) with z | ⟨z1, z2⟩
    · cases z
    · rw [h2, z2, hcc]
      rfl
  obtain ⟨_, _, vs, rel, hDo⟩ := dk_of I2.hok hD2
  refine call_min (κ := κ) L I2 hr hf ⟨oc, ws, t, hoc, hdc, hvc⟩ hcl hcell hDo hs hl2 hne (fun y hy => ?_) (fun u => hb _ _ _ _ _ u) fun y t s3 hm I3 => ⟨.str y, H2, I3, ⟨t, rfl⟩, hQ H2 eN T2 y hm⟩
  obtain ⟨u, hu2, t2, ht2⟩ := RelO.some_of (v := .int (κ y)) (o := valueAt vs (Sum.inr y)) (by rw [← hv y hy]; exact rel.val (Sum.inr y))
  exact ⟨t2, by rw [hu2, ht2]⟩
end
end LK
set_option Elab.async false
set_option linter.all false
set_option maxRecDepth 100000
set_option maxHeartbeats 4000000
namespace K35
open PySem PySem.Spec PyProof.Rows L2
/-- a def of the text -/
abbrev Dn (K : PySem.W.Frag) (d : He.DefD) (f : Addr) (fd : FuncData) : Prop := FunD K d.name d.qual d.params d.body d.scope (d.dvs K) (d.kws K) f fd
/-- what the module's names are -/
structure Bl (mg : Str → Option Value) : Prop where
  isi : mg "isinstance" = none
  int : mg "int" = none
  bool : mg "bool" = none
  abs : mg "abs" = none
  list : mg "list" = none
  range : mg "range" = none
  len : mg "len" = none
theorem op_fdW {X : Cx} : OpR X (binaryOp .FloorDiv) (rI (fun _ j => j ≠ 0 ∧ j.natAbs.log2 < 9000) fun i j => .int (i.fdiv j)) := opI fun _ _ _ _ _ _ _ hc q => floordiv_int hc.1 q (.inl (PyProof.noPylong_of_log2 hc.2))
/-- the fields of a Share -/
def shF (q : Int × Int) : List (Str × V) := putF "bottom" (.int q.2) (putF "top" (.int q.1) [])
theorem tb : ¬ (("top" : Str) = "bottom") := by decide +kernel
theorem shF_top (q : Int × Int) : (shF q).lookup ("top" : Str) = some (.int q.1) := by
  unfold shF
  rw [lookup_putF, if_neg tb, lookup_putF, if_pos rfl]
theorem shF_bot (q : Int × Int) : (shF q).lookup ("bottom" : Str) = some (.int q.2) := by
  unfold shF
  rw [lookup_putF, if_pos rfl]
theorem shF_no (q : Int × Int) {m : Str} (h1 : ¬ m = "bottom") (h2 : ¬ m = "top") : (shF q).lookup m = none := by
  unfold shF
  rw [lookup_putF, if_neg h1, lookup_putF, if_neg h2]
  all_goals rfl
/-- a Share stands at p -/
def Sh (C : Addr) (H : Hp) (p : Addr) (q : Int × Int) : Prop := ∃ dx, H p = some (.ins C dx (shF q))
/-- small enough, the bottom above nought -/
def Bd (n : Nat) (q : Int × Int) : Prop := q.1.natAbs < 2 ^ n ∧ 0 < q.2 ∧ q.2.natAbs < 2 ^ n
theorem Sh.keep {C : Addr} {H H' : Hp} {p : Addr} {q : Int × Int} (s : Same H H') (h : Sh C H p q) : Sh C H' p q := let ⟨dx, e⟩ := h; ⟨dx, s _ _ e⟩
theorem log_lt {j : Int} {n : Nat} (h : j.natAbs < 2 ^ n) (h0 : 0 < n) (h9 : n ≤ 9000) : j.natAbs.log2 < 9000 := Nat.lt_of_lt_of_le (PySem.Flt.log2_lt_of h0 h) h9
/-- what is known of the class -/
structure Cl (K : PySem.W.Frag) (mg : Str → Option Value) (C : Addr) : Prop where
  cl : Cls K C
  nt : NoAttr K C "top"
  nb : NoAttr K C "bottom"
  g : mg "Share" = some (.ref C)
section
variable {P : Program} {w : World} {K : PySem.W.Frag} {mg : Str → Option Value} {base : Heap} {f C : Addr} {fd : FuncData}

def spWhole : Sp := fun vs H Q _ => ∃ n : Int, vs = [.int n] ∧ Q (.bl true) H
theorem ok_whole (F : Dn K d_is_whole f fd) (b : Bl mg) : FnOk P w K mg base CX0 1 f fd ["thing"] spWhole := by
  refine F.ok sc_is_whole (fun vs H Q E h => ?_) (fun cdv A outer s H vs Q E hr h => ?_)
  · obtain ⟨n, rfl, _⟩ := h
    rfl
  · obtain ⟨n, rfl, hQ⟩ := h
    refine ⟨_, PSs.nox (pss_one (ps_ret (pe_and
      (pe_callB call_isi rfl b.isi boot_isinstance (pa_cons (pv 0) (pa_cons (pe_bltn (v := .ty "int") rfl b.int boot_int rfl) pa_nil)))
      (pe_one (pe_not (pe_callB call_isi rfl b.isi boot_isinstance (pa_cons (pv 0) (pa_cons (pe_bltn (v := .ty "bool") rfl b.bool boot_bool rfl) pa_nil)))))))), ?_⟩
    refine ⟨_, rfl, _, _, _, _, true, rfl, ClsV.ty _, TyX.base (TyOf.int n), kit_ty (by decide +kernel), true, rfl, ?_⟩
    refine iteT ?_
    exact ⟨_, rfl, _, _, _, _, false, rfl, ClsV.ty _, TyX.base (TyOf.int n), kit_ty (by decide +kernel), false, rfl, hQ⟩
def spGcd : Sp := fun vs H Q _ => ∃ x y : Int, vs = [.int x, .int y] ∧ Q (.int (Int.gcd x y : Int)) H
theorem abs_eq (x : Int) : (if x < 0 then -x else x) = (x.natAbs : Int) := by split <;> omega
theorem ok_gcd (F : Dn K d_common_part f fd) (b : Bl mg) : FnOk P w K mg base CX0 1 f fd ["one", "other"] spGcd := by
  refine F.ok sc_common_part (fun vs H Q E h => ?_) (fun cdv A outer s H vs Q E hr h => ?_)
  · obtain ⟨x, y, rfl, _⟩ := h
    rfl
  · obtain ⟨x, y, rfl, hQ⟩ := h
    refine ⟨_, PSs.nox (pss_cons (ps_set (i := 0) sc_common_part.nd rfl (.inl rfl) (pe_callB call_abs rfl b.abs boot_abs (pa_cons (pv 0) pa_nil)))
      (pss_cons (ps_set (i := 1) sc_common_part.nd rfl (.inl rfl) (pe_callB call_abs rfl b.abs boot_abs (pa_cons (pv 1) pa_nil)))
      (pss_cons (ps_while PassesOwn.never (pt_cmpR op_ne (pv 1) pe_int (nomark _)) (pss_one (ps_par (i := 0) (j := 1) rfl sc_common_part.nd rfl rfl (by decide) rfl rfl (pa_cons (pv 1) (pa_cons (pe_op op_mod (pv 0) (pv 1)) pa_nil)) rfl)))
      (pss_one (ps_ret (pv 0)))))), ?_⟩
    refine ⟨_, rfl, _, rfl, _, rfl, _, rfl, while_by (fun σ H2 => H2 = H ∧ ∃ a c : Int, σ = [some (.int a), some (.int c)] ∧ 0 ≤ a ∧ 0 ≤ c ∧ Int.gcd a c = Int.gcd x y)
      (fun σ _ => match σ with | [_, some (.int c)] => c.toNat | _ => 0) ⟨rfl, _, _, rfl, ?_, ?_, ?_⟩ ?_ ?_⟩
    · split <;> omega
    · split <;> omega
    · rw [abs_eq, abs_eq]
      rfl
    · rintro σ H2 ⟨rfl, a, c, rfl, ha, hc, hg⟩
      refine ⟨_, rfl, rfl, _, rfl, ?_⟩
      by_cases h0 : c = 0
      · subst h0
        refine iteNS rfl ?_
        refine ⟨_, rfl, ?_⟩
        have e : Int.gcd x y = a.natAbs := by rw [← hg]; simp
        have e2 : (Int.gcd x y : Int) = a := by omega
        rw [e2] at hQ
        exact hQ
      · have hne : (!decide (V.int c = V.int 0)) = true := by simp [h0]
        rw [hne]
        refine iteT ?_
        have hp : 0 < c := by omega
        refine ⟨_, rfl, _, rfl, _, rfl, _, _, rfl, rfl, hp, _, _, rfl, ⟨rfl, _, _, rfl, hc, Int.emod_nonneg _ h0, ?_⟩, ?_⟩
        · rw [KM.gcd_turn ha hp, hg]
        · show (a % c).toNat < c.toNat
          have h1 := Int.emod_nonneg a h0
          have h2 := Int.emod_lt_of_pos a hp
          omega
    · rintro σ H2 Q1 Q2 hm ⟨v, hv, h1, k, hk, q⟩
      exact ⟨v, hv, h1, k, hk, hm _ _ q⟩
end
end K35
set_option Elab.async false
set_option linter.all false
set_option maxRecDepth 100000
set_option maxHeartbeats 4000000
namespace K35
open PySem PySem.Spec PyProof.Rows L2
open C8 (Cal Mak Met pe_c pe_mk pe_mt pe_mt0)
section
variable {P : Program} {w : World} {K : PySem.W.Frag} {mg : Str → Option Value} {base : Heap} {f C : Addr} {fd : FuncData}
abbrev CalW (P : Program) (w : World) (K : PySem.W.Frag) (mg : Str → Option Value) (base : Heap) : Prop := Cal P w K mg base 1 "is_whole" spWhole []
abbrev CalG (P : Program) (w : World) (K : PySem.W.Frag) (mg : Str → Option Value) (base : Heap) : Prop := Cal P w K mg base 1 "common_part" spGcd []
/-- __init__: a Share in lowest terms -/
def spInit (C : Addr) : Sp := fun vs H Q _ => ∃ (p dx : Addr) (t b : Int) (n : Nat), vs = [.ref p, .int t, .int b] ∧ b ≠ 0 ∧ b.natAbs < 2 ^ n ∧ 0 < n ∧ n ≤ 9000 ∧ H p = some (.ins C dx []) ∧
  ∀ H', (∀ a o, a ≠ p → H a = some o → H' a = some o) → H' p = some (.ins C dx (shF (KM.low t b))) → Q .non H'
theorem ok_init (F : Dn K d_Share_init f fd) (cW : CalW P w K mg base) (cG : CalG P w K mg base) (T : Cl K mg C) : FnOk P w K mg base CX0 2 f fd ["self", "top", "bottom"] (spInit C) := by
  refine F.ok sc_Share_init (fun vs H Q E h => ?_) (fun cdv A outer s H vs Q E hr h => ?_)
  · obtain ⟨p, dx, t, b, n, rfl, _⟩ := h
    rfl
  · obtain ⟨p, dx, t, b, n, rfl, hb, hn, hn0, hn9, hp, hQ⟩ := h
    refine ⟨_, PSs.nox (pss_cons (ps_for PassesOwn.never rfl (pi_tup (pe_tup (pa_cons (pv 1) (pa_cons (pv 2) pa_nil)))) (pg_name (i := 3) sc_Share_init.nd rfl (.inl rfl))
        (pss_one (ps_if (pt_not (pt_val (pe_c cW hr (by decide) rfl (pa_cons (pv 3) pa_nil)))) pss_never pss_nil)))
      (pss_cons (ps_if (pt_cmpR op_eq (pv 2) pe_int (nomark _)) pss_never pss_nil)
      (pss_cons (ps_set (i := 4) sc_Share_init.nd rfl (.inl rfl) (pe_c cG hr (by decide) rfl (pa_cons (pv 1) (pa_cons (pv 2) pa_nil))))
      (pss_cons (ps_if (pt_cmpR op_lt (pv 2) pe_int (nomark _)) (pss_one (ps_set (i := 4) sc_Share_init.nd rfl (.inl rfl) (pe_un un_neg (pv 4)))) pss_nil)
      (pss_cons (ps_fld (pv 0) (pe_op op_fdW (pv 1) (pv 4)) rfl)
      (pss_one (ps_fld (pv 0) (pe_op op_fdW (pv 2) (pv 4)) rfl))))))), ?_⟩
    refine ⟨_, rfl, _, rfl, by show 2 ≤ sizeLine; decide, fun u hu => ?_⟩
    have npu : p ≠ u := ne_of_none hp hu
    refine ⟨u, rfl, ⟨_, SqT.of upd_same⟩, for_tup (K := K) (xs := [.int t, .int b]) (fun i σ H2 => H2 = upd H u (.tup [.int t, .int b]) ∧ ∃ v, σ = [some (.ref p), some (.int t), some (.int b), v, none])
      ⟨rfl, none, rfl⟩ (fun i σ H2 _ h => by rw [h.1]; exact SqT.of upd_same) ?_ ?_⟩
    · rintro i y σ H2 hi ⟨rfl, v, rfl⟩
      have hy : ∃ n : Int, y = .int n := by
        match i, hi with
        | 0, e => exact ⟨t, (Option.some.inj e).symm⟩
        | 1, e => exact ⟨b, (Option.some.inj e).symm⟩
      obtain ⟨n, rfl⟩ := hy
      refine ⟨_, rfl, n, rfl, true, rfl, ?_⟩
      refine iteF ?_
      exact ⟨rfl, _, rfl⟩
    · rintro σ H2 ⟨rfl, v, rfl⟩
      refine ⟨_, rfl, rfl, _, rfl, ?_⟩
      have hb0 : decide (V.int b = V.int 0) = false := by simp [hb]
      rw [hb0]
      refine iteF ?_
      refine ⟨_, rfl, _, rfl, t, b, rfl, ?_⟩
      refine ⟨_, rfl, _, _, rfl, rfl, _, rfl, ?_⟩
      have hs9 : (KM.sg t b).natAbs.log2 < 9000 := log_lt (Nat.lt_of_le_of_lt (KM.sg_le hb) hn) hn0 hn9
      have fin : ∀ c : Int, c = KM.sg t b → ∀ v, tSeq (sFld K (tVar 0) (tOp (rI (fun _ j => j ≠ 0 ∧ j.natAbs.log2 < 9000) fun i j => .int (i.fdiv j)) (tVar 1) (tVar 4)) "top") (sFld K (tVar 0) (tOp (rI (fun _ j => j ≠ 0 ∧ j.natAbs.log2 < 9000) fun i j => .int (i.fdiv j)) (tVar 2) (tVar 4)) "bottom")
          { nx := fun _ H' => Q .non H', rt := Q } [some (.ref p), some (.int t), some (.int b), v, some (.int c)] (upd H u (.tup [.int t, .int b])) := by
        rintro c rfl v
        refine ⟨_, rfl, _, rfl, _, _, rfl, rfl, ⟨KM.sg_ne hb, hs9⟩, _, rfl, p, C, dx, _, rfl, (by rw [upd_ne npu]; exact hp), T.cl, T.nt, (by show 0 < 1000; decide), ?_⟩
        refine ⟨_, rfl, _, rfl, _, _, rfl, rfl, ⟨KM.sg_ne hb, hs9⟩, _, rfl, p, C, dx, _, rfl, upd_same, T.cl, T.nb, (by show 1 < 1000; decide), ?_⟩
        refine hQ _ (fun a o ha e => ?_) upd_same
        rw [upd_ne ha, upd_ne ha, upd_ne (ne_of_none e hu)]
        exact e
      refine ite2 (fun h => ?_) (fun h => ?_)
      · have h' : b < 0 := of_decide_eq_true h
        refine ⟨_, rfl, _, rfl, ?_⟩
        exact fin _ (by unfold KM.sg; rw [if_pos h']) _
      · have h' : ¬ b < 0 := fun z => h (decide_eq_true z)
        exact fin _ (by unfold KM.sg; rw [if_neg h']) _
end
end K35
set_option Elab.async false
set_option linter.all false
set_option maxRecDepth 100000
set_option maxHeartbeats 4000000
namespace K35
open PySem PySem.Spec PyProof.Rows L2
open C8 (Cal Mak Met pe_c pe_mk pe_mt pe_mt0)
section
variable {P : Program} {w : World} {K : PySem.W.Frag} {mg : Str → Option Value} {base : Heap} {f C : Addr} {fd : FuncData}
abbrev MakS (P : Program) (w : World) (K : PySem.W.Frag) (mg : Str → Option Value) (base : Heap) (C : Addr) : Prop := Mak P w K mg base 2 "Share" C (spInit C) []
/-- Share(t, b): what is left to show -/
theorem mk_at {H1 : Hp} {t b : Int} {n : Nat} {Q : VK} (hb : b ≠ 0) (hn : b.natAbs < 2 ^ n) (hn0 : 0 < n) (hn9 : n ≤ 9000)
    (hQ : ∀ r H', Same H1 H' → H1 r = none → Sh C H' r (KM.low t b) → Q (.ref r) H') :
    ∀ x dx, H1 x = none → H1 dx = none → dx ≠ x → spInit C (.ref x :: ([V.int t, V.int b] ++ [])) (upd (upd H1 dx (.own x)) x (.ins C dx [])) (fun v H2 => v = .non ∧ Q (.ref x) H2) E0 := by
  intro x dx nx nd ne
  refine ⟨x, dx, t, b, n, rfl, hb, hn, hn0, hn9, upd_same, fun H' kp hp => ⟨rfl, hQ x H' (fun a o e => ?_) nx ⟨dx, hp⟩⟩⟩
  refine kp a o (ne_of_none e nx) ?_
  rw [upd_ne (ne_of_none e nx), upd_ne (ne_of_none e nd)]
  exact e
theorem mul_pos_ne {a b : Int} (ha : 0 < a) (hb : 0 < b) : a * b ≠ 0 := fun z => by
  have := Int.mul_pos ha hb
  omega
def two (n : Nat) (a b : Int × Int) : Prop := Bd n a ∧ Bd n b ∧ 0 < n ∧ n ≤ 4000

def sp_plus (C : Addr) : Sp := fun vs H Q _ => ∃ (p q : Addr) (a b : Int × Int) (n : Nat), vs = [.ref p, .ref q] ∧ Sh C H p a ∧ Sh C H q b ∧ two n a b ∧
  ∀ r H', Same H H' → H r = none → Sh C H' r (KM.low (a.1 * b.2 + b.1 * a.2) (a.2 * b.2)) → Q (.ref r) H'
theorem ok_plus (F : Dn K d_Share_plus f fd) (M : MakS P w K mg base C) (T : Cl K mg C) : FnOk P w K mg base CX0 4 f fd ["self", "other"] (sp_plus C) := by
  refine F.ok sc_Share_plus (fun vs H Q E h => ?_) (fun cdv A outer s H vs Q E hr h => ?_)
  · obtain ⟨p, q, a, b, n, rfl, _⟩ := h
    rfl
  · obtain ⟨p, q, a, b, n, rfl, ⟨dp, hp⟩, ⟨dq, hq⟩, ⟨ba, bb, hn0, hn9⟩, hQ⟩ := h
    refine ⟨_, PSs.nox (pss_one (ps_ret (pe_mk M hr (by decide) rfl (pa_cons (pe_op op_add (pe_op op_mulW (pe_fld (pv 0) rfl) (pe_fld (pv 1) rfl)) (pe_op op_mulW (pe_fld (pv 1) rfl) (pe_fld (pv 0) rfl)))
      (pa_cons (pe_op op_mulW (pe_fld (pv 0) rfl) (pe_fld (pv 1) rfl)) pa_nil))))), ?_⟩
    refine ⟨_, rfl, p, C, dp, _, _, rfl, hp, T.cl, T.nt, shF_top a, _, rfl, q, C, dq, _, _, rfl, hq, T.cl, T.nb, shF_bot b, _, _, rfl, rfl, wide_mul ba.1 bb.2.2 hn0 hn0 (by omega), ?_⟩
    refine ⟨_, rfl, q, C, dq, _, _, rfl, hq, T.cl, T.nt, shF_top b, _, rfl, p, C, dp, _, _, rfl, hp, T.cl, T.nb, shF_bot a, _, _, rfl, rfl, wide_mul bb.1 ba.2.2 hn0 hn0 (by omega), _, _, rfl, rfl, ?_⟩
    refine ⟨_, rfl, p, C, dp, _, _, rfl, hp, T.cl, T.nb, shF_bot a, _, rfl, q, C, dq, _, _, rfl, hq, T.cl, T.nb, shF_bot b, _, _, rfl, rfl, wide_mul ba.2.2 bb.2.2 hn0 hn0 (by omega), ?_⟩
    exact mk_at (n := n + n) (mul_pos_ne ba.2.1 bb.2.1) (wide_lt ba.2.2 bb.2.2) (by omega) (by omega) hQ

def sp_times (C : Addr) : Sp := fun vs H Q _ => ∃ (p : Addr) (a : Int × Int) (k : Int) (n : Nat), vs = [.ref p, .int k] ∧ Sh C H p a ∧ Bd n a ∧ k.natAbs < 2 ^ n ∧ 0 < n ∧ n ≤ 4000 ∧
  ∀ r H', Same H H' → H r = none → Sh C H' r (KM.low (a.1 * k) a.2) → Q (.ref r) H'
theorem ok_times (F : Dn K d_Share_times f fd) (M : MakS P w K mg base C) (T : Cl K mg C) : FnOk P w K mg base CX0 4 f fd ["self", "many"] (sp_times C) := by
  refine F.ok sc_Share_times (fun vs H Q E h => ?_) (fun cdv A outer s H vs Q E hr h => ?_)
  · obtain ⟨p, a, k, n, rfl, _⟩ := h
    rfl
  · obtain ⟨p, a, k, n, rfl, ⟨dp, hp⟩, ba, hk, hn0, hn9, hQ⟩ := h
    refine ⟨_, PSs.nox (pss_one (ps_ret (pe_mk M hr (by decide) rfl (pa_cons (pe_op op_mulW (pe_fld (pv 0) rfl) (pv 1)) (pa_cons (pe_fld (pv 0) rfl) pa_nil))))), ?_⟩
    refine ⟨_, rfl, p, C, dp, _, _, rfl, hp, T.cl, T.nt, shF_top a, _, rfl, _, _, rfl, rfl, wide_mul ba.1 hk hn0 hn0 (by omega), ?_⟩
    refine ⟨_, rfl, p, C, dp, _, _, rfl, hp, T.cl, T.nb, shF_bot a, ?_⟩
    exact mk_at (n := n) (by have := ba.2.1; omega) ba.2.2 hn0 (by omega) hQ
def sp_over (C : Addr) : Sp := fun vs H Q _ => ∃ (p : Addr) (a : Int × Int) (k : Int) (n : Nat), vs = [.ref p, .int k] ∧ Sh C H p a ∧ Bd n a ∧ k ≠ 0 ∧ k.natAbs < 2 ^ n ∧ 0 < n ∧ n ≤ 4000 ∧
  ∀ r H', Same H H' → H r = none → Sh C H' r (KM.low a.1 (a.2 * k)) → Q (.ref r) H'
theorem ok_over (F : Dn K d_Share_over f fd) (M : MakS P w K mg base C) (T : Cl K mg C) : FnOk P w K mg base CX0 4 f fd ["self", "many"] (sp_over C) := by
  refine F.ok sc_Share_over (fun vs H Q E h => ?_) (fun cdv A outer s H vs Q E hr h => ?_)
  · obtain ⟨p, a, k, n, rfl, _⟩ := h
    rfl
  · obtain ⟨p, a, k, n, rfl, ⟨dp, hp⟩, ba, hk0, hk, hn0, hn9, hQ⟩ := h
    refine ⟨_, PSs.nox (pss_one (ps_ret (pe_mk M hr (by decide) rfl (pa_cons (pe_fld (pv 0) rfl) (pa_cons (pe_op op_mulW (pe_fld (pv 0) rfl) (pv 1)) pa_nil))))), ?_⟩
    refine ⟨_, rfl, p, C, dp, _, _, rfl, hp, T.cl, T.nt, shF_top a, ?_⟩
    refine ⟨_, rfl, p, C, dp, _, _, rfl, hp, T.cl, T.nb, shF_bot a, _, rfl, _, _, rfl, rfl, wide_mul ba.2.2 hk hn0 hn0 (by omega), ?_⟩
    exact mk_at (n := n + n) (Int.mul_ne_zero (by have := ba.2.1; omega) hk0) (wide_lt ba.2.2 hk) (by omega) (by omega) hQ
def sp_whole (C : Addr) : Sp := fun vs H Q _ => ∃ (p : Addr) (a : Int × Int) (n : Nat), vs = [.ref p] ∧ Sh C H p a ∧ Bd n a ∧ 0 < n ∧ n ≤ 4000 ∧ Q (.int (a.1.fdiv a.2)) H
theorem ok_wholeM (F : Dn K d_Share_whole f fd) (T : Cl K mg C) : FnOk P w K mg base CX0 1 f fd ["self"] (sp_whole C) := by
  refine F.ok sc_Share_whole (fun vs H Q E h => ?_) (fun cdv A outer s H vs Q E hr h => ?_)
  · obtain ⟨p, a, n, rfl, _⟩ := h
    rfl
  · obtain ⟨p, a, n, rfl, ⟨dp, hp⟩, ba, hn0, hn9, hQ⟩ := h
    refine ⟨_, PSs.nox (pss_one (ps_ret (pe_op op_fdW (pe_fld (pv 0) rfl) (pe_fld (pv 0) rfl)))), ?_⟩
    refine ⟨_, rfl, p, C, dp, _, _, rfl, hp, T.cl, T.nt, shF_top a, _, rfl, p, C, dp, _, _, rfl, hp, T.cl, T.nb, shF_bot a, _, _, rfl, rfl, ⟨by have := ba.2.1; omega, log_lt ba.2.2 hn0 (by omega)⟩, hQ⟩
end
end K35
set_option Elab.async false
set_option linter.all false
set_option maxRecDepth 100000
set_option maxHeartbeats 4000000
namespace K35
open PySem PySem.Spec PyProof.Rows L2
open C8 (Cal Mak Met pe_c pe_mk pe_mt pe_mt0)
/-- the held dict's pairs -/
def hd0 (l : Addr) (n m : Int) : List (Key × V) := [(Sum.inr "cells", .ref l), (Sum.inr "at", .int n), (Sum.inr "left", .int m)]
theorem hd_cells (l : Addr) (n m : Int) : valV (hd0 l n m) (Sum.inr "cells") = some (.ref l) := valV_pos rfl
theorem k1 : ¬ (("cells" : Str) = "at") := by decide +kernel
theorem k2 : ¬ (("cells" : Str) = "left") := by decide +kernel
theorem k3 : ¬ (("at" : Str) = "left") := by decide +kernel
theorem k1' : ¬ (("at" : Str) = "cells") := by decide +kernel
theorem k3' : ¬ (("left" : Str) = "at") := by decide +kernel
theorem inr_ne {x y : Str} (h : ¬ x = y) : ¬ ((Sum.inr x : Key) = Sum.inr y) := fun z => h (Sum.inr.inj z)
theorem hd_at (l : Addr) (n m : Int) : valV (hd0 l n m) (Sum.inr "at") = some (.int n) := (valV_neg (inr_ne k1)).trans (valV_pos rfl)
theorem hd_left (l : Addr) (n m : Int) : valV (hd0 l n m) (Sum.inr "left") = some (.int m) := (valV_neg (inr_ne k2)).trans ((valV_neg (inr_ne k3)).trans (valV_pos rfl))
theorem put_at (l : Addr) (n m k : Int) : putK (hd0 l n m) (Sum.inr "at") (.int k) = hd0 l k m := by
  unfold putK hd0
  simp [k1, k3']
theorem put_left (l : Addr) (n m k : Int) : putK (hd0 l n m) (Sum.inr "left") (.int k) = hd0 l n k := by
  unfold putK hd0
  simp [k2, k3]
theorem hd_merge (l : Addr) (n m : Int) : mergeK [] (hd0 l n m) = hd0 l n m := by
  simp [mergeK, hd0, putK, k1, k2, k3]
/-- the held dict at h, good for c draws more -/
def Held (H : Hp) (h : Addr) (c : Nat) : Prop := ∃ (l : Addr) (ns : List Int) (n m : Int), H h = some (.dK (hd0 l n m)) ∧ H l = some (.lst (ns.map V.int)) ∧ 0 ≤ n ∧ n + c ≤ 1000000000
theorem Held.weak {H : Hp} {h : Addr} {c c' : Nat} (hc : c' ≤ c) (x : Held H h c) : Held H h c' := by
  obtain ⟨l, ns, n, m, h1, h2, h3, h4⟩ := x
  exact ⟨l, ns, n, m, h1, h2, h3, by omega⟩
/-- all but h is kept -/
def Kp (h : Addr) (H H' : Hp) : Prop := (∀ b o, H b = some o → b ≠ h → H' b = some o) ∧ ∀ l n m, H h = some (.dK (hd0 l n m)) → ∃ n' m', H' h = some (.dK (hd0 l n' m'))
theorem Kp.refl (h : Addr) (H : Hp) : Kp h H H := ⟨fun _ _ e _ => e, fun _ n m e => ⟨n, m, e⟩⟩
theorem Kp.trans {h : Addr} {H H1 H2 : Hp} (a : Kp h H H1) (b : Kp h H1 H2) : Kp h H H2 := ⟨fun c o e n => b.1 c o (a.1 c o e n) n, fun l n m e => let ⟨n', m', e'⟩ := a.2 l n m e; b.2 l n' m' e'⟩
theorem Kp.same {h : Addr} {H H1 : Hp} (a : Same H H1) : Kp h H H1 := ⟨fun c o e _ => a c o e, fun _ n m e => ⟨n, m, a _ _ e⟩⟩
theorem hd_inj {l l' : Addr} {n m n' m' : Int} (h : HO.dK (hd0 l n m) = HO.dK (hd0 l' n' m')) : l = l' := by
  injection h with h
  injection h with h _
  injection h with _ h
  injection h
/-- the held dict put anew -/
theorem Kp.put {h l : Addr} {H : Hp} {n m : Int} (n' m' : Int) (e : H h = some (.dK (hd0 l n m))) : Kp h H (upd H h (.dK (hd0 l n' m'))) := by
  refine ⟨fun c o z ne => by rw [upd_ne ne]; exact z, fun l' n1 m1 z => ⟨n', m', ?_⟩⟩
  rw [upd_same, hd_inj (Option.some.inj (z.symm.trans e))]
theorem Held.same {H H' : Hp} {h : Addr} {c : Nat} (s : Same H H') (x : Held H h c) : Held H' h c := by
  obtain ⟨l, ns, n, m, h1, h2, h3, h4⟩ := x
  exact ⟨l, ns, n, m, s _ _ h1, s _ _ h2, h3, h4⟩
theorem same_new {H : Hp} {p : Addr} {o : HO} (h : H p = none) : Same H (upd H p o) := fun a u e => by
  rw [upd_ne (ne_of_none e h)]
  exact e
theorem dpInts {K : PySem.W.Frag} {H : Hp} : ∀ ns : List Int, DpAll K H (ns.map V.int) (ns.map PyData.int)
  | [] => .nil
  | n :: ns => .cons (.int n) (dpInts ns)
section
variable {P : Program} {w : World} {K : PySem.W.Frag} {mg : Str → Option Value} {base : Heap} {f C : Addr} {fd : FuncData}
def spHeld (K : PySem.W.Frag) : Sp := fun vs H Q _ => ∃ (a : Addr) (ns : List Int), vs = [.ref a] ∧ SqL K H a (ns.map V.int) ∧ ns.length ≤ 63 ∧ ∀ h H', Same H H' → H h = none → Held H' h 900000000 → Q (.ref h) H'
theorem ok_held (F : Dn K d_l_held f fd) (b : Bl mg) : FnOk P w K mg base CX0 1 f fd ["_law_script"] (spHeld K) := by
  refine F.ok sc_l_held (fun vs H Q E h => ?_) (fun cdv A outer s H vs Q E hr h => ?_)
  · obtain ⟨a, ns, rfl, _⟩ := h
    rfl
  · obtain ⟨a, ns, rfl, hS, hlen, hQ⟩ := h
    refine ⟨_, PSs.nox (pss_one (ps_ret (pe_disp (pps_cons pe_str (pe_callTy call_list_of rfl b.list boot_list (pa_cons (pe_slice sl_list (pv 0) po_none (po_some pe_int)) pa_nil)) (pps_cons pe_str pe_int (pps_cons pe_str pe_int pps_nil))) rfl rfl (by simp) (by decide)))), ?_⟩
    intro h hh
    have sS : SqL K (upd H h (.dK [])) a (ns.map V.int) := (same_new hh).seq hS
    refine ⟨_, rfl, 63, rfl, a, _, rfl, sS, fun p hp => ⟨p, _, rfl, Or.inl (SqL.of upd_same), fun l hl => ?_⟩⟩
    have nhp : h ≠ p := ne_of_none upd_same hp
    have nhl : h ≠ l := ne_of_none (by rw [upd_ne nhp]; exact upd_same) hl
    refine ⟨by rw [upd_ne nhl, upd_ne nhp, upd_same], hd0 l 0 0, rfl, by show 3 ≤ 15; decide, ?_⟩
    have e : cutV (ns.map V.int) none (some 63) = (ns.take 63).map V.int := by
      unfold cutV
      simp [HT.sIx, List.map_take]
    refine hQ h _ (fun c o z => ?_) hh ⟨l, ns.take 63, 0, 0, ?_, ?_, by decide, by decide⟩
    · have z1 : c ≠ h := ne_of_none z hh
      have z2 : (upd H h (.dK [])) c = some o := by rw [upd_ne z1]; exact z
      have z3 : c ≠ p := ne_of_none z2 hp
      have z4 : c ≠ l := ne_of_none (by rw [upd_ne z3]; exact z2) hl
      rw [upd_ne z1, upd_ne z4, upd_ne z3]
      exact z2
    · rw [upd_same, hd_merge]
    · rw [upd_ne nhl.symm, upd_same, ← e]

def spDraw : Sp := fun vs H Q _ => ∃ (h : Addr) (c : Nat) (k : Int), vs = [.ref h, .int k] ∧ Held H h (c + 1) ∧ 0 < k ∧ k < 1073741824 ∧
  ∀ r H', 0 ≤ r → r < k → Held H' h c → Kp h H H' → Q (.int r) H'
theorem cb_l {i j : Int} (h1 : -(2 ^ 64) < i) (h2 : i < 2 ^ 64) : CMul i j := .inl ⟨h1, h2⟩
theorem cb_r {i j : Int} (h1 : -(2 ^ 64) < j) (h2 : j < 2 ^ 64) : CMul i j := .inr ⟨h1, h2⟩
theorem ok_draw (F : Dn K d_l_draw f fd) (b : Bl mg) : FnOk P w K mg base CX0 1 f fd ["_law_held_here", "_law_many"] spDraw := by
  refine F.ok sc_l_draw (fun vs H Q E h => ?_) (fun cdv A outer s H vs Q E hr h => ?_)
  · obtain ⟨h, c, k, rfl, _⟩ := h
    rfl
  · obtain ⟨h, c, k, rfl, ⟨l, ns, n, m, hh, hl, hn, hc⟩, hk0, hk1, hQ⟩ := h
    have hu := hu_of hr
    have hu64 : (A.deeper (envOfC d_l_draw.qual d_l_draw.scope s.heap.objs.size f cdv)).units + 64 < cLine := by have := hr.un; omega
    have nlh : l ≠ h := ne_of hl hh (by intro z; cases z)
    refine ⟨_, PSs.nox (pss_cons (ps_if (pt_cmpR op_gt (pe_dget hu (pv 0) pe_str (fun _ _ => rfl)) pe_int (nomark _))
         (pss_cons (ps_set (i := 2) sc_l_draw.nd rfl (.inl rfl) (pe_op op_mod (pe_dget hu (pv 0) pe_str (fun _ _ => rfl)) (pv 1)))
         (pss_cons (ps_dput hu (pv 0) pe_str (pe_op op_fdiv (pe_dget hu (pv 0) pe_str (fun _ _ => rfl)) (pv 1)) rfl)
         (pss_one (ps_ret (pv 2))))) pss_nil)
      (pss_cons (ps_set (i := 3) sc_l_draw.nd rfl (.inl rfl) (pe_dget hu (pv 0) pe_str (fun _ _ => rfl)))
      (pss_cons (ps_dput hu (pv 0) pe_str (pe_op op_add (pv 3) pe_int) rfl)
      (C8.pss_cut (ps_set (i := 4) sc_l_draw.nd rfl (.inl rfl) (pe_ifExp (pt_cmpR (op_neD hu64) (pe_dget hu (pv 0) pe_str (fun _ _ => rfl)) (pe_lst pa_nil) (nomark _))
        (pe_ix ix_list (pe_dget hu (pv 0) pe_str (fun _ _ => rfl)) (pe_op op_mod (pv 3) (pe_callB call_len_seq rfl b.len boot_len (pa_cons (pe_dget hu (pv 0) pe_str (fun _ _ => rfl)) pa_nil))) (fun _ _ => rfl)) pe_int))
      (pss_cons (ps_if (PW.pt (pw_and (pt_cmpR op_ge (pv 4) (pe_op op_pow pe_int pe_int) (nomark _)) (pw_and1 (pt_cmpR op_lt (pv 3) (pe_callB call_len_seq rfl b.len boot_len (pa_cons (pe_dget hu (pv 0) pe_str (fun _ _ => rfl)) pa_nil)) (nomark _)))))
         (pss_cons (ps_dput hu (pv 0) pe_str (pe_op op_fdiv (pe_op op_sub (pv 4) (pe_op op_pow pe_int pe_int)) (pv 1)) rfl)
         (pss_one (ps_ret (pe_op op_mod (pe_op op_sub (pv 4) (pe_op op_pow pe_int pe_int)) (pv 1))))) pss_nil)
      (pss_cons (ps_set (i := 5) sc_l_draw.nd rfl (.inl rfl) (pe_op op_mod (pe_op op_add (pe_op op_add (pe_op op_add (pe_op op_mul (pe_op op_mod (pv 4) pe_int) pe_int) (pe_op op_mul (pe_op op_mul pe_int (pv 3)) (pv 3))) (pe_op op_mul pe_int (pv 3))) pe_int) pe_int))
      (pss_cons (ps_set (i := 5) sc_l_draw.nd rfl (.inl rfl) (pe_op op_mod (pe_op op_add (pe_op op_add (pe_op op_mul (pv 5) pe_int) (pe_op op_fdiv (pv 5) pe_int)) pe_int) pe_int))
      (pss_one (ps_ret (pe_op op_mod (pe_op op_fdiv (pv 5) pe_int) (pv 1))))))))))), ?_⟩
    have cM : ∀ x y : Int, 0 < y → (0 ≤ x % y ∧ x % y < y) := fun x y hy => ⟨Int.emod_nonneg _ (by omega), Int.emod_lt_of_pos _ hy⟩
    refine ⟨_, rfl, h, _, rfl, hd_left l n m ▸ DGet.k (k := Sum.inr "left") hh, _, _, rfl, rfl, _, rfl, ?_⟩
    refine ite2 (fun h1 => ?_) (fun h1 => ?_)
    · refine ⟨_, rfl, h, _, rfl, hd_left l n m ▸ DGet.k (k := Sum.inr "left") hh, _, rfl, _, _, rfl, rfl, hk0, ?_⟩
      refine ⟨_, rfl, h, _, rfl, hd_left l n m ▸ DGet.k (k := Sum.inr "left") hh, _, rfl, _, _, rfl, rfl, ⟨hk0, hk1⟩, _, rfl, h, _, rfl, DPut.k (k := Sum.inr "left") hh (by show 3 < sizeLine; decide), ?_⟩
      refine ⟨_, rfl, hQ _ _ (cM _ _ hk0).1 (cM _ _ hk0).2 ⟨l, ns, n, m / k, ?_, ?_, hn, by omega⟩ ?_⟩
      · rw [upd_same, put_left]
      · rw [upd_ne nlh]; exact hl
      · rw [put_left]; exact Kp.put _ _ hh
    · refine ⟨_, rfl, h, _, rfl, hd_at l n m ▸ DGet.k (k := Sum.inr "at") hh, ?_⟩
      refine ⟨_, rfl, _, _, rfl, rfl, _, rfl, h, _, rfl, DPut.k (k := Sum.inr "at") hh (by show 3 < sizeLine; decide), ?_⟩
      rw [put_at]
      have hh1 : (upd H h (.dK (hd0 l (n + 1) m))) h = some (.dK (hd0 l (n + 1) m)) := upd_same
      have hl1 : (upd H h (.dK (hd0 l (n + 1) m))) l = some (.lst (ns.map V.int)) := by rw [upd_ne nlh]; exact hl
      have kp1 : Kp h H (upd H h (.dK (hd0 l (n + 1) m))) := Kp.put _ _ hh
      refine ⟨fun σ' H' => ∃ (cell : Int), σ' = [some (.ref h), some (.int k), none, some (.int n), some (.int cell), none] ∧ H' h = some (.dK (hd0 l (n + 1) m)) ∧ H' l = some (.lst (ns.map V.int)) ∧ Kp h H H', ?_, ?_⟩
      · refine ⟨_, rfl, h, _, rfl, hd_cells l (n + 1) m ▸ DGet.k (k := Sum.inr "cells") hh1, (by show 0 ≤ sizeLine; decide), fun e he => ?_⟩
        have nhe : h ≠ e := ne_of_none hh1 he
        have nle : l ≠ e := ne_of_none hl1 he
        have hh2 : (upd (upd H h (.dK (hd0 l (n + 1) m))) e (.lst [])) h = some (.dK (hd0 l (n + 1) m)) := by rw [upd_ne nhe]; exact hh1
        have hl2 : (upd (upd H h (.dK (hd0 l (n + 1) m))) e (.lst [])) l = some (.lst (ns.map V.int)) := by rw [upd_ne nle]; exact hl1
        have kp2 : Kp h H (upd (upd H h (.dK (hd0 l (n + 1) m))) e (.lst [])) := kp1.trans (Kp.same (same_new he))
        refine ⟨.list (ns.map .int), .list [], Dp.lst (SqL.of hl2) (dpInts ns), Dp.lst (SqL.of upd_same) .nil, PySem.W.ke_shaped_ints ns, by decide, _, rfl, ?_⟩
        cases ns with
        | nil => exact iteF ⟨0, rfl, hh2, hl2, kp2⟩
        | cons z zs =>
          refine iteT ?_
          have hlen : (0 : Int) < (((z :: zs).map V.int).length : Int) := by simp
          refine ⟨_, rfl, h, _, rfl, hd_cells l (n + 1) m ▸ DGet.k (k := Sum.inr "cells") hh2, _, rfl, _, rfl, h, _, rfl, hd_cells l (n + 1) m ▸ DGet.k (k := Sum.inr "cells") hh2, l, _, rfl, Or.inl (SqL.of hl2), _, _, rfl, rfl, hlen, ?_⟩
          obtain ⟨q, hq⟩ := Int.eq_ofNat_of_zero_le (cM n _ hlen).1
          have hq2 := (cM n _ hlen).2
          rw [hq] at hq2
          have hq3 : q < (z :: zs).length := by rw [List.length_map] at hq2; omega
          refine ⟨l, _, _, .int ((z :: zs)[q]), rfl, rfl, SqL.of hl2, (by rw [hq]; exact atI_nat (by rw [List.getElem?_map, List.getElem?_eq_getElem hq3]; rfl)), ?_⟩
          exact ⟨_, rfl, hh2, hl2, kp2⟩
      · rintro σ' H' ⟨cell, rfl, hh2, hl2, kp2⟩
        have stay : ∀ m', Held (upd H' h (.dK (hd0 l (n + 1) m'))) h c := fun m' => ⟨l, ns, n + 1, m', upd_same, by rw [upd_ne nlh]; exact hl2, by omega, by omega⟩
        have stay0 : Held H' h c := ⟨l, ns, n + 1, m, hh2, hl2, by omega, by omega⟩
        have last : ∀ D : Ends, D.rt = Q → tSeq (tAsg (tOp (rI (fun _ j => 0 < j) fun i j => .int (i % j)) (tOp (rI0 fun i j => .int (i + j)) (tOp (rI0 fun i j => .int (i + j)) (tOp (rI0 fun i j => .int (i + j))
            (tOp (rI CMul fun i j => .int (i * j)) (tOp (rI (fun _ j => 0 < j) fun i j => .int (i % j)) (tVar 4) (tC (.int 2147483587))) (tC (.int 40692))) (tOp (rI CMul fun i j => .int (i * j)) (tOp (rI CMul fun i j => .int (i * j)) (tC (.int 7907)) (tVar 3)) (tVar 3)))
            (tOp (rI CMul fun i j => .int (i * j)) (tC (.int 104729)) (tVar 3))) (tC (.int 17))) (tC (.int 2147483629))) (gName 5))
          (tSeq (tAsg (tOp (rI (fun _ j => 0 < j) fun i j => .int (i % j)) (tOp (rI0 fun i j => .int (i + j)) (tOp (rI0 fun i j => .int (i + j)) (tOp (rI CMul fun i j => .int (i * j)) (tVar 5) (tC (.int 48271))) (tOp (rI CDiv fun i j => .int (i / j)) (tVar 5) (tC (.int 127)))) (tC (.int 31))) (tC (.int 2147483647))) (gName 5))
          (tRet (tOp (rI (fun _ j => 0 < j) fun i j => .int (i % j)) (tOp (rI CDiv fun i j => .int (i / j)) (tVar 5) (tC (.int 89))) (tVar 1)))) D [some (.ref h), some (.int k), none, some (.int n), some (.int cell), none] H' := by
          intro D hD
          refine ⟨_, rfl, _, _, rfl, rfl, (by decide : (0 : Int) < 2147483587), _, _, rfl, rfl, cb_r (by decide) (by decide), _, rfl, _, _, rfl, rfl, cb_l (by decide) (by decide), _, rfl, _, _, rfl, rfl, cb_r (by omega) (by omega), _, _, rfl, rfl, ?_⟩
          refine ⟨_, rfl, _, _, rfl, rfl, cb_l (by decide) (by decide), _, _, rfl, rfl, _, _, rfl, rfl, _, _, rfl, rfl, (by decide : (0 : Int) < 2147483629), ?_⟩
          refine ⟨_, rfl, _, _, rfl, rfl, cb_r (by decide) (by decide), _, rfl, _, _, rfl, rfl, ⟨by decide, by decide⟩, _, _, rfl, rfl, _, _, rfl, rfl, _, _, rfl, rfl, (by decide : (0 : Int) < 2147483647), ?_⟩
          refine ⟨_, rfl, _, _, rfl, rfl, ⟨by decide, by decide⟩, _, rfl, _, _, rfl, rfl, hk0, ?_⟩
          rw [hD]
          exact hQ _ _ (cM _ _ hk0).1 (cM _ _ hk0).2 stay0 kp2
        refine ⟨_, rfl, _, _, rfl, rfl, ⟨by decide, by decide, by decide⟩, _, _, rfl, rfl, _, rfl, ?_⟩
        refine ite2 (fun g1 => ?_) (fun g1 => iteF (last _ rfl))
        refine ⟨_, rfl, _, rfl, h, _, rfl, hd_cells l (n + 1) m ▸ DGet.k (k := Sum.inr "cells") hh2, l, _, rfl, Or.inl (SqL.of hl2), _, _, rfl, rfl, _, rfl, ?_⟩
        refine ite2 (fun g2 => ?_) (fun g2 => last _ rfl)
        refine ⟨_, rfl, _, _, rfl, rfl, ⟨by decide, by decide, by decide⟩, _, _, rfl, rfl, _, rfl, _, _, rfl, rfl, ⟨hk0, hk1⟩, _, rfl, h, _, rfl, DPut.k (k := Sum.inr "left") hh2 (by show 3 < sizeLine; decide), ?_⟩
        refine ⟨_, rfl, _, _, rfl, rfl, ⟨by decide, by decide, by decide⟩, _, _, rfl, rfl, _, rfl, _, _, rfl, rfl, hk0, ?_⟩
        rw [put_left]
        refine hQ _ _ (cM _ _ hk0).1 (cM _ _ hk0).2 (stay _) (kp2.trans (Kp.put _ _ hh2))
end
end K35
set_option Elab.async false
set_option linter.all false
set_option maxRecDepth 100000
set_option maxHeartbeats 4000000
namespace K35
open PySem PySem.Spec PyProof.Rows L2
open C8 (Cal Mak Met pe_c pe_mk pe_mt pe_mt0)
open KM (pr Sz)
/-- what isinstance asks of the class -/
structure IsC (K : PySem.W.Frag) (C : Addr) : Prop where
  ha : PySem.W.findIn K (.ref C) "__class__" = some (some (.builtin "object.__class__"))
  hn : PySem.W.specialIn K (.builtin "object.__class__") "__get__" = some (some (.builtin "getset_descriptor.__get__"))
  htk : PySem.W.takesIn K (.builtin "object.__class__") = some true
  hm : PySem.W.mroIn K C (.type "object") = some true
  kit : PySem.W.kitOne K (.ref C) (.ref C) = some true
theorem bd_of {n : Nat} {r : Rat} (h : Sz n r) : Bd n (pr r) := ⟨h.1, KM.den_pos r, by simpa [pr] using h.2⟩

section
variable {P : Program} {w : World} {K : PySem.W.Frag} {mg : Str → Option Value} {base : Heap} {f C : Addr} {fd : FuncData}
abbrev CalD (P : Program) (w : World) (K : PySem.W.Frag) (mg : Str → Option Value) (base : Heap) : Prop := Cal P w K mg base 1 "_law_draw" spDraw []
def tupP (q : Int × Int) : HO := .tup [.int q.1, .int q.2]
theorem at0 {a b : V} : atI [a, b] 0 = some a := rfl
theorem at1 {a b : V} : atI [a, b] 1 = some b := rfl
def spPair (C : Addr) : Sp := fun vs H Q _ => ∃ (p : Addr) (q : Int × Int), vs = [.ref p] ∧ Sh C H p q ∧ ∀ r H', Same H H' → H r = none → H' r = some (tupP q) → Q (.ref r) H'
theorem ok_pair (F : Dn K d_l_pair f fd) (b : Bl mg) (T : Cl K mg C) (S : IsC K C) : FnOk P w K mg base CX0 1 f fd ["_law_share"] (spPair C) := by
  refine F.ok sc_l_pair (fun vs H Q E h => ?_) (fun cdv A outer s H vs Q E hr h => ?_)
  · obtain ⟨p, q, rfl, _⟩ := h
    rfl
  · obtain ⟨p, q, rfl, ⟨dp, hp⟩, hQ⟩ := h
    refine ⟨_, PSs.nox (pss_cons (ps_if (pt_not (pt_val (pe_callB call_isi rfl b.isi boot_isinstance (pa_cons (pv 0) (pa_cons (pe_glob (v := .ref C) rfl T.g rfl) pa_nil))))) pss_never pss_nil)
      (pss_cons (ps_for PassesOwn.never rfl (pi_tup (pe_tup (pa_cons (pe_fld (pv 0) rfl) (pa_cons (pe_fld (pv 0) rfl) pa_nil)))) (pg_name (i := 1) sc_l_pair.nd rfl (.inl rfl))
        (pss_one (ps_if (PW.pt (pw_or (pt_not (pt_val (pe_callB call_isi rfl b.isi boot_isinstance (pa_cons (pv 1) (pa_cons (pe_bltn (v := .ty "int") rfl b.int boot_int rfl) pa_nil)))))
          (pw_or1 (pt_val (pe_callB call_isi rfl b.isi boot_isinstance (pa_cons (pv 1) (pa_cons (pe_bltn (v := .ty "bool") rfl b.bool boot_bool rfl) pa_nil))))))) pss_never pss_nil)))
      (pss_one (ps_ret (pe_tup (pa_cons (pe_fld (pv 0) rfl) (pa_cons (pe_fld (pv 0) rfl) pa_nil))))))), ?_⟩
    refine ⟨_, rfl, _, _, _, _, true, rfl, ClsV.own C, TyX.base (TyOf.ins hp T.cl S.ha S.hn S.htk S.hm), S.kit, true, rfl, ?_⟩
    refine iteF ?_
    refine ⟨_, rfl, p, C, dp, _, _, rfl, hp, T.cl, T.nt, shF_top q, _, rfl, p, C, dp, _, _, rfl, hp, T.cl, T.nb, shF_bot q, by show 2 ≤ sizeLine; decide, fun u hu => ?_⟩
    have npu : p ≠ u := ne_of_none hp hu
    refine ⟨u, rfl, ⟨_, SqT.of upd_same⟩, for_tup (K := K) (xs := [.int q.1, .int q.2]) (fun i σ H2 => H2 = upd H u (.tup [.int q.1, .int q.2]) ∧ ∃ v, σ = [some (.ref p), v])
      ⟨rfl, none, rfl⟩ (fun i σ H2 _ h => by rw [h.1]; exact SqT.of upd_same) ?_ ?_⟩
    · rintro i y σ H2 hi ⟨rfl, v, rfl⟩
      have hy : ∃ n : Int, y = .int n := by
        match i, hi with
        | 0, e => exact ⟨_, (Option.some.inj e).symm⟩
        | 1, e => exact ⟨_, (Option.some.inj e).symm⟩
      obtain ⟨n, rfl⟩ := hy
      refine ⟨_, rfl, _, _, _, _, true, rfl, ClsV.ty _, TyX.base (TyOf.int n), kit_ty (by decide +kernel), true, rfl, ?_⟩
      refine iteF ?_
      refine ⟨_, rfl, _, _, _, _, false, rfl, ClsV.ty _, TyX.base (TyOf.int n), kit_ty (by decide +kernel), false, rfl, ?_⟩
      exact iteF ⟨rfl, _, rfl⟩
    · rintro σ H2 ⟨rfl, v, rfl⟩
      have hp2 : (upd H u (.tup [.int q.1, .int q.2])) p = some (.ins C dp (shF q)) := by rw [upd_ne npu]; exact hp
      refine ⟨_, rfl, p, C, dp, _, _, rfl, hp2, T.cl, T.nt, shF_top q, _, rfl, p, C, dp, _, _, rfl, hp2, T.cl, T.nb, shF_bot q, by show 2 ≤ sizeLine; decide, fun r hr => ?_⟩
      exact hQ r _ ((same_new hu).trans (same_new hr)) ((same_new hu).free hr) upd_same
/-- two Shares in, a Share out -/
def sp2 (C : Addr) (g : Rat → Rat → Rat) : Sp := fun vs H Q _ => ∃ (p q : Addr) (r s : Rat) (n : Nat), vs = [.ref p, .ref q] ∧ Sh C H p (pr r) ∧ Sh C H q (pr s) ∧ Sz n r ∧ Sz n s ∧ 0 < n ∧ n ≤ 4000 ∧
  ∀ t H', Same H H' → H t = none → Sh C H' t (pr (g r s)) → Q (.ref t) H'
theorem plusR {vs : List V} {H : Hp} {Q : VK} {E : XK} (h : sp2 C (· + ·) vs H Q E) : sp_plus C vs H Q E := by
  obtain ⟨p, q, r, s, n, e, hp, hq, sr, ss, n0, n9, k⟩ := h
  refine ⟨p, q, _, _, n, e, hp, hq, ⟨bd_of sr, bd_of ss, n0, n9⟩, fun t H' a b c => k t H' a b ?_⟩
  rw [KM.pr_plus] at c
  exact c
/-- a Share and a whole number in, a Share out -/
def sp1 (C : Addr) (ok : Int → Prop) (g : Rat → Int → Rat) : Sp := fun vs H Q _ => ∃ (p : Addr) (r : Rat) (k : Int) (n : Nat), vs = [.ref p, .int k] ∧ Sh C H p (pr r) ∧ Sz n r ∧ ok k ∧ k.natAbs < 2 ^ n ∧ 0 < n ∧ n ≤ 4000 ∧
  ∀ t H', Same H H' → H t = none → Sh C H' t (pr (g r k)) → Q (.ref t) H'
theorem timesR {vs : List V} {H : Hp} {Q : VK} {E : XK} (h : sp1 C (fun _ => True) (fun r k => r * Rat.divInt k 1) vs H Q E) : sp_times C vs H Q E := by
  obtain ⟨p, r, k, n, e, hp, sr, _, hk, n0, n9, q⟩ := h
  refine ⟨p, _, k, n, e, hp, bd_of sr, hk, n0, n9, fun t H' a b c => q t H' a b ?_⟩
  rw [KM.pr_times] at c
  exact c
theorem overR {vs : List V} {H : Hp} {Q : VK} {E : XK} (h : sp1 C (fun k => k ≠ 0) (fun r k => r * Rat.divInt 1 k) vs H Q E) : sp_over C vs H Q E := by
  obtain ⟨p, r, k, n, e, hp, sr, h0, hk, n0, n9, q⟩ := h
  refine ⟨p, _, k, n, e, hp, bd_of sr, h0, hk, n0, n9, fun t H' a b c => q t H' a b ?_⟩
  rw [KM.pr_over r h0] at c
  exact c
abbrev MakS1 (P : Program) (w : World) (K : PySem.W.Frag) (mg : Str → Option Value) (base : Heap) (C : Addr) : Prop := Mak P w K mg base 2 "Share" C (spInit C) [.int 1]
theorem mk_in {C x dx : Addr} {H1 : Hp} {t b : Int} {n : Nat} {Qv : VK} {E : XK} (nx : H1 x = none) (nd : H1 dx = none) (hb : b ≠ 0) (hn : b.natAbs < 2 ^ n) (hn0 : 0 < n) (hn9 : n ≤ 9000)
    (hQ : ∀ H', Same H1 H' → Sh C H' x (pr (Rat.divInt t b)) → Qv .non H') : spInit C [.ref x, .int t, .int b] (upd (upd H1 dx (.own x)) x (.ins C dx [])) Qv E := by
  refine ⟨x, dx, t, b, n, rfl, hb, hn, hn0, hn9, upd_same, fun H' kp hp => hQ H' (fun a o e => ?_) ⟨dx, KM.low_eq hb ▸ hp⟩⟩
  refine kp a o (ne_of_none e nx) ?_
  rw [upd_ne (ne_of_none e nx), upd_ne (ne_of_none e nd)]
  exact e
end
end K35
set_option Elab.async false
set_option linter.all false
set_option maxRecDepth 100000
set_option maxHeartbeats 4000000
namespace K35
open PySem PySem.Spec PyProof.Rows L2
open C8 (Cal Mak Met pe_c pe_mk pe_mt pe_mt0)
open KM (pr Sz)
/-! ### the sums, as rational numbers -/
def spr (g : Int) : Rat := if g = 0 then Rat.divInt 0 1 else Rat.divInt 1 (2 * g)
def stp (g m : Int) : Rat := Rat.divInt m (m + 1) + spr g
def sO (g : Int) : Nat → Rat
  | 0 => Rat.divInt 0 1
  | k + 1 => sO g k + stp g (1 + (k : Int)) * Rat.divInt (1 + (k : Int)) 1
def sE (n g : Int) : Nat → Rat
  | 0 => Rat.divInt 0 1
  | k + 1 => sE n g k + stp g (1 + (k : Int)) * Rat.divInt (n - (1 + (k : Int))) 1
def bO (n g : Int) : Nat → Rat
  | 0 => Rat.divInt 0 1
  | k + 1 => bO n g k + Rat.divInt (2 * (1 + (k : Int)) * (stp g (1 + (k : Int))).num) (n * (stp g (1 + (k : Int))).den)
def bE (n g : Int) : Nat → Rat
  | 0 => Rat.divInt 0 1
  | k + 1 => bE n g k + Rat.divInt (2 * (n - (1 + (k : Int))) * (stp g (1 + (k : Int))).num) (n * (stp g (1 + (k : Int))).den)
theorem part_eq (s : Rat) (m n : Int) : Rat.divInt (2 * m * s.num) (n * s.den) = s * Rat.divInt m 1 * Rat.divInt 2 1 * Rat.divInt 1 n := by
  have e : s * Rat.divInt m 1 * Rat.divInt 2 1 * Rat.divInt 1 n = Rat.divInt s.num s.den * Rat.divInt m 1 * Rat.divInt 2 1 * Rat.divInt 1 n := by rw [Rat.num_divInt_den]
  rw [e, Rat.divInt_mul_divInt, Rat.divInt_mul_divInt, Rat.divInt_mul_divInt]
  congr 1
  · rw [Int.mul_one, Int.mul_comm (s.num * m) 2, Int.mul_comm s.num m, Int.mul_assoc]
  · rw [Int.mul_one, Int.mul_one, Int.mul_comm]
theorem zero_mul' (a b : Rat) : Rat.divInt 0 1 = Rat.divInt 0 1 * a * b := by
  have z : Rat.divInt 0 1 = 0 := by rfl
  rw [z, Rat.zero_mul, Rat.zero_mul]
theorem bO_eq (n g : Int) : ∀ k, bO n g k = sO g k * Rat.divInt 2 1 * Rat.divInt 1 n
  | 0 => zero_mul' _ _
  | k + 1 => by
    show bO n g k + _ = (sO g k + _) * _ * _
    rw [bO_eq n g k, part_eq, Rat.add_mul, Rat.add_mul]
theorem bE_eq (n g : Int) : ∀ k, bE n g k = sE n g k * Rat.divInt 2 1 * Rat.divInt 1 n
  | 0 => zero_mul' _ _
  | k + 1 => by
    show bE n g k + _ = (sE n g k + _) * _ * _
    rw [bE_eq n g k, part_eq, Rat.add_mul, Rat.add_mul]
theorem sz0 : Sz 1 (Rat.divInt 0 1) := KM.sz_of_low (by decide) (by decide) (by decide)
theorem sz_spr {g : Int} (h0 : 0 ≤ g) (h1 : g ≤ 1000) : Sz 11 (spr g) := by
  unfold spr
  split
  · exact sz0.mono (by decide)
  · exact KM.sz_of_low (by omega) (by decide) (by omega)
theorem sz_stp {g m : Int} (h0 : 0 ≤ g) (h1 : g ≤ 1000) (m0 : 0 ≤ m) (m1 : m < 62) : Sz 18 (stp g m) :=
  (KM.sz_plus (KM.sz_of_low (n := 6) (by omega) (by omega) (by omega)) (sz_spr h0 h1)).1
theorem sz_sO {g : Int} (h0 : 0 ≤ g) (h1 : g ≤ 1000) : ∀ k, k < 60 → Sz (1 + 25 * k) (sO g k)
  | 0, _ => sz0
  | k + 1, hk => (KM.sz_plus (sz_sO h0 h1 k (by omega)) (KM.sz_times (m := 6) (sz_stp h0 h1 (by omega) (by omega)) (by omega))).1.mono (by omega)
theorem sz_sE {n g : Int} (n0 : 1 ≤ n) (n1 : n ≤ 60) (h0 : 0 ≤ g) (h1 : g ≤ 1000) : ∀ k, k < 60 → Sz (1 + 25 * k) (sE n g k)
  | 0, _ => sz0
  | k + 1, hk => (KM.sz_plus (sz_sE n0 n1 h0 h1 k (by omega)) (KM.sz_times (m := 6) (sz_stp h0 h1 (by omega) (by omega)) (by omega))).1.mono (by omega)
theorem pow_add' {x y n m : Nat} (h1 : x < 2 ^ n) (h2 : y < 2 ^ m) : x * y < 2 ^ (n + m) := KM.two_lt h1 h2
/-- a part of the law's sum: small enough -/
theorem bd_part {s : Rat} {m n : Int} (hs : Sz 18 s) (m1 : m.natAbs < 2 ^ 6) (n0 : 1 ≤ n) (n1 : n ≤ 60) : Bd 25 (2 * m * s.num, n * s.den) := by
  refine ⟨?_, ?_, ?_⟩
  · show (2 * m * s.num).natAbs < 2 ^ 25
    rw [Int.natAbs_mul]
    exact pow_add' (n := 7) (m := 18) (by omega) hs.1
  · show 0 < n * (s.den : Int)
    exact Int.mul_pos (by omega) (KM.den_pos s)
  · show (n * (s.den : Int)).natAbs < 2 ^ 25
    rw [Int.natAbs_mul]
    exact pow_add' (n := 7) (m := 18) (by omega) (by simpa using hs.2)
theorem sz_bd {n : Nat} {q : Int × Int} (h : Bd n q) : Sz n (Rat.divInt q.1 q.2) := KM.sz_of_low (by have := h.2.1; omega) h.1 h.2.2
theorem sz_bO {n g : Int} (n0 : 1 ≤ n) (n1 : n ≤ 60) (h0 : 0 ≤ g) (h1 : g ≤ 1000) : ∀ k, k < 60 → Sz (1 + 26 * k) (bO n g k)
  | 0, _ => sz0
  | k + 1, hk => (KM.sz_plus (sz_bO n0 n1 h0 h1 k (by omega)) (sz_bd (bd_part (sz_stp h0 h1 (m := 1 + (k : Int)) (by omega) (by omega)) (by omega) n0 n1))).1.mono (by omega)
theorem sz_bE {n g : Int} (n0 : 1 ≤ n) (n1 : n ≤ 60) (h0 : 0 ≤ g) (h1 : g ≤ 1000) : ∀ k, k < 60 → Sz (1 + 26 * k) (bE n g k)
  | 0, _ => sz0
  | k + 1, hk => (KM.sz_plus (sz_bE n0 n1 h0 h1 k (by omega)) (sz_bd (bd_part (sz_stp h0 h1 (m := 1 + (k : Int)) (by omega) (by omega)) (m := n - (1 + (k : Int))) (by omega) n0 n1))).1.mono (by omega)
theorem pr_part (r : Rat) {x y : Int} (h : y ≠ 0) : KM.low ((pr r).1 * y + x * (pr r).2) ((pr r).2 * y) = pr (r + Rat.divInt x y) := by
  show KM.low (r.num * y + x * r.den) (r.den * y) = _
  rw [KM.low_eq (Int.mul_ne_zero (KM.den_ne r) h), ← Rat.divInt_add_divInt _ _ (KM.den_ne r) h, Rat.num_divInt_den]
theorem pr_two {a b x y : Int} (hb : b ≠ 0) (h : y ≠ 0) : KM.low (a * y + x * b) (b * y) = pr (Rat.divInt a b + Rat.divInt x y) := by
  rw [KM.low_eq (Int.mul_ne_zero hb h), ← Rat.divInt_add_divInt _ _ hb h]
theorem big2 : (2 : Int).natAbs < 2 ^ 2000 := Nat.lt_of_lt_of_le (by decide : 2 < 2 ^ 2) (Nat.pow_le_pow_right (by decide) (by decide))
theorem bigN {n : Int} (n0 : 1 ≤ n) (n1 : n ≤ 60) : n.natAbs < 2 ^ 2000 := Nat.lt_of_lt_of_le (by omega : n.natAbs < 2 ^ 6) (Nat.pow_le_pow_right (by decide) (by decide))
theorem Bd.mono {n m : Nat} {q : Int × Int} (h : Bd n q) (hm : n ≤ m) : Bd m q := ⟨Nat.lt_of_lt_of_le h.1 (Nat.pow_le_pow_right (by decide) hm), h.2.1, Nat.lt_of_lt_of_le h.2.2 (Nat.pow_le_pow_right (by decide) hm)⟩
/-- the methods -/
structure Ms (P : Program) (w : World) (K : PySem.W.Frag) (mg : Str → Option Value) (base : Heap) (C : Addr) : Prop where
  plus : Met P w K mg base 4 C "plus" (sp2 C (· + ·)) []
  times : Met P w K mg base 4 C "times" (sp1 C (fun _ => True) (fun r k => r * Rat.divInt k 1)) []
  over : Met P w K mg base 4 C "over" (sp1 C (fun k => k ≠ 0) (fun r k => r * Rat.divInt 1 k)) []
section
variable {P : Program} {w : World} {K : PySem.W.Frag} {mg : Str → Option Value} {base : Heap} {f C : Addr} {fd : FuncData}
def spNB (C : Addr) : Sp := fun vs H Q _ => ∃ (n g : Int), vs = [.int n, .int g] ∧ 1 ≤ n ∧ n ≤ 60 ∧ 0 ≤ g ∧ g ≤ 1000 ∧
  ∀ t p q H', Same H H' → H' t = some (.tup [.ref p, .ref q]) → Sh C H' p (pr (bO n g (n - 1).toNat)) → Sh C H' q (pr (bE n g (n - 1).toNat)) → Q (.ref t) H'
theorem noM (q : Int × Int) (m : Str) (h1 : ¬ m = "bottom") (h2 : ¬ m = "top") : (shF q).lookup m = none := shF_no q h1 h2
theorem ok_nb (F : Dn K d_never_beyond f fd) (bl : Bl mg) (MS : MakS P w K mg base C) (M1 : MakS1 P w K mg base C) (M : Ms P w K mg base C) : FnOk P w K mg base CX0 5 f fd ["many", "grain"] (spNB C) := by
  refine F.ok sc_never_beyond (fun vs H Q E h => ?_) (fun cdv A outer s H vs Q E hr h => ?_)
  · obtain ⟨n, g, rfl, _⟩ := h
    rfl
  · obtain ⟨n, g, rfl, n0, n1, g0, g1, hQ⟩ := h
    refine ⟨_, PSs.nox (C8.pss_cut (ps_set (i := 2) sc_never_beyond.nd rfl (.inl rfl) (pe_ifExp (pt_cmpR op_eq (pv 1) pe_int (nomark _)) (pe_mk M1 hr (by decide) rfl (pa_cons pe_int pa_nil)) (pe_mk MS hr (by decide) rfl (pa_cons pe_int (pa_cons (pe_op op_mul pe_int (pv 1)) pa_nil)))))
      (pss_cons (ps_set (i := 3) sc_never_beyond.nd rfl (.inl rfl) (pe_mk M1 hr (by decide) rfl (pa_cons pe_int pa_nil)))
      (pss_cons (ps_set (i := 4) sc_never_beyond.nd rfl (.inl rfl) (pe_mk M1 hr (by decide) rfl (pa_cons pe_int pa_nil)))
      (pss_cons (ps_for PassesOwn.never rfl (pi_range2 rfl bl.range (pa_cons pe_int (pa_cons (pv 0) pa_nil))) (pg_name (i := 5) sc_never_beyond.nd rfl (.inl rfl))
        (pss_cons (ps_set (i := 6) sc_never_beyond.nd rfl (.inl rfl) (pe_mt M.plus hr (by decide) (pe_mk MS hr (by decide) rfl (pa_cons (pv 5) (pa_cons (pe_op op_add (pv 5) pe_int) pa_nil))) (pa_cons (pv 2) pa_nil)))
        (pss_cons (ps_set (i := 3) sc_never_beyond.nd rfl (.inl rfl) (pe_mt M.plus hr (by decide) (pv 3) (pa_cons (pe_mt M.times hr (by decide) (pv 6) (pa_cons (pv 5) pa_nil)) pa_nil)))
        (pss_one (ps_set (i := 4) sc_never_beyond.nd rfl (.inl rfl) (pe_mt M.plus hr (by decide) (pv 4) (pa_cons (pe_mt M.times hr (by decide) (pv 6) (pa_cons (pe_op op_sub (pv 0) (pv 5)) pa_nil)) pa_nil)))))))
      (pss_one (ps_ret (pe_tup (pa_cons (pe_mt M.over hr (by decide) (pe_mt M.times hr (by decide) (pv 3) (pa_cons pe_int pa_nil)) (pa_cons (pv 0) pa_nil))
        (pa_cons (pe_mt M.over hr (by decide) (pe_mt M.times hr (by decide) (pv 4) (pa_cons pe_int pa_nil)) (pa_cons (pv 0) pa_nil)) pa_nil))))))))), ?_⟩
    refine ⟨fun σ' H' => ∃ sp : Addr, σ' = [some (.int n), some (.int g), some (.ref sp), none, none, none, none] ∧ Same H H' ∧ Sh C H' sp (pr (spr g)), ?_, ?_⟩
    · refine ⟨_, rfl, rfl, _, rfl, ?_⟩
      by_cases hg : g = 0
      · have z : decide (V.int g = V.int 0) = true := by simp [hg]
        rw [z]
        refine iteT ?_
        intro x dx nx nd ne
        refine mk_in (n := 1) nx nd (by decide) (by decide) (by decide) (by decide) fun H' sm hx => ⟨rfl, x, rfl, sm, ?_⟩
        unfold spr
        rw [if_pos hg]
        exact hx
      · have z : decide (V.int g = V.int 0) = false := by simp [hg]
        rw [z]
        refine iteF ?_
        refine ⟨_, rfl, _, _, rfl, rfl, cb_l (by decide) (by decide), ?_⟩
        intro x dx nx nd ne
        refine mk_in (n := 11) nx nd (by omega) (by omega) (by decide) (by decide) fun H' sm hx => ⟨rfl, x, rfl, sm, ?_⟩
        unfold spr
        rw [if_neg hg]
        exact hx
    rintro σ' H1 ⟨sp, rfl, s1, hsp⟩
    intro x dx nx nd ne
    refine mk_in (n := 1) nx nd (by decide) (by decide) (by decide) (by decide) fun H2 s2 hx => ⟨rfl, ?_⟩
    intro y dy ny nd2 ne2
    refine mk_in (n := 1) ny nd2 (by decide) (by decide) (by decide) (by decide) fun H3 s3 hy => ⟨rfl, ?_⟩
    refine ⟨_, rfl, 1, n, rfl, ⟨by decide, by decide, by omega, by omega⟩, for_range (n := (n - 1).toNat) (fun i σ H4 => ∃ (x y : Addr) (v5 v6 : Option V), σ = [some (.int n), some (.int g), some (.ref sp), some (.ref x), some (.ref y), v5, v6] ∧ Same H H4 ∧
      Sh C H4 sp (pr (spr g)) ∧ Sh C H4 x (pr (sO g i)) ∧ Sh C H4 y (pr (sE n g i)))
      ⟨x, y, _, _, rfl, (s1.trans s2).trans s3, (hsp.keep s2).keep s3, hx.keep s3, hy⟩ ?_ ?_⟩
    · rintro i σ H4 hi ⟨x, y, v5, v6, rfl, s4, h4, hx, hy⟩
      have i59 : i < 59 := by omega
      refine ⟨_, rfl, _, rfl, _, _, rfl, rfl, ?_⟩
      intro z dz nz nd3 ne3
      refine mk_in (n := 6) nz nd3 (by omega) (by omega) (by decide) (by decide) fun H5 s5 hz => ⟨rfl, ?_⟩
      obtain ⟨dz', hz0⟩ := id hz
      refine ⟨z, dz', _, rfl, hz0, noM _ _ (by decide +kernel) (by decide +kernel), _, rfl, z, sp, _, _, 11, rfl, hz, h4.keep s5, (KM.sz_of_low (n := 6) (by omega) (by omega) (by omega)).mono (by decide), sz_spr g0 g1, by decide, by decide, fun st H6 s6 f6 hst => ?_⟩
      have s46 := s5.trans s6
      obtain ⟨dx', hx0⟩ := id (hx.keep s46)
      obtain ⟨ds', hst0⟩ := id hst
      refine ⟨_, rfl, x, dx', _, rfl, hx0, noM _ _ (by decide +kernel) (by decide +kernel), _, rfl, st, ds', _, rfl, hst0, noM _ _ (by decide +kernel) (by decide +kernel), _, rfl, st, stp g (1 + (i : Int)), _, 18, rfl, hst, sz_stp g0 g1 (by omega) (by omega), trivial, by omega, by decide, by decide, fun u H7 s7 f7 hu => ?_⟩
      refine ⟨x, u, sO g i, _, 4000, rfl, (hx.keep s46).keep s7, hu, (sz_sO g0 g1 i (by omega)).mono (by omega), (KM.sz_times (m := 6) (sz_stp g0 g1 (by omega) (by omega)) (by omega)).mono (by decide), by decide, by decide, fun x2 H8 s8 f8 hx2 => ?_⟩
      have s48 := (s46.trans s7).trans s8
      obtain ⟨dy', hy0⟩ := id (hy.keep s48)
      have hst8 := (hst.keep s7).keep s8
      obtain ⟨ds8, hst0⟩ := id hst8
      refine ⟨_, rfl, y, dy', _, rfl, hy0, noM _ _ (by decide +kernel) (by decide +kernel), _, rfl, st, ds8, _, rfl, hst0, noM _ _ (by decide +kernel) (by decide +kernel), _, rfl, _, rfl, _, _, rfl, rfl, st, stp g (1 + (i : Int)), _, 18, rfl, hst8, sz_stp g0 g1 (by omega) (by omega), trivial, by omega, by decide, by decide, fun u2 H9 s9 f9 hu2 => ?_⟩
      refine ⟨y, u2, sE n g i, _, 4000, rfl, (hy.keep s48).keep s9, hu2, (sz_sE n0 n1 g0 g1 i (by omega)).mono (by omega), (KM.sz_times (m := 6) (sz_stp g0 g1 (by omega) (by omega)) (by omega)).mono (by decide), by decide, by decide, fun y2 H10 s10 f10 hy2 => ?_⟩
      have s410 := (s48.trans s9).trans s10
      exact ⟨x2, y2, _, _, rfl, s4.trans s410, h4.keep s410, (hx2.keep s9).keep s10, hy2⟩
    · rintro σ H4 ⟨x, y, v5, v6, rfl, s4, h4, hx, hy⟩
      have k60 : (n - 1).toNat < 60 := by omega
      have szo := sz_sO g0 g1 _ k60
      have sze := sz_sE n0 n1 g0 g1 _ k60
      obtain ⟨dx', hx0⟩ := id hx
      have so2 := KM.sz_times (m := 2) (k := 2) szo (by decide)
      have se2 := KM.sz_times (m := 2) (k := 2) sze (by decide)
      refine ⟨_, rfl, x, dx', _, rfl, hx0, noM _ _ (by decide +kernel) (by decide +kernel), x, _, 2, 2000, rfl, hx, szo.mono (by omega), trivial, big2, by decide, by decide, fun u H5 s5 f5 hu => ?_⟩
      obtain ⟨du, hu0⟩ := id hu
      refine ⟨u, du, _, rfl, hu0, noM _ _ (by decide +kernel) (by decide +kernel), _, rfl, u, _, n, 2000, rfl, hu, so2.mono (by omega), by omega, bigN n0 n1, by decide, by decide, fun v H6 s6 f6 hv => ?_⟩
      have s46 := s5.trans s6
      have hy6 := hy.keep s46
      obtain ⟨dy', hy0⟩ := id hy6
      refine ⟨_, rfl, y, dy', _, rfl, hy0, noM _ _ (by decide +kernel) (by decide +kernel), y, _, 2, 2000, rfl, hy6, sze.mono (by omega), trivial, big2, by decide, by decide, fun u2 H7 s7 f7 hu2 => ?_⟩
      obtain ⟨du2, hu20⟩ := id hu2
      refine ⟨u2, du2, _, rfl, hu20, noM _ _ (by decide +kernel) (by decide +kernel), _, rfl, u2, _, n, 2000, rfl, hu2, se2.mono (by omega), by omega, bigN n0 n1, by decide, by decide, fun v2 H8 s8 f8 hv2 => ?_⟩
      refine ⟨by show 2 ≤ sizeLine; decide, fun t ft => ?_⟩
      have st := same_new (o := .tup [.ref v, .ref v2]) ft
      have s68 := (s7.trans s8).trans st
      refine hQ t v v2 _ (s4.trans (s46.trans s68)) upd_same ?_ ?_
      · rw [bO_eq]
        exact hv.keep s68
      · rw [bE_eq]
        exact hv2.keep st
end
end K35
set_option Elab.async false
set_option linter.all false
set_option maxRecDepth 100000
set_option maxHeartbeats 4000000
/-! NH: the names that a law with a held dict draws. -/
namespace NH
open PySem PySem.Spec
def word (bs : List Nat) (at_ begin_ step lot k : Nat) : List Nat := bs.take at_ ++ [97 + (begin_ + step * k) % 26] ++ (bs.drop at_).take (if lot = 0 then 8 else k % (bs.length - at_ + 1))
def steps : List Nat := [1, 3, 5, 7, 9, 11, 15, 17]
section
variable {bs : List Nat} {at_ begin_ step lot k : Nat}
theorem word_at (h : at_ ≤ bs.length) : (word bs at_ begin_ step lot k)[at_]? = some (97 + (begin_ + step * k) % 26) := by
  unfold word
  rw [List.append_assoc, List.getElem?_append_right (by rw [List.length_take]; omega), List.length_take, Nat.min_eq_left h, Nat.sub_self]
  rfl
theorem step_inj {i j : Nat} (hs : step ∈ steps) (hi : i < 13) (hj : j < 13) (e : 97 + (begin_ + step * i) % 26 = 97 + (begin_ + step * j) % 26) : i = j := by
  simp only [steps, List.mem_cons, List.not_mem_nil, or_false] at hs
  rcases hs with rfl | rfl | rfl | rfl | rfl | rfl | rfl | rfl <;> omega
theorem word_inj (h : at_ ≤ bs.length) (hs : step ∈ steps) {i j : Nat} (hi : i < 13) (hj : j < 13) (e : word bs at_ begin_ step lot i = word bs at_ begin_ step lot j) : i = j := by
  have h1 := word_at (begin_ := begin_) (step := step) (lot := lot) (k := i) h
  rw [e, word_at h] at h1
  exact (step_inj hs hj hi (Option.some.inj h1)).symm
theorem word_ok (h8 : bs.length ≤ 7) (hb : ∀ c ∈ bs, 97 ≤ c ∧ c ≤ 122) (h : at_ ≤ bs.length) : NM.ok (word bs at_ begin_ step lot k) := by
  unfold word
  refine ⟨?_, ?_, fun c hc => ?_⟩
  · simp only [List.length_append, List.length_take, List.length_drop, List.length_cons, List.length_nil]
    omega
  · simp only [List.length_append, List.length_take, List.length_drop, List.length_cons, List.length_nil]
    omega
  · rcases List.mem_append.mp hc with hc | hc
    · rcases List.mem_append.mp hc with hc | hc
      · exact hb c (List.mem_of_mem_take hc)
      · rw [List.mem_singleton] at hc
        omega
    · exact hb c (List.mem_of_mem_drop (List.mem_of_mem_take hc))
theorem all_unlike (h : at_ ≤ bs.length) (hs : step ∈ steps) (n : Nat) (hn : n ≤ 13) : ((List.range n).map (word bs at_ begin_ step lot)).Pairwise (· ≠ ·) := by
  rw [List.pairwise_map]
  refine (List.pairwise_lt_range (n := n)).imp_of_mem fun {a b} ha hb hlt e => ?_
  have := word_inj h hs (by have := List.mem_range.mp ha; omega) (by have := List.mem_range.mp hb; omega) e
  omega
end
end NH
set_option Elab.async false
set_option linter.all false
set_option maxRecDepth 100000
set_option maxHeartbeats 4000000
namespace K35
open PySem PySem.Spec PyProof.Rows L2
open C8 (Cal Mak Met pe_c pe_mk pe_mt pe_mt0)
open SX (S)
theorem lets_S : (Str.ofString "abcdefghijklmnopqrstuvwxyz").cps.toList = NM.lets := by decide +kernel
theorem at_lets {x : Int} {j : Nat} (e : x = (j : Int)) (hj : j < 26) : atI (Str.ofString "abcdefghijklmnopqrstuvwxyz").cps.toList x = some (97 + j) := by
  rw [e, lets_S]
  refine atI_nat ?_
  unfold NM.lets
  rw [List.getElem?_map, List.getElem?_range hj]
  rfl
theorem cut_t {l : List Nat} {x : Int} {j : Nat} (e : x = (j : Int)) (h : j ≤ l.length) : cutS (S l) none (some x) = S (l.take j) := by
  rw [e]
  unfold cutS
  rw [HT.sIx_nat, HT.sIx_none, SX.S_len, Nat.min_eq_left h]
  simp [S]
theorem cut_m {l : List Nat} {x y : Int} {j m : Nat} (e : x = (j : Int)) (e2 : y = ((j + m : Nat) : Int)) (h : j ≤ l.length) : cutS (S l) (some x) (some y) = S ((l.drop j).take m) := by
  rw [e, e2]
  unfold cutS
  rw [HT.sIx_nat, HT.sIx_nat, SX.S_len, Nat.min_eq_left h]
  have e3 : (l.drop j).take (min (j + m) l.length - j) = (l.drop j).take m := by
    by_cases c : j + m ≤ l.length
    · rw [Nat.min_eq_left c, Nat.add_sub_cancel_left]
    · rw [Nat.min_eq_right (by omega), List.take_of_length_le (Nat.le_of_eq (List.length_drop ..)), List.take_of_length_le (by rw [List.length_drop]; omega)]
  simp [S, e3]
theorem ones : ∀ bs : List Nat, ((bs.map fun c => S [c]).map (·.length)).sum = bs.length
  | [] => rfl
  | b :: bs => by
    rw [List.map_cons, List.map_cons, List.sum_cons, ones bs, List.length_cons, SX.S_len]
    simp
    omega
theorem joined : ∀ bs : List Nat, TL.joinL [] (bs.map fun c => [c]) = bs
  | [] => rfl
  | [b] => rfl
  | b :: d :: bs => by
    have := joined (d :: bs)
    simp only [List.map_cons, TL.joinL] at this ⊢
    simp [this]
theorem Held.ne_new {H : Hp} {h u : Addr} {c : Nat} (x : Held H h c) (e : H u = none) : u ≠ h := by
  obtain ⟨l, ns, n, m, h1, _⟩ := x
  exact (ne_of_none h1 e).symm
/-- the held dict's cells aren't at D -/
def Cel (h D : Addr) (H : Hp) : Prop := ∃ la n m, H h = some (.dK (hd0 la n m)) ∧ la ≠ D ∧ h ≠ D
theorem Cel.kp {h D : Addr} {H H' : Hp} (x : Cel h D H) (k : Kp h H H') : Cel h D H' := by
  obtain ⟨la, n, m, e, n1, n2⟩ := x
  obtain ⟨n', m', e'⟩ := k.2 _ _ _ e
  exact ⟨la, n', m', e', n1, n2⟩
theorem Cel.of {h D : Addr} {H : Hp} {c : Nat} (x : Held H h c) (f : H D = none) : Cel h D H := by
  obtain ⟨la, ns, n, m, e1, e2, _⟩ := x
  exact ⟨la, n, m, e1, ne_of_none e2 f, ne_of_none e1 f⟩
theorem Cel.ne {h D : Addr} {H : Hp} (x : Cel h D H) : D ≠ h := by
  obtain ⟨_, _, _, _, _, n⟩ := x
  exact n.symm
theorem Held.put {h D : Addr} {H : Hp} {o : HO} {c : Nat} (x : Held H h c) (y : Cel h D H) : Held (upd H D o) h c := by
  obtain ⟨la, ns, n, m, e1, e2, e3⟩ := x
  obtain ⟨la', n', m', e', n1, n2⟩ := y
  cases hd_inj (Option.some.inj (e1.symm.trans e'))
  exact ⟨la, ns, n, m, by rw [upd_ne n2]; exact e1, by rw [upd_ne n1]; exact e2, e3⟩
theorem Cel.put {h D D' : Addr} {H : Hp} {o : HO} (x : Cel h D H) (n : h ≠ D') : Cel h D (upd H D' o) := by
  obtain ⟨la', n', m', e', n1, n2⟩ := x
  exact ⟨la', n', m', by rw [upd_ne n]; exact e', n1, n2⟩
theorem Kp.new {h st : Addr} {H1 H2 : Hp} {o : HO} (k : Kp h H1 H2) (f : H1 st = none) : Kp h H1 (upd H2 st o) :=
  ⟨fun b u e ne => by rw [upd_ne (ne_of_none e f)]; exact k.1 b u e ne, fun l n m e => by
    obtain ⟨n', m', e'⟩ := k.2 l n m e
    exact ⟨n', m', by rw [upd_ne (ne_of_none e f)]; exact e'⟩⟩
theorem pick {α : Type} (g : α → V) {L : List α} {i : Int} (i0 : 0 ≤ i) (i1 : i < (L.length : Int)) : ∃ x ∈ L, atI (L.map g) i = some (g x) := by
  obtain ⟨j, rfl⟩ := Int.eq_ofNat_of_zero_le i0
  have hj : j < L.length := by omega
  exact ⟨L[j], List.getElem_mem hj, atI_nat (j := j) (by rw [List.getElem?_map, List.getElem?_eq_getElem hj]; rfl)⟩
section
variable {P : Program} {w : World} {K : PySem.W.Frag} {mg : Str → Option Value} {base : Heap} {f C : Addr} {fd : FuncData}
def spNames : Sp := fun vs H Q _ => ∃ (h : Addr) (c n : Nat), vs = [.ref h, .int n] ∧ Held H h (c + 40) ∧ n ≤ 13 ∧
  ∀ (o : Addr) (zs : List (List Nat)) (H' : Hp), Held H' h c → Kp h H H' → H o = none → H' o = some (.lst (zs.map fun l => V.str (S l))) → zs.length = n → (∀ z ∈ zs, NM.ok z) → zs.Pairwise (· ≠ ·) → Q (.ref o) H'
theorem ok_names (F : Dn K d_l_names f fd) (bl : Bl mg) (cD : CalD P w K mg base) : FnOk P w K mg base CX0 2 f fd ["_law_held_here", "_law_many"] spNames := by
  refine F.ok sc_l_names (fun vs H Q E h => ?_) (fun cdv A outer s H vs Q E hr h => ?_)
  · obtain ⟨p, c, n, rfl, _⟩ := h
    rfl
  · obtain ⟨p, c, n, rfl, pen, hn, hQ⟩ := h
    refine ⟨_, PSs.nox (pss_cons (ps_set (i := 2) sc_l_names.nd rfl (.inr rfl) pe_str)
      (pss_cons (ps_set (i := 3) sc_l_names.nd rfl (.inl rfl) (pe_c cD hr (by decide) rfl (pa_cons (pv 0) (pa_cons pe_int pa_nil))))
      (C8.pss_cut (ps_set (i := 5) sc_l_names.nd rfl (.inl rfl) (pe_join pe_str (pe_lc (own := [("_law_k", 4)]) (g := gName 4) (tt := tYes) rfl sc_l_names.nd (pi_range1 rfl bl.range (pa_cons (pv 3) pa_nil)) (blkOk_by (N := N_l_names) (sc := defScope s_l_names) (by decide +kernel))
          (fun _ _ _ _ _ => pg_name (i := 4) sc_l_names.nd rfl (Or.inl rfl)) (fun _ _ _ _ _ => pts_nil) (fun _ _ _ _ _ => pe_ix ix_str (pv 2) (pe_c cD hr (by decide) rfl (pa_cons (pv 0) (pa_cons pe_int pa_nil))) (fun _ _ => rfl)))))
      (pss_cons (ps_par (i := 6) (j := 7) rfl sc_l_names.nd rfl rfl (by decide) rfl rfl (pa_cons (pe_c cD hr (by decide) rfl (pa_cons (pv 0) (pa_cons (pe_op op_add (pv 3) pe_int) pa_nil))) (pa_cons (pe_c cD hr (by decide) rfl (pa_cons (pv 0) (pa_cons pe_int pa_nil))) pa_nil)) rfl)
      (pss_cons (ps_par (i := 8) (j := 9) rfl sc_l_names.nd rfl rfl (by decide) rfl rfl (pa_cons (pe_ix ix_list (pe_lst (pa_cons pe_int (pa_cons pe_int (pa_cons pe_int (pa_cons pe_int (pa_cons pe_int (pa_cons pe_int (pa_cons pe_int (pa_cons pe_int pa_nil))))))))) (pe_c cD hr (by decide) rfl (pa_cons (pv 0) (pa_cons pe_int pa_nil))) (fun _ _ => rfl)) (pa_cons (pe_c cD hr (by decide) rfl (pa_cons (pv 0) (pa_cons pe_int pa_nil))) pa_nil)) rfl)
      (pss_cons (ps_set (i := 10) sc_l_names.nd rfl (.inl rfl) (pe_lst pa_nil))
      (pss_cons (ps_for PassesOwn.never rfl (pi_range1 rfl bl.range (pa_cons (pv 1) pa_nil)) (pg_name (i := 4) sc_l_names.nd rfl (.inl rfl))
        (C8.pss_cut (ps_set (i := 11) sc_l_names.nd rfl (.inl rfl) (pe_slice sl_str (pv 5) (po_some (pv 6)) (po_some (pe_op op_add (pv 6) (pe_ix ix_list (pe_lst (pa_cons pe_int (pa_cons (pe_op op_mod (pv 4) (pe_op op_add (pe_op op_sub (pv 3) (pv 6)) pe_int)) pa_nil))) (pv 9) (fun _ _ => rfl))))))
        (pss_one (ps_expr (pe_bm PySem.F.plainAttrs_list PySem.F.slot_list_append PySem.F.type_list_append mt_append (pv 10) (pa_cons (pe_op op_add_str (pe_op op_add_str (pe_slice sl_str (pv 5) po_none (po_some (pv 6))) (pe_ix ix_str (pv 2) (pe_op op_mod (pe_op op_add (pv 7) (pe_op op_mul (pv 8) (pv 4))) pe_int) (fun _ _ => rfl))) (pv 11)) pa_nil))))))
      (pss_one (ps_ret (pv 10)))))))))), ?_⟩
    -- the size
    refine ⟨_, rfl, p, c + 39, _, rfl, pen, by decide, by decide, fun z0 H2 a2 b2 pen2 k2 => ?_⟩
    obtain ⟨sz, rfl⟩ := Int.eq_ofNat_of_zero_le a2
    have sz7 : sz ≤ 7 := by omega
    -- the base
    refine ⟨fun σ' H' => ∃ bs : List Nat, σ' = [some (.ref p), some (.int n), some (.str (Str.ofString "abcdefghijklmnopqrstuvwxyz")), some (.int (sz : Int)), none, some (.str (S bs)), none, none, none, none, none, none] ∧ bs.length = sz ∧ (∀ c ∈ bs, 97 ≤ c ∧ c ≤ 122) ∧
      Held H' p (c + 30) ∧ Kp p H H', ?_, ?_⟩
    · refine ⟨⟨_, rfl⟩, _, rfl, _, rfl, by omega, by omega, ?_⟩
      rw [Int.toNat_natCast]
      intro D hD
      have offD := Cel.of pen2 hD
      have sD := same_new (o := .lst []) hD
      refine lc_range (n := sz) (fun i H3 => ∃ bs : List Nat, bs.length = i ∧ (∀ c ∈ bs, 97 ≤ c ∧ c ≤ 122) ∧ H3 D = some (.lst (bs.map fun c => V.str (S [c]))) ∧ Held H3 p (c + 39 - i) ∧ Kp p H2 H3 ∧ Cel p D H3) ?_ ?_ ?_
      · exact ⟨[], rfl, by simp, upd_same, pen2.same sD, Kp.same sD, offD.kp (Kp.same sD)⟩
      · rintro i H3 hi ⟨bs, hbl, hbc, hd, pen3, k3, off3⟩
        refine ⟨rfl, ?_⟩
        refine ⟨_, rfl, _, rfl, p, c + 39 - (i + 1), _, rfl, pen3.weak (by omega), by decide, by decide, fun r H4 r0 r1 pen4 k4 => ?_⟩
        obtain ⟨rn, rfl⟩ := Int.eq_ofNat_of_zero_le r0
        have hd4 := k4.1 _ _ hd off3.ne
        have off4 := off3.kp k4
        refine ⟨_, _, 97 + rn, rfl, rfl, by decide +kernel, at_lets rfl (by omega), _, hd4, ?_, bs ++ [97 + rn], by simp [hbl], ?_, ?_, pen4.put off4, (k3.trans k4).new hD, ?_⟩
        · rw [List.length_map, hbl]
          exact Nat.lt_of_lt_of_le (by omega : i < 64) (by decide)
        · intro c' hc'
          rcases List.mem_append.mp hc' with hc' | hc'
          · exact hbc c' hc'
          · rw [List.mem_singleton] at hc'
            omega
        · rw [upd_same]
          simp [S]
        · exact off4.put off4.ne.symm
      · rintro H3 ⟨bs, hbl, hbc, hd, pen3, k3, off3⟩
        have ey : (bs.map fun c => V.str (S [c])) = (bs.map fun c => S [c]).map V.str := by rw [List.map_map]; rfl
        refine ⟨_, D, bs.map fun c => S [c], rfl, rfl, .inl (by rw [← ey]; exact SqL.of hd), ?_, bs, ?_, hbl, hbc, pen3.weak (by omega), k2.trans k3⟩
        · rw [ones bs, List.length_map]
          have e2 : (Str.ofString "").length = 0 := by decide +kernel
          rw [e2, hbl]
          omega
        · have e3 : Txt.join (Str.ofString "") (bs.map fun c => S [c]) = S bs := by
            have e4 : Str.ofString "" = S [] := by decide +kernel
            have e5 : (bs.map fun c => S [c]) = (bs.map fun c => [c]).map S := by rw [List.map_map]; rfl
            rw [e4, e5, SX.join_S, joined]
          rw [e3]
          rfl
    clear pen pen2 k2
    rintro σ' H3 ⟨bs, rfl, hbl, hbc, pen3, k3⟩
    refine ⟨_, rfl, _, rfl, _, _, rfl, rfl, p, c + 29, _, rfl, pen3, by omega, by omega, fun at_ H4 a4 b4 pen4 k4 => ?_⟩
    refine ⟨_, rfl, p, c + 28, _, rfl, pen4, by decide, by decide, fun bg H5 a5 b5 pen5 k5 => ⟨_, _, rfl, ?_⟩⟩
    refine ⟨by show 8 ≤ sizeLine; decide, fun u fu => ?_⟩
    have su := same_new (o := .lst [.int 1, .int 3, .int 5, .int 7, .int 9, .int 11, .int 15, .int 17]) fu
    refine ⟨_, rfl, p, c + 27, 8, rfl, pen5.same su, by decide, by decide, fun q6 H6 a6 b6 pen6 k6 => ?_⟩
    have hu6 := k6.1 u _ upd_same (pen5.ne_new fu)
    obtain ⟨st, hst, est⟩ := pick (fun n : Nat => V.int (n : Int)) (L := NH.steps) a6 (by simpa [NH.steps] using b6)
    refine ⟨u, _, _, _, rfl, rfl, SqL.of hu6, est, ?_⟩
    refine ⟨_, rfl, p, c + 26, 2, rfl, pen6, by decide, by decide, fun lot H7 a7 b7 pen7 k7 => ⟨_, _, rfl, ?_⟩⟩
    obtain ⟨at_, rfl⟩ := Int.eq_ofNat_of_zero_le a4
    obtain ⟨bg, rfl⟩ := Int.eq_ofNat_of_zero_le a5
    obtain ⟨lot, rfl⟩ := Int.eq_ofNat_of_zero_le a7
    have hat : at_ ≤ bs.length := by omega
    have k07 := ((k3.trans k4).trans k5).trans (((Kp.same su).trans k6).trans k7)
    have st17 : st ≤ 17 := by
      simp only [NH.steps, List.mem_cons, List.not_mem_nil, or_false] at hst
      omega
    clear k3 k4 k5 k6 k7 su pen3 pen4 pen5 pen6
    refine ⟨by show 0 ≤ sizeLine; decide, fun o fo => ?_⟩
    have so := same_new (o := .lst []) fo
    refine ⟨_, rfl, _, rfl, by omega, by omega, ?_⟩
    rw [Int.toNat_natCast]
    have fo0 : H o = none := by
      cases e : H o with
      | none => rfl
      | some ob =>
        by_cases z : o = p
        · rw [z] at fo
          obtain ⟨l0, ns0, n0, m0, h0, _⟩ := pen7
          rw [h0] at fo
          cases fo
        · rw [k07.1 o ob e z] at fo
          cases fo
    refine for_range (n := n) (fun i σ H8 => ∃ (v4 v11 : Option V), σ = [some (.ref p), some (.int n), some (.str (Str.ofString "abcdefghijklmnopqrstuvwxyz")), some (.int (sz : Int)), v4, some (.str (S bs)), some (.int (at_ : Int)), some (.int (bg : Int)), some (.int (st : Int)), some (.int (lot : Int)), some (.ref o), v11] ∧
        H8 o = some (.lst (((List.range i).map (NH.word bs at_ bg st lot)).map fun l => V.str (S l))) ∧ Held H8 p c ∧ Kp p H H8 ∧ Cel p o H8)
      ⟨none, none, rfl, upd_same, (pen7.same so).weak (by omega), k07.trans (Kp.same so), (Cel.of pen7 fo).kp (Kp.same so)⟩ ?_ ?_
    · rintro i σ H8 hi ⟨v4, v11, rfl, ho8, pen8, k8, off8⟩
      have len0 : (S bs).length ≤ sizeLine := by rw [SX.S_len]; exact Nat.le_trans (by omega : bs.length ≤ 8) (by decide)
      have lets_len : (Str.ofString "abcdefghijklmnopqrstuvwxyz").length ≤ sizeLine := by decide +kernel
      obtain ⟨m, hm⟩ : ∃ m : Nat, (if lot = 0 then 8 else i % (bs.length - at_ + 1)) = m := ⟨_, rfl⟩
      refine ⟨fun σ' H' => σ' = [some (.ref p), some (.int n), some (.str (Str.ofString "abcdefghijklmnopqrstuvwxyz")), some (.int (sz : Int)), some (.int (0 + (i : Int))), some (.str (S bs)), some (.int (at_ : Int)), some (.int (bg : Int)), some (.int (st : Int)), some (.int (lot : Int)), some (.ref o), some (.str (S ((bs.drop at_).take m)))] ∧ Same H8 H', ?_, ?_⟩
      · refine ⟨_, rfl, _, rfl, _, rfl, _, rfl, _, rfl, _, rfl, _, rfl, _, _, rfl, rfl, _, _, rfl, rfl, _, _, rfl, rfl, by omega, by show 2 ≤ sizeLine; decide, fun u2 fu2 => ?_⟩
        have eix : atI [V.int 8, .int ((0 + (i : Int)) % ((sz : Int) - (at_ : Int) + 1))] (lot : Int) = some (.int (m : Nat)) := by
          rcases (show lot = 0 ∨ lot = 1 by omega) with rfl | rfl
          · rw [← hm]
            rfl
          · have h1 : ((sz : Int) - (at_ : Int) + 1) = ((bs.length - at_ + 1 : Nat) : Int) := by omega
            rw [h1, Int.zero_add, ← Int.natCast_emod, ← hm]
            rfl
        refine ⟨_, rfl, u2, _, _, _, rfl, rfl, SqL.of upd_same, eix, _, _, rfl, rfl, _, rfl, _, rfl, len0, ?_⟩
        rw [cut_m (j := at_) (m := m) rfl (by omega) hat]
        exact ⟨rfl, same_new fu2⟩
      · rintro σ' H9 ⟨rfl, s9⟩
        have ho9 := s9 _ _ ho8
        have e5 : ((bg : Int) + (st : Int) * (0 + (i : Int))) % 26 = (((bg + st * i) % 26 : Nat) : Int) := by
          rw [Int.zero_add, ← Int.natCast_mul, ← Int.natCast_add]
          exact (Int.natCast_emod _ 26).symm
        refine ⟨_, rfl, Or.inl ⟨rfl, _, SqL.of ho9⟩, _, rfl, _, rfl, _, rfl, _, rfl, len0, ?_⟩
        rw [cut_t rfl hat]
        refine ⟨_, rfl, _, rfl, _, rfl, _, rfl, _, _, rfl, rfl, cb_l (by omega) (by omega), _, _, rfl, rfl, _, _, rfl, rfl, (by decide : (0 : Int) < 26), _, _, _, rfl, rfl, lets_len, at_lets e5 (Nat.mod_lt _ (by decide)), _, _, rfl, rfl, ?_, ?_⟩
        · rw [SX.S_len, List.length_take]
          exact Nat.le_trans (by show min at_ bs.length + 1 ≤ 64; omega) (by decide)
        have ec : S (bs.take at_) ++ (⟨#[97 + (bg + st * i) % 26]⟩ : Str) = S (bs.take at_ ++ [97 + (bg + st * i) % 26]) := SX.S_cat _ _
        rw [ec]
        refine ⟨_, rfl, _, _, rfl, rfl, ?_, ?_⟩
        · rw [SX.S_len, SX.S_len, List.length_append, List.length_take, List.length_take, List.length_drop]
          exact Nat.le_trans (by show min at_ bs.length + 1 + min m (bs.length - at_) ≤ 64; omega) (by decide)
        rw [SX.S_cat]
        have ew : bs.take at_ ++ [97 + (bg + st * i) % 26] ++ (bs.drop at_).take m = NH.word bs at_ bg st lot i := by rw [← hm]; rfl
        rw [ew]
        refine ⟨o, _, _, rfl, rfl, ho9, ?_, _, _, rfl, ?_, (pen8.same s9).put (off8.kp (Kp.same s9)), (k8.trans (Kp.same s9)).new fo0, (off8.kp (Kp.same s9)).put off8.ne.symm⟩
        · rw [List.length_map, List.length_map, List.length_range]
          exact Nat.lt_of_lt_of_le (by omega : i < 64) (by decide)
        · rw [upd_same, List.range_succ, List.map_append, List.map_append]
          rfl
    · rintro σ H8 ⟨v4, v11, rfl, ho8, pen8, k8, off8⟩
      refine ⟨_, rfl, hQ o _ H8 pen8 k8 fo0 ho8 (by simp) (fun z hz => ?_) (NH.all_unlike hat hst n hn)⟩
      obtain ⟨k, _, rfl⟩ := List.mem_map.mp hz
      exact NH.word_ok (by omega) hbc hat
end
end K35
set_option Elab.async false
set_option linter.all false
set_option maxRecDepth 100000
set_option maxHeartbeats 4000000
namespace K35
open PySem PySem.Spec PyProof.Rows L2
open C8 (Cal Mak Met pe_c pe_mk pe_mt pe_mt0)
/-- a day: unlike names of the order -/
structure DayOk (xs R : List Str) : Prop where
  ne : R ≠ []
  nd : R.Nodup
  sub : ∀ y ∈ R, y ∈ xs
  ln : R.length ≤ xs.length
theorem map_eraseIdx' {α β : Type} {g : α → β} : ∀ {xs : List α} {q : Nat}, (xs.map g).eraseIdx q = (xs.eraseIdx q).map g
  | [], _ => rfl
  | _ :: _, 0 => rfl
  | x :: xs, q + 1 => by simp [map_eraseIdx' (xs := xs) (q := q)]
theorem perm_eraseIdx {α : Type} : ∀ {xs : List α} {q : Nat} (h : q < xs.length), xs.Perm (xs[q] :: xs.eraseIdx q)
  | x :: xs, 0, _ => by simp
  | x :: xs, q + 1, h => by
    have hq : q < xs.length := by simpa using h
    simp only [List.getElem_cons_succ, List.eraseIdx_cons_succ]
    exact ((perm_eraseIdx hq).cons x).trans (List.Perm.swap _ _ _)
theorem Kp.free {h t : Addr} {H H' : Hp} {c : Nat} (k : Kp h H H') (pn : Held H' h c) (f : H' t = none) : H t = none := by
  cases e : H t with
  | none => rfl
  | some o =>
    by_cases z : t = h
    · rw [z] at f
      obtain ⟨l, ns, n, m, h1, _⟩ := pn
      rw [h1] at f
      cases f
    · rw [k.1 t o e z] at f
      cases f
theorem Kp.tupS {K : PySem.W.Frag} {h t : Addr} {H H' : Hp} {c : Nat} {xs : List V} (k : Kp h H H') (x : Held H h c) (e : H t = some (.tup xs)) : H' t = some (.tup xs) := by
  obtain ⟨l, ns, n, m, h1, _⟩ := x
  exact k.1 t _ e (ne_of e h1 (by intro z; cases z))
section
variable {P : Program} {w : World} {K : PySem.W.Frag} {mg : Str → Option Value} {base : Heap} {f C : Addr} {fd : FuncData}
def spDay : Sp := fun vs H Q _ => ∃ (h ot : Addr) (c : Nat) (xs : List Str), vs = [.ref h, .ref ot] ∧ Held H h (c + 20) ∧ H ot = some (.tup (xs.map V.str)) ∧ xs ≠ [] ∧ xs.Nodup ∧ xs.length ≤ 13 ∧
  ∀ (o : Addr) (R : List Str) (H' : Hp), Held H' h c → Kp h H H' → H o = none → H' o = some (.lst (R.map V.str)) → DayOk xs R → Q (.ref o) H'
theorem ok_day (F : Dn K d_l_day f fd) (bl : Bl mg) (bmin : mg "min" = none) (cD : CalD P w K mg base) : FnOk P w K mg base CX0 2 f fd ["_law_held_here", "_law_order"] spDay := by
  refine F.ok sc_l_day (fun vs H Q E h => ?_) (fun cdv A outer s H vs Q E hr h => ?_)
  · obtain ⟨h, ot, c, xs, rfl, _⟩ := h
    rfl
  · obtain ⟨h, ot, c, xs, rfl, hld, hot, xne, xnd, xlen, hQ⟩ := h
    refine ⟨_, PSs.nox (pss_cons (ps_set (i := 2) sc_l_day.nd rfl (.inl rfl) (pe_op op_add pe_int (pe_c cD hr (by decide) rfl (pa_cons (pv 0) (pa_cons (pe_callB call_len_seq rfl bl.len boot_len (pa_cons (pv 1) pa_nil)) pa_nil)))))
      (C8.pss_cut (ps_if (PW.pt (pw_and (pt_cmpR op_eq (pv 2) pe_int (nomark _)) (pw_and1 (pt_cmpR op_gt (pe_c cD hr (by decide) rfl (pa_cons (pv 0) (pa_cons pe_int pa_nil))) pe_int (nomark _)))))
        (pss_one (ps_set (i := 2) sc_l_day.nd rfl (.inl rfl) (pe_callB (call_min2 rfl) rfl bmin boot_min (pa_cons pe_int (pa_cons (pe_callB call_len_seq rfl bl.len boot_len (pa_cons (pv 1) pa_nil)) pa_nil))))) pss_nil)
      (pss_cons (ps_par (i := 3) (j := 4) rfl sc_l_day.nd rfl rfl (by decide) rfl rfl (pa_cons (pe_callTy call_list_of rfl bl.list boot_list (pa_cons (pv 1) pa_nil)) (pa_cons (pe_lst pa_nil) pa_nil)) rfl)
      (pss_cons (ps_for PassesOwn.never rfl (pi_range1 rfl bl.range (pa_cons (pv 2) pa_nil)) (pg_name (i := 5) sc_l_day.nd rfl (.inl rfl))
        (pss_one (ps_expr (pe_bm PySem.F.plainAttrs_list PySem.F.slot_list_append PySem.F.type_list_append mt_append (pv 4) (pa_cons (pe_bm PySem.F.plainAttrs_list PySem.F.slot_list_pop PySem.F.type_list_pop mt_popAt (pv 3) (pa_cons (pe_c cD hr (by decide) rfl (pa_cons (pv 0) (pa_cons (pe_callB call_len_seq rfl bl.len boot_len (pa_cons (pv 3) pa_nil)) pa_nil))) pa_nil)) pa_nil)))))
      (pss_one (ps_ret (pv 4))))))), ?_⟩
    have xpos : 0 < xs.length := List.length_pos_iff.mpr xne
    refine ⟨_, rfl, _, rfl, ot, _, rfl, .inr (SqT.of hot), h, c + 19, _, rfl, hld, by rw [List.length_map]; omega, by rw [List.length_map]; omega, fun r1 H1 a1 b1 held1 k1 => ⟨_, _, rfl, rfl, ?_⟩⟩
    rw [List.length_map] at b1
    have hot1 := k1.tupS (K := K) hld hot
    refine ⟨fun σ' H' => ∃ m : Nat, σ' = [some (.ref h), some (.ref ot), some (.int (m : Nat)), none, none, none] ∧ 1 ≤ m ∧ m ≤ xs.length ∧ Held H' h (c + 18) ∧ Kp h H H', ?_, ?_⟩
    · refine ⟨_, rfl, rfl, _, rfl, ?_⟩
      obtain ⟨k, rfl⟩ : ∃ k : Nat, r1 = k := ⟨r1.toNat, by omega⟩
      obtain ⟨m, hm⟩ : ∃ m : Nat, m = 1 + k := ⟨_, rfl⟩
      have hv : (fun i j => V.int (i + j)) 1 (k : Int) = V.int (m : Int) := by
        show V.int (1 + (k : Int)) = V.int (m : Int)
        rw [hm]; congr 1
      rw [hv]
      refine ite2 (fun _ => ?_) (fun _ => iteF ⟨m, rfl, by omega, by omega, held1.weak (by omega), k1⟩)
      refine ⟨_, rfl, h, c + 18, 4, rfl, held1, by decide, by decide, fun r2 H2 a2 b2 held2 k2 => ⟨_, _, rfl, rfl, _, rfl, ?_⟩⟩
      have hot2 := k2.tupS (K := K) held1 hot1
      refine ite2 (fun _ => ?_) (fun _ => ⟨m, rfl, by omega, by omega, held2, k1.trans k2⟩)
      refine ⟨_, rfl, ot, _, rfl, .inr (SqT.of hot2), _, _, rfl, ?_⟩
      rw [List.length_map]
      obtain ⟨m2, hm2, h21, h22⟩ : ∃ m2 : Nat, (if (xs.length : Int) < 2 then (xs.length : Int) else 2) = m2 ∧ 1 ≤ m2 ∧ m2 ≤ xs.length := by
        by_cases z : xs.length < 2
        · exact ⟨xs.length, if_pos (by omega), xpos, Nat.le_refl _⟩
        · exact ⟨2, if_neg (by omega), by decide, by omega⟩
      rw [hm2]
      exact ⟨m2, rfl, h21, h22, held2, k1.trans k2⟩
    rintro σ' H2 ⟨m, rfl, m1, mn, held2, k2⟩
    have hot2 := k2.tupS (K := K) hld hot
    refine ⟨_, rfl, ot, _, rfl, .inr (SqT.of hot2), fun ll fll => ⟨by show 0 ≤ sizeLine; decide, fun o fo => ⟨_, _, rfl, ?_⟩⟩⟩
    have sl := same_new (o := .lst (xs.map V.str)) fll
    have so := same_new (o := .lst []) fo
    have nlo : ll ≠ o := ne_of_none upd_same fo
    have fo2 : H2 o = none := sl.free fo
    have k4 : Kp h H (upd (upd H2 ll (.lst (xs.map V.str))) o (.lst [])) := k2.trans (Kp.same (sl.trans so))
    have fl0 : H ll = none := k2.free held2 fll
    have fo0 : H o = none := k2.free held2 fo2
    refine ⟨_, rfl, _, rfl, by omega, by omega, ?_⟩
    rw [Int.toNat_natCast]
    refine for_range (n := m) (fun i σ H5 => ∃ (L R : List Str) (v5 : Option V), σ = [some (.ref h), some (.ref ot), some (.int (m : Nat)), some (.ref ll), some (.ref o), v5] ∧ H5 ll = some (.lst (L.map V.str)) ∧ H5 o = some (.lst (R.map V.str)) ∧ (R ++ L).Perm xs ∧ R.length = i ∧ Held H5 h (c + 18 - i) ∧ Kp h H H5 ∧ Cel h ll H5 ∧ Cel h o H5)
      ⟨xs, [], _, rfl, by rw [upd_ne nlo]; exact upd_same, upd_same, List.Perm.refl _, rfl, held2.same (sl.trans so), k4, (Cel.of held2 fll).kp (Kp.same (sl.trans so)), (Cel.of held2 fo2).kp (Kp.same (sl.trans so))⟩ ?_ ?_
    · rintro i σ H5 hi ⟨L, R, v5, rfl, hL, hR, pm, rl, held5, k5, cl5, co5⟩
      have lenL : L.length = xs.length - i := by
        have := pm.length_eq
        rw [List.length_append] at this
        omega
      refine ⟨_, rfl, Or.inl ⟨rfl, _, SqL.of hR⟩, _, rfl, Or.inl ⟨rfl, _, SqL.of hL⟩, _, rfl, _, rfl, ll, _, rfl, .inl (SqL.of hL), h, c + 18 - (i + 1), _, rfl, held5.weak (by omega), by rw [List.length_map]; omega, by rw [List.length_map]; omega, fun r H6 a6 b6 held6 k6 => ?_⟩
      rw [List.length_map] at b6
      obtain ⟨q, rfl⟩ := Int.eq_ofNat_of_zero_le a6
      have hq : q < L.length := by omega
      have hL6 := k6.1 _ _ hL cl5.ne
      have hR6 := k6.1 _ _ hR co5.ne
      have cl6 := cl5.kp k6
      have co6 := co5.kp k6
      refine ⟨ll, _, _, q, .str L[q], rfl, rfl, hL6, by omega, by omega, ?_, ?_, ?_⟩
      · rw [List.length_map]
        unfold seqIndex?
        have z : ¬ ((q : Int) < 0) := by omega
        simp [hq, z]
      · rw [List.getElem?_map, List.getElem?_eq_getElem hq]
        rfl
      have hR7 : (upd H6 ll (.lst ((L.map V.str).eraseIdx q))) o = some (.lst (R.map V.str)) := by rw [upd_ne nlo.symm]; exact hR6
      refine ⟨o, _, _, rfl, rfl, hR7, ?_, L.eraseIdx q, R ++ [L[q]], _, rfl, ?_, ?_, ?_, by simp [rl], (held6.put cl6).put (co6.put cl6.ne.symm), ((k5.trans k6).new fl0).new fo0, (cl6.put cl6.ne.symm).put co6.ne.symm, (co6.put cl6.ne.symm).put co6.ne.symm⟩
      · rw [List.length_map, rl]
        exact Nat.lt_of_lt_of_le (by omega : i < 64) (by decide)
      · rw [upd_ne nlo, upd_same, map_eraseIdx']
      · rw [upd_same, List.map_append]
        rfl
      · have e1 : L.Perm (L[q] :: L.eraseIdx q) := perm_eraseIdx hq
        rw [List.append_assoc]
        exact (List.Perm.append_left R e1.symm).trans pm
    · rintro σ H5 ⟨L, R, v5, rfl, hL, hR, pm, rl, held5, k5, cl5, co5⟩
      have nd := pm.nodup_iff.mpr xnd
      refine ⟨_, rfl, hQ o R H5 (held5.weak (by omega)) k5 fo0 hR ⟨fun z => ?_, (List.nodup_append.mp nd).1, fun y hy => pm.mem_iff.mp (List.mem_append_left _ hy), by omega⟩⟩
      rw [z] at rl
      simp at rl
      omega
end
end K35
set_option Elab.async false
set_option linter.all false
set_option maxRecDepth 100000
set_option maxHeartbeats 4000000
namespace K35
open PySem PySem.Spec PyProof.Rows L2
open C8 (Cal Mak Met pe_c pe_mk pe_mt pe_mt0)
open SX (S)
/-- more of the module's names -/
structure Bl2 (mg : Str → Option Value) : Prop where
  str : mg "str" = none
  all : mg "all" = none
  tup : mg "tuple" = none
  set : mg "set" = none
  zip : mg "zip" = none
  min : mg "min" = none
  enum : mg "enumerate" = none
section
variable {P : Program} {w : World} {K : PySem.W.Frag} {mg : Str → Option Value} {base : Heap} {f C : Addr} {fd : FuncData}
def spBetween : Sp := fun vs H Q _ => ∃ n lo hi : Int, vs = [.int n, .int lo, .int hi] ∧ Q (.bl (decide (lo ≤ n ∧ n ≤ hi))) H
theorem ok_between (F : Dn K d_is_between f fd) (cW : CalW P w K mg base) : FnOk P w K mg base CX0 2 f fd ["thing", "low", "high"] spBetween := by
  refine F.ok sc_is_between (fun vs H Q E h => ?_) (fun cdv A outer s H vs Q E hr h => ?_)
  · obtain ⟨n, lo, hi, rfl, _⟩ := h
    rfl
  · obtain ⟨n, lo, hi, rfl, hQ⟩ := h
    refine ⟨_, PSs.nox (pss_one (ps_ret (pe_and (pe_c cW hr (by decide) rfl (pa_cons (pv 0) pa_nil)) (pe_one (pe_chain op_le op_le (pv 1) (pv 0) (pv 2)))))), ?_⟩
    refine ⟨_, rfl, n, rfl, true, rfl, iteT ?_⟩
    refine ⟨_, rfl, _, rfl, _, _, rfl, rfl, _, rfl, ?_⟩
    refine ite2 (fun h1 => ?_) (fun h1 => ?_)
    · have h1' : lo ≤ n := of_decide_eq_true h1
      refine ⟨_, rfl, _, _, rfl, rfl, ?_⟩
      have e : decide (n ≤ hi) = decide (lo ≤ n ∧ n ≤ hi) := decide_eq_decide.mpr ⟨fun z => ⟨h1', z⟩, fun z => z.2⟩
      show Q (.bl (decide (n ≤ hi))) H
      rw [e]
      exact hQ
    · have h1' : ¬ lo ≤ n := fun z => h1 (decide_eq_true z)
      have e : decide (lo ≤ n ∧ n ≤ hi) = false := decide_eq_false fun z => h1' z.1
      rw [e] at hQ
      exact hQ
abbrev CalB (P : Program) (w : World) (K : PySem.W.Frag) (mg : Str → Option Value) (base : Heap) : Prop := Cal P w K mg base 2 "is_between" spBetween []
/-- what is a name -/
def spName : Sp := fun vs H Q _ => ∃ l : List Nat, vs = [.str (S l)] ∧ NM.ok l ∧ ∀ H', Same H H' → Q (.bl true) H'
theorem ok_name (F : Dn K d_is_name f fd) (b : Bl mg) (b2 : Bl2 mg) (g : ∃ t, mg "LONGEST_NAME" = some (.int 8 t)) : FnOk P w K mg base CX0 1 f fd ["thing"] spName := by
  refine F.ok sc_is_name (fun vs H Q E h => ?_) (fun cdv A outer s H vs Q E hr h => ?_)
  · obtain ⟨l, rfl, _⟩ := h
    rfl
  · obtain ⟨l, rfl, ⟨l1, l8, lc⟩, hQ⟩ := h
    obtain ⟨t, g⟩ := g
    have hz : (S l).length ≤ sizeLine := by rw [SX.S_len]; exact Nat.le_trans l8 (by decide)
    refine ⟨_, PSs.nox (pss_cons (ps_if (PW.pt (pw_or (pt_not (pt_val (pe_callB call_isi rfl b.isi boot_isinstance (pa_cons (pv 0) (pa_cons (pe_bltn (v := .ty "str") rfl b2.str boot_str rfl) pa_nil)))))
        (pw_or1 (pt_not (pt_chain op_le op_le pe_int (pe_callB call_len_str rfl b.len boot_len (pa_cons (pv 0) pa_nil)) (pe_glob (v := .int 8) rfl g ⟨t, rfl⟩)))))) pss_never pss_nil)
      (pss_one (ps_ret (pe_callB (cr_all rfl) rfl b2.all boot_all (pa_cons (pe_lc (own := [("sign", 1)]) (g := gName 1) (tt := tYes) rfl sc_is_name.nd (pi_str (pv 0)) (blkOk_by (N := N_is_name) (sc := defScope s_is_name) (by decide +kernel))
          (fun _ _ _ _ _ => pg_name (i := 1) sc_is_name.nd rfl (Or.inl rfl)) (fun _ _ _ _ _ => pts_nil) (fun _ _ _ _ _ => pe_chain op_le_str op_le_str pe_str (pv 1) pe_str)) pa_nil))))), ?_⟩
    refine ⟨_, rfl, _, _, _, _, true, rfl, ClsV.ty _, TyX.base (TyOf.str _), kit_ty (by decide +kernel), true, rfl, iteF ?_⟩
    refine ⟨_, rfl, _, rfl, hz, _, _, rfl, rfl, _, rfl, ?_⟩
    rw [SX.S_len]
    refine ite2 (fun _ => ?_) (fun z => absurd (decide_eq_true (by omega)) z)
    refine ⟨_, _, rfl, rfl, _, rfl, ?_⟩
    have e8 : decide ((l.length : Int) ≤ 8) = true := decide_eq_true (by omega)
    rw [e8]
    refine iteF ?_
    refine ⟨_, rfl, _, rfl, fun D hD => lc_it walk_str (fun i H2 => H2 D = some (.lst ((List.replicate i true).map V.bl)) ∧ Same H H2) ⟨upd_same, same_new hD⟩ (fun _ _ _ _ => trivial) ?_ ?_⟩
    · rintro i x H2 H3 hi ⟨hd, sm⟩ ⟨rfl, c', hc', rfl⟩
      have hi' : i < l.length := by simpa [S] using hi
      have hmem : c' ∈ l := by
        have : l[i]? = some c' := by simpa [S] using hc'
        exact List.mem_of_getElem? this
      have hcc := lc c' hmem
      refine ⟨rfl, ?_⟩
      refine ⟨_, rfl, _, _, rfl, rfl, _, rfl, ?_⟩
      have ea : (!decide ((⟨#[c']⟩ : Str).cps.toList < (Str.ofString "a").cps.toList)) = true := by
        have e1 : (Str.ofString "a").cps.toList = [97] := by decide +kernel
        rw [e1]
        have : ¬ (([c'] : List Nat) < [97]) := by
          rw [List.cons_lt_cons_iff]
          rintro (z | ⟨z, z'⟩)
          · omega
          · exact absurd z' (by simp)
        simp [this]
      have ez : (!decide ((Str.ofString "z").cps.toList < (⟨#[c']⟩ : Str).cps.toList)) = true := by
        have e1 : (Str.ofString "z").cps.toList = [122] := by decide +kernel
        rw [e1]
        have : ¬ (([122] : List Nat) < [c']) := by
          rw [List.cons_lt_cons_iff]
          rintro (z | ⟨z, z'⟩)
          · omega
          · exact absurd z' (by simp)
        simp [this]
      rw [ea]
      refine iteT ⟨_, _, rfl, rfl, ?_⟩
      rw [ez]
      refine ⟨_, hd, ?_, ?_, ?_⟩
      · rw [List.length_map, List.length_replicate]
        exact Nat.lt_of_lt_of_le (by omega : i < 64) (by decide)
      · rw [upd_same]
        simp [List.replicate_succ']
      · intro a o e
        rw [upd_ne (ne_of_none e hD)]
        exact sm a o e
    · rintro H2 ⟨hd, sm⟩
      refine ⟨D, _, rfl, SqL.of hd, ?_⟩
      have e3 : (List.replicate (S l).cps.size true).all id = true := by simp
      rw [e3]
      exact hQ H2 sm

/-- an order: one to eight unlike names -/
structure Ord (xs : List Str) : Prop where
  ne : xs ≠ []
  l8 : xs.length ≤ 8
  nd : xs.Nodup
  nm : ∀ x ∈ xs, ∃ l, x = S l ∧ NM.ok l
abbrev CalN (P : Program) (w : World) (K : PySem.W.Frag) (mg : Str → Option Value) (base : Heap) : Prop := Cal P w K mg base 1 "is_name" spName []
def spOrder : Sp := fun vs H Q _ => ∃ (ot : Addr) (xs : List Str), vs = [.ref ot] ∧ H ot = some (.tup (xs.map V.str)) ∧ Ord xs ∧ ∀ H', Same H H' → Q (.bl true) H'
theorem ok_order (F : Dn K d_is_order f fd) (b : Bl mg) (b2 : Bl2 mg) (g : ∃ t, mg "MOST_NAMES" = some (.int 8 t)) (cN : CalN P w K mg base) : FnOk P w K mg base CX0 2 f fd ["thing"] spOrder := by
  refine F.ok sc_is_order (fun vs H Q E h => ?_) (fun cdv A outer s H vs Q E hr h => ?_)
  · obtain ⟨ot, xs, rfl, _⟩ := h
    rfl
  · obtain ⟨ot, xs, rfl, hot, ox, hQ⟩ := h
    obtain ⟨t, g⟩ := g
    have xpos : 0 < xs.length := List.length_pos_iff.mpr ox.ne
    have l8 := ox.l8
    refine ⟨_, PSs.nox (pss_cons (ps_if (PW.pt (pw_or (pt_not (pt_val (pe_callB call_isi rfl b.isi boot_isinstance (pa_cons (pv 0) (pa_cons (pe_bltn (v := .ty "tuple") rfl b2.tup boot_tuple rfl) pa_nil)))))
        (pw_or1 (pt_not (pt_chain op_le op_le pe_int (pe_callB call_len_seq rfl b.len boot_len (pa_cons (pv 0) pa_nil)) (pe_glob (v := .int 8) rfl g ⟨t, rfl⟩)))))) pss_never pss_nil)
      (pss_one (ps_ret (pe_and (pe_callB (cr_all rfl) rfl b2.all boot_all (pa_cons (pe_lc (own := [("name", 1)]) (g := gName 1) (tt := tYes) rfl sc_is_order.nd (pi_tup (pv 0)) (blkOk_by (N := N_is_order) (sc := defScope s_is_order) (by decide +kernel))
          (fun _ _ _ _ _ => pg_name (i := 1) sc_is_order.nd rfl (Or.inl rfl)) (fun _ _ _ _ _ => pts_nil) (fun _ _ _ _ _ => pe_c cN hr (by decide) rfl (pa_cons (pv 1) pa_nil))) pa_nil))
        (pe_one (pe_cmpR op_eq (ST.pe_lenSet rfl rfl b.len rfl b2.set (pv 0)) (pe_callB call_len_seq rfl b.len boot_len (pa_cons (pv 0) pa_nil)) (nomark _))))))), ?_⟩
    refine ⟨_, rfl, _, _, _, _, true, rfl, ClsV.ty _, TyX.base (TyOf.tup hot), kit_ty (by decide +kernel), true, rfl, iteF ?_⟩
    refine ⟨_, rfl, ot, _, rfl, .inr (SqT.of hot), _, _, rfl, rfl, _, rfl, ?_⟩
    rw [List.length_map]
    refine ite2 (fun _ => ?_) (fun z => absurd (decide_eq_true (by omega)) z)
    refine ⟨_, _, rfl, rfl, _, rfl, ?_⟩
    have e8 : decide ((xs.length : Int) ≤ 8) = true := decide_eq_true (by omega)
    rw [e8]
    refine iteF ?_
    refine ⟨_, rfl, ot, rfl, ⟨_, SqT.of hot⟩, fun D hD => lc_tup (fun i H2 => H2 D = some (.lst ((List.replicate i true).map V.bl)) ∧ Same H H2) ⟨upd_same, same_new hD⟩ (fun _ H2 _ z => SqT.of (z.2 _ _ hot)) ?_ ?_⟩
    · rintro i x H2 hx ⟨hd, sm⟩
      have hi' : i < xs.length := by
        have := (List.getElem?_eq_some_iff.mp hx).1
        simpa using this
      rw [List.getElem?_map] at hx
      obtain ⟨y, hy, rfl⟩ := Option.map_eq_some_iff.mp hx
      obtain ⟨l, rfl, hl⟩ := ox.nm y (List.mem_of_getElem? hy)
      refine ⟨rfl, ?_⟩
      refine ⟨_, rfl, l, rfl, hl, fun H3 s3 => ⟨_, s3 _ _ hd, ?_, ?_, ?_⟩⟩
      · rw [List.length_map, List.length_replicate]
        exact Nat.lt_of_lt_of_le (by omega : i < 64) (by decide)
      · rw [upd_same]
        simp [List.replicate_succ']
      · intro a o e
        rw [upd_ne (ne_of_none e hD)]
        exact s3 a o (sm a o e)
    · rintro H2 ⟨hd, sm⟩
      refine ⟨D, _, rfl, SqL.of hd, true, ?_, ?_⟩
      · have e3 : (List.replicate (xs.map V.str).length true).all id = true := by simp
        rw [e3]
      refine iteT ?_
      refine ⟨_, rfl, ot, xs, rfl, .inr (SqT.of (sm _ _ hot)), ox.nd, by omega, _, rfl, ot, _, rfl, .inr (SqT.of (sm _ _ hot)), ?_⟩
      rw [List.length_map]
      exact ⟨rfl, by simpa using hQ H2 sm⟩
/-- a rule by the least credit -/
def LeastR (H : Hp) (r ot : Addr) (xs : List Str) (g : Int) : Prop := H r = some (.tup [.str "least", .ref ot, .int g]) ∧ H ot = some (.tup (xs.map V.str)) ∧ Ord xs ∧ 0 ≤ g ∧ g ≤ 1000
theorem LeastR.ext {H H' : Hp} {r ot : Addr} {xs : List Str} {g : Int} (h : LeastR H r ot xs g) (e : ∀ a ys, H a = some (.tup ys) → H' a = some (.tup ys)) : LeastR H' r ot xs g := ⟨e _ _ h.1, e _ _ h.2.1, h.2.2⟩
def spRule : Sp := fun vs H Q _ => ∃ (r ot : Addr) (xs : List Str) (g : Int), vs = [.ref r] ∧ LeastR H r ot xs g ∧ ∀ H', Same H H' → Q (.bl true) H'
theorem ok_rule (F : Dn K d_is_rule f fd) (b : Bl mg) (b2 : Bl2 mg) (g : ∃ t, mg "MOST_GRAIN" = some (.int 1000 t)) (cO : Cal P w K mg base 2 "is_order" spOrder []) (cB : CalB P w K mg base) : FnOk P w K mg base CX0 3 f fd ["thing"] spRule := by
  refine F.ok sc_is_rule (fun vs H Q E h => ?_) (fun cdv A outer s H vs Q E hr h => ?_)
  · obtain ⟨r, ot, xs, gr, rfl, _⟩ := h
    rfl
  · obtain ⟨r, ot, xs, gr, rfl, ⟨hrr, hot, ox, g0, g1⟩, hQ⟩ := h
    obtain ⟨t, g⟩ := g
    refine ⟨_, PSs.nox (pss_cons (ps_if (PW.pt (pw_or (pt_not (pt_val (pe_callB call_isi rfl b.isi boot_isinstance (pa_cons (pv 0) (pa_cons (pe_bltn (v := .ty "tuple") rfl b2.tup boot_tuple rfl) pa_nil)))))
        (pw_or (pt_cmpR op_lt (pe_callB call_len_seq rfl b.len boot_len (pa_cons (pv 0) pa_nil)) pe_int (nomark _))
        (pw_or1 (pt_not (pt_val (pe_c cO hr (by decide) rfl (pa_cons (pe_ix ix_tup (pv 0) pe_int (fun _ _ => rfl)) pa_nil)))))))) pss_never pss_nil)
      (pss_cons (ps_if (pt_cmpR op_eq (pe_ix ix_tup (pv 0) pe_int (fun _ _ => rfl)) pe_str (nomark _)) (pss_one (ps_ret (pe_and (pe_cmpR op_eq (pe_callB call_len_seq rfl b.len boot_len (pa_cons (pv 0) pa_nil)) pe_int (nomark _))
        (pe_one (pe_c cB hr (by decide) rfl (pa_cons (pe_ix ix_tup (pv 0) pe_int (fun _ _ => rfl)) (pa_cons pe_int (pa_cons (pe_glob (v := .int 1000) rfl g ⟨t, rfl⟩) pa_nil)))))))) pss_nil) pss_never)), ?_⟩
    refine ⟨_, rfl, _, _, _, _, true, rfl, ClsV.ty _, TyX.base (TyOf.tup hrr), kit_ty (by decide +kernel), true, rfl, iteF ?_⟩
    refine ⟨_, rfl, r, _, rfl, .inr (SqT.of hrr), _, _, rfl, rfl, _, rfl, iteF ?_⟩
    refine ⟨_, rfl, r, _, _, _, rfl, rfl, SqT.of hrr, rfl, ot, xs, rfl, hot, ox, fun H2 s2 => ⟨true, rfl, iteF ?_⟩⟩
    have hrr2 := s2 _ _ hrr
    refine ⟨_, rfl, r, _, _, _, rfl, rfl, SqT.of hrr2, rfl, rfl, _, rfl, iteT ?_⟩
    refine ⟨_, rfl, r, _, rfl, .inr (SqT.of hrr2), rfl, true, rfl, iteT ?_⟩
    refine ⟨_, rfl, r, _, _, _, rfl, rfl, SqT.of hrr2, rfl, gr, 0, 1000, rfl, ?_⟩
    rw [decide_eq_true (show 0 ≤ gr ∧ gr ≤ 1000 from ⟨g0, g1⟩)]
    exact hQ H2 s2
end
end K35
set_option Elab.async false
set_option linter.all false
set_option maxRecDepth 100000
set_option maxHeartbeats 4000000
namespace K35
open PySem PySem.Spec PyProof.Rows L2
open C8 (Cal Mak Met pe_c pe_mk pe_mt pe_mt0)
open LamX (Tabs ExtN TabB)
open SX (S)
theorem inV_strs (x : Str) : ∀ R : List Str, inV (.str x) (R.map V.str) = decide (x ∈ R)
  | [] => rfl
  | y :: R => by
    have ih := inV_strs x R
    unfold inV at ih ⊢
    rw [List.map_cons, List.any_cons, ih]
    have e : eqV (.str y) (.str x) = decide (x = y) := by
      show decide (y = x) = decide (x = y)
      exact decide_eq_decide.mpr ⟨Eq.symm, Eq.symm⟩
    rw [e]
    simp [Bool.decide_or]
theorem flat_strs (R : List Str) : (R.map V.str).all flatV = true := by
  rw [List.all_eq_true]
  intro v hv
  obtain ⟨y, _, rfl⟩ := List.mem_map.mp hv
  rfl
section
variable {P : Program} {w : World} {K : PySem.W.Frag} {mg : Str → Option Value} {base : Heap} {f C : Addr} {fd : FuncData}
def spNo : Sp := fun vs H Q _ => ∃ (ot rd : Addr) (xs R : List Str), vs = [.ref ot, .ref rd] ∧ H ot = some (.tup (xs.map V.str)) ∧ H rd = some (.lst (R.map V.str)) ∧ xs.length ≤ 13 ∧
  ∀ (t : Addr) (H' : Hp), Same H H' → H t = none → H' t = some (.tup ((xs.filter fun x => decide (x ∈ R)).map V.str)) → Q (.ref t) H'
theorem ok_no (F : Dn K d_names_of f fd) (b2 : Bl2 mg) : FnOk P w K mg base CX0 1 f fd ["order", "riders"] spNo := by
  refine F.ok sc_names_of (fun vs H Q E h => ?_) (fun cdv A outer s H vs Q E hr h => ?_)
  · obtain ⟨ot, rd, xs, R, rfl, _⟩ := h
    rfl
  · obtain ⟨ot, rd, xs, R, rfl, hot, hrd, l13, hQ⟩ := h
    refine ⟨_, PSs.nox (pss_one (ps_ret (pe_callTy call_tuple_of rfl b2.tup boot_tuple (pa_cons (pe_lc (own := [("name", 2)]) (g := gName 2) rfl sc_names_of.nd (pi_tup (pv 0)) (blkOk_by (N := N_names_of) (sc := defScope s_names_of) (by decide +kernel))
          (fun _ _ _ _ _ => pg_name (i := 2) sc_names_of.nd rfl (Or.inl rfl)) (fun _ _ _ _ _ => pts_one (pt_cmpR (r := rIn K false) op_in_seq (pv 2) (pv 1) (by rfl))) (fun _ _ _ _ _ => pv 2)) pa_nil)))), ?_⟩
    refine ⟨_, rfl, ot, rfl, ⟨_, SqT.of hot⟩, fun D hD => lc_tup (fun i H2 => H2 D = some (.lst (((xs.take i).filter fun x => decide (x ∈ R)).map V.str)) ∧ Same H H2) ⟨upd_same, same_new hD⟩ (fun _ H2 _ z => SqT.of (z.2 _ _ hot)) ?_ ?_⟩
    · rintro i x H2 hx ⟨hd, sm⟩
      have hi' : i < xs.length := by
        have := (List.getElem?_eq_some_iff.mp hx).1
        simpa using this
      rw [List.getElem?_map] at hx
      obtain ⟨y, hy, rfl⟩ := Option.map_eq_some_iff.mp hx
      have et : xs.take (i + 1) = xs.take i ++ [y] := by rw [List.take_succ, hy]; rfl
      refine ⟨rfl, ?_⟩
      refine ⟨_, rfl, _, rfl, rd, _, rfl, .inl (SqL.of (sm _ _ hrd)), rfl, flat_strs R, _, rfl, ?_⟩
      simp only [Bool.false_eq_true, if_false]
      rw [inV_strs]
      refine ite2 (fun hm => ?_) (fun hm => ?_)
      · refine ⟨_, rfl, _, hd, ?_, ?_, ?_⟩
        · rw [List.length_map]
          refine Nat.lt_of_le_of_lt (List.length_filter_le _ _) ?_
          rw [List.length_take]
          exact Nat.lt_of_lt_of_le (by omega : min i xs.length < 64) (by decide)
        · rw [upd_same, et, List.filter_append, List.map_append]
          simp [hm]
        · intro a o e
          rw [upd_ne (ne_of_none e hD)]
          exact sm a o e
      · refine ⟨?_, sm⟩
        rw [et, List.filter_append]
        simp [hm, hd]
    · rintro H2 ⟨hd, sm⟩
      rw [List.length_map, List.take_length] at hd
      refine ⟨D, _, rfl, .inl ⟨SqL.of hd, fun l fl => hQ l _ (sm.trans (same_new fl)) ?_ upd_same⟩⟩
      exact sm.free fl
def spFm : Sp := fun vs H Q _ => ∃ (r ot : Addr) (xs : List Str) (g : Int), vs = [.ref r] ∧ LeastR H r ot xs g ∧
  ∀ (t : Addr) (H' : Hp), Same H H' → H t = none → H' t = some (.tup (xs.map fun _ => V.int 0)) → Q (.ref t) H'
theorem zs_take (xs : List Str) (i : Nat) (h : i < xs.length) : ((xs.take i).map fun _ => V.int 0) ++ [V.int 0] = (xs.take (i + 1)).map fun _ => V.int 0 := by
  rw [List.take_succ, List.getElem?_eq_getElem h, List.map_append]
  rfl
theorem ok_fm (F : Dn K d_first_memory f fd) (b2 : Bl2 mg) : FnOk P w K mg base CX0 1 f fd ["rule"] spFm := by
  refine F.ok sc_first_memory (fun vs H Q E h => ?_) (fun cdv A outer s H vs Q E hr h => ?_)
  · obtain ⟨r, ot, xs, g, rfl, _⟩ := h
    rfl
  · obtain ⟨r, ot, xs, g, rfl, ⟨hrr, hot, ox, g0, g1⟩, hQ⟩ := h
    have l8 := ox.l8
    refine ⟨_, PSs.nox (pss_cons (ps_if (pt_cmpR op_eq (pe_ix ix_tup (pv 0) pe_int (fun _ _ => rfl)) pe_str (nomark _)) (pss_one (ps_ret (pe_callTy call_tuple_of rfl b2.tup boot_tuple (pa_cons (pe_lc (own := [("name", 1)]) (g := gName 1) (tt := tYes) rfl sc_first_memory.nd (pi_tup (pe_ix ix_tup (pv 0) pe_int (fun _ _ => rfl))) (blkOk_by (N := N_first_memory) (sc := defScope s_first_memory) (by decide +kernel))
          (fun _ _ _ _ _ => pg_name (i := 1) sc_first_memory.nd rfl (Or.inl rfl)) (fun _ _ _ _ _ => pts_nil) (fun _ _ _ _ _ => pe_int)) pa_nil)))) pss_nil) pss_never), ?_⟩
    refine ⟨_, rfl, r, _, _, _, rfl, rfl, SqT.of hrr, rfl, rfl, _, rfl, iteT ?_⟩
    refine ⟨_, rfl, r, _, _, _, rfl, rfl, SqT.of hrr, rfl, ot, rfl, ⟨_, SqT.of hot⟩, fun D hD => lc_tup (fun i H2 => H2 D = some (.lst ((xs.take i).map fun _ => V.int 0)) ∧ Same H H2) ⟨upd_same, same_new hD⟩ (fun _ H2 _ z => SqT.of (z.2 _ _ hot)) ?_ ?_⟩
    · rintro i x H2 hx ⟨hd, sm⟩
      have hi' : i < xs.length := by
        have := (List.getElem?_eq_some_iff.mp hx).1
        simpa using this
      refine ⟨rfl, _, hd, ?_, ?_, ?_⟩
      · rw [List.length_map, List.length_take]
        exact Nat.lt_of_lt_of_le (by omega : min i xs.length < 64) (by decide)
      · rw [upd_same, zs_take xs i hi']
      · intro a o e
        rw [upd_ne (ne_of_none e hD)]
        exact sm a o e
    · rintro H2 ⟨hd, sm⟩
      rw [List.length_map, List.take_length] at hd
      exact ⟨D, _, rfl, .inl ⟨SqL.of hd, fun l fl => hQ l _ (sm.trans (same_new fl)) (sm.free fl) upd_same⟩⟩
end
end K35
set_option Elab.async false
set_option linter.all false
set_option maxRecDepth 100000
set_option maxHeartbeats 4000000
namespace K35
open PySem PySem.Spec PyProof.Rows L2
open C8 (Cal Mak Met pe_c pe_mk pe_mt pe_mt0)
open LamX (Tabs ExtN TabB)
open SX (S)
/-- the def's code is known -/
theorem okT {P : Program} {w : World} {K : PySem.W.Frag} {mg : Str → Option Value} {base : Heap} {x qual : Str} {params : Arguments} {body : List Stmt} {scope : Scope} {dvs : List V} {kws : List (Str × V)} {p : He.Defn} {fd : FuncData}
    {CX : CXT} {N ps : List Str} {k : Nat} {sp : Sp} (F : FunD K x qual params body scope dvs kws (He.fAd K p) fd) (S : FnScope N ps scope) (len : ∀ vs H Q E, sp vs H Q E → vs.length = ps.length)
    (hbody : ∀ (A : Around) (outer : List Env) (s : Shared) (H : Hp) (vs : List V) (Q : VK) (E : XK), Room k (A.deeper (envOfC qual scope s.heap.objs.size (He.fAd K p) (.ref (He.cT K p).1))) → sp vs H Q E →
      ∃ t, PSs (cxOf CX P w K mg base N qual scope (He.fAd K p) (.ref (He.cT K p).1) A outer s H E) body t ∧ t { nx := fun _ H' => Q .non H', rt := Q } (start N vs) H) : FnOk P w K mg base CX (k + 1) (He.fAd K p) fd ps sp := by
  obtain ⟨oc, od, dV, kV, doc, pm, an, cdv, ct, osl, rfl, lk, hcd, _, _⟩ := F.ex
  obtain ⟨c, rfl⟩ := He.codeIn_ref hcd
  have e : (He.cT K p).1 = c := He.codeOf_eq lk rfl
  rw [e] at hbody
  exact fn_of lk hcd S len fun A outer s H vs Q E hr hsp => hbody A outer s H vs Q E hr hsp
/-- the table of the lambda -/
def T0 (K : PySem.W.Frag) : List (Addr × Str) := [((He.cT K ("least_driver", none)).2, (envOfC d_least_driver.qual d_least_driver.scope 0 0 .none).qual ++ "<lambda>")]
/-- what counts of a credit, by the grain -/
def cnt (g c : Int) : Int := if g = 0 then c else (c * g).fdiv 840
/-- credits stand at a -/
def Crd (H : Hp) (a : Addr) (xs : List Str) (c : Str → Int) : Prop := H a = some (.tup (xs.map fun x => V.int (c x)))
section
variable {P : Program} {w : World} {K : PySem.W.Frag} {mg : Str → Option Value} {base : Heap} {f C : Addr} {fd : FuncData}
def spLd (K : PySem.W.Frag) : Sp := fun vs H Q _ => ∃ (r ot hd nt : Addr) (xs ns : List Str) (g : Int) (c : Str → Int), vs = [.ref r, .ref hd, .ref nt] ∧ LeastR H r ot xs g ∧ Crd H hd xs c ∧ H nt = some (.tup (ns.map V.str)) ∧ ns ≠ [] ∧ (∀ y ∈ ns, y ∈ xs) ∧ Tabs (T0 K) H ∧
  ∀ H1, ExtN H H1 → Tabs (T0 K) H1 → ∀ y, LK.IsMin (fun x => cnt g (c x)) ns y → Q (.str y) H1
theorem ok_ld (F : Dn K d_least_driver (He.fAd K ("least_driver", none)) fd) (b2 : Bl2 mg) (gp : ∃ t, mg "RIDE_PARTS" = some (.int 840 t)) (TB : TabB base mg (He.cT K ("least_driver", none)).1 (He.cT K ("least_driver", none)).2) :
    FnOk P w K mg base CX0 3 (He.fAd K ("least_driver", none)) fd ["rule", "held", "names"] (spLd K) := by
  refine okT F sc_least_driver (fun vs H Q E h => ?_) (fun A outer s H vs Q E hr h => ?_)
  · obtain ⟨r, ot, hd, nt, xs, ns, g, c, rfl, _⟩ := h
    rfl
  · obtain ⟨r, ot, hd, nt, xs, ns, g, c, rfl, lr, hc, hnt, nne, sub, tabs, hQ⟩ := h
    obtain ⟨hrr, hot, ox, g0, g1⟩ := id lr
    obtain ⟨t, gp⟩ := gp
    have hu := hu_of hr
    have l8 := ox.l8
    refine ⟨_, PSs.nox (pss_cons (ps_set (i := 3) sc_least_driver.nd rfl (.inl rfl) (pe_ix ix_tup (pv 0) pe_int (fun _ _ => rfl)))
      (pss_cons (ps_set (i := 6) sc_least_driver.nd rfl (.inr rfl) pe_dnewK)
      (pss_cons (ps_for PassesOwn.never rfl (RZ.pi_zipA rfl b2.zip (pa_cons (pe_ix ix_tup (pv 0) pe_int (fun _ _ => rfl)) (pa_cons (pv 1) pa_nil))) (pg_tup rfl (pgs_cons (pg_name (i := 4) sc_least_driver.nd rfl (.inl rfl)) (pgs_cons (pg_name (i := 5) sc_least_driver.nd rfl (.inl rfl)) pgs_nil)))
        (pss_one (ps_dput hu (pv 6) (pv 4) (pe_ifExp (pt_cmpR op_eq (pv 3) pe_int (nomark _)) (pv 5) (pe_op op_fdW (pe_op op_mul (pv 5) (pv 3)) (pe_glob (v := .int 840) rfl gp ⟨t, rfl⟩))) rfl)))
      (pss_one (ps_ret (LK.pe_minKey (T := T0 K) (jd := 6) rfl b2.min (pa_cons (pv 2) pa_nil) hr TB rfl (List.mem_singleton.mpr rfl) (fun p hp _ => by rw [List.mem_singleton.mp hp]; rfl) ⟨rfl, rfl, rfl, by decide +kernel, by decide +kernel, by decide +kernel, by decide +kernel, by decide +kernel, by decide +kernel⟩ (by show ∀ (y : Str × NameKind), y ∈ _ → y.2 = NameKind.free → List.lookup y.1 d_least_driver.scope.names = some .cell ∨ List.lookup y.1 d_least_driver.scope.names = some .free; decide +kernel) rfl rfl rfl (fun _ _ => rfl) (fun _ _ _ _ _ _ => rfl))))))), ?_⟩
    refine ⟨_, rfl, r, _, _, _, rfl, rfl, SqT.of hrr, rfl, fun dd fdd => ?_⟩
    have sd := same_new (o := .dK []) fdd
    refine ⟨_, rfl, r, _, _, _, rfl, rfl, SqT.of (sd _ _ hrr), rfl, _, rfl, ot, hd, _, _, rfl, .inr ⟨SqT.of (sd _ _ hot), SqT.of (sd _ _ hc), ?_⟩⟩
    refine RZ.for_zipT (by simp) (fun i σ H2 => ∃ (v4 v5 : Option V) (kvs : List (Key × V)), σ = [some (.ref r), some (.ref hd), some (.ref nt), some (.int g), v4, v5, some (.ref dd)] ∧ H2 dd = some (.dK kvs) ∧ kvs.length ≤ i ∧ (∀ (j : Nat) (x : Str), j < i → xs[j]? = some x → valV kvs (Sum.inr x) = some (.int (cnt g (c x)))) ∧ Same H H2)
      ⟨_, _, [], rfl, upd_same, Nat.le_refl _, fun j x hj => absurd hj (Nat.not_lt_zero _), sd⟩ (fun i σ H2 ⟨_, _, _, _, _, _, _, sm⟩ => ⟨SqT.of (sm _ _ hot), SqT.of (sm _ _ hc)⟩) ?_ ?_
    · rintro i x y T σ H2 hx hy ⟨v4, v5, kvs, rfl, hdd, hlen, hval, sm⟩ hT
      have hi' : i < xs.length := by
        have := (List.getElem?_eq_some_iff.mp hx).1
        simpa using this
      rw [List.getElem?_map] at hx hy
      obtain ⟨z, hz, rfl⟩ := Option.map_eq_some_iff.mp hx
      rw [hz] at hy
      cases hy
      have sT := same_new (o := .tup [V.str z, V.int (c z)]) hT
      refine ⟨T, _, rfl, SqT.of upd_same, rfl, _, _, rfl, _, _, rfl, rfl, ?_⟩
      have fin : ∀ v : V, v = .int (cnt g (c z)) → ∃ a H4, V.ref dd = .ref a ∧ DPut (upd H2 T (.tup [V.str z, V.int (c z)])) a (.str z) v H4 ∧ (∃ (v4 v5 : Option V) (kvs : List (Key × V)), [some (.ref r), some (.ref hd), some (.ref nt), some (.int g), some (V.str z), some (V.int (c z)), some (.ref dd)] = [some (.ref r), some (.ref hd), some (.ref nt), some (.int g), v4, v5, some (.ref dd)] ∧ H4 dd = some (.dK kvs) ∧ kvs.length ≤ i + 1 ∧ (∀ (j : Nat) (x : Str), j < i + 1 → xs[j]? = some x → valV kvs (Sum.inr x) = some (.int (cnt g (c x)))) ∧ Same H H4) := by
        rintro v rfl
        refine ⟨dd, _, rfl, DPut.k (k := Sum.inr z) (sT _ _ hdd) (Nat.lt_of_le_of_lt (by omega : kvs.length ≤ 8) (by decide)), _, _, _, rfl, upd_same, Nat.le_trans (length_putK _ _ _) (by omega), ?_, ?_⟩
        · intro j x hj hjx
          rw [valV_put]
          by_cases e : x = z
          · rw [e, if_pos rfl]
          · rw [if_neg (fun q => e (Sum.inr.inj q))]
            refine hval j x ?_ hjx
            rcases Nat.lt_succ_iff_lt_or_eq.mp hj with h | h
            · exact h
            · rw [h, hz] at hjx
              exact absurd (Option.some.inj hjx).symm e
        · intro a o e
          rw [upd_ne (ne_of_none e fdd)]
          exact sT a o (sm a o e)
      by_cases hg : g = 0
      · have z0 : decide (V.int g = V.int 0) = true := by simp [hg]
        refine ⟨_, rfl, rfl, _, rfl, ?_⟩
        rw [z0]
        refine iteT ⟨_, rfl, _, rfl, _, rfl, fin _ ?_⟩
        unfold cnt
        rw [if_pos hg]
      · have z0 : decide (V.int g = V.int 0) = false := by simp [hg]
        refine ⟨_, rfl, rfl, _, rfl, ?_⟩
        rw [z0]
        refine iteF ⟨_, rfl, _, rfl, _, _, rfl, rfl, cb_r (by omega) (by omega), _, _, rfl, rfl, ⟨by decide, by decide⟩, _, rfl, _, rfl, fin _ ?_⟩
        unfold cnt
        rw [if_neg hg]
    · rintro σ H2 ⟨v4, v5, kvs, rfl, hdd, hlen, hval, sm⟩
      refine ⟨_, rfl, nt, dd, ns, kvs, fun x => cnt g (c x), rfl, SqT.of (sm _ _ hnt), nne, rfl, hdd, fun y hy => ?_, tabs.ext sm, fun H1 e1 t1 y hy => hQ H1 ((ExtN.of sm).trans e1) t1 y hy⟩
      obtain ⟨j, hj, rfl⟩ := List.mem_iff_getElem.mp (sub y hy)
      exact hval j _ (by simpa using hj) (List.getElem?_eq_getElem hj)
end
end K35
set_option Elab.async false
set_option linter.all false
set_option maxRecDepth 100000
set_option maxHeartbeats 4000000
namespace K35
open PySem PySem.Spec PyProof.Rows L2
open C8 (Cal Mak Met pe_c pe_mk pe_mt pe_mt0)
open LamX (Tabs ExtN TabB)
open SX (S)
/-- credits behind a day -/
def nxt (R : List Str) (d : Str) (c : Str → Int) (x : Str) : Int := c x - (if x ∈ R then (840 : Int).fdiv (R.length : Int) else 0) + (if x = d then 840 else 0)
/-- who may drive -/
def Drv (g : Int) (c : Str → Int) (xs R : List Str) (y : Str) : Prop := LK.IsMin (fun x => cnt g (c x)) (xs.filter fun x => decide (x ∈ R)) y
theorem LeastR.extN {H H' : Hp} {r ot : Addr} {xs : List Str} {g : Int} (h : LeastR H r ot xs g) (e : ExtN H H') : LeastR H' r ot xs g := h.ext fun a ys z => e _ _ z fun _ q => by cases q
theorem LeastR.same {H H' : Hp} {r ot : Addr} {xs : List Str} {g : Int} (h : LeastR H r ot xs g) (e : Same H H') : LeastR H' r ot xs g := h.ext fun a ys z => e _ _ z
theorem Crd.extN {H H' : Hp} {a : Addr} {xs : List Str} {c : Str → Int} (h : Crd H a xs c) (e : ExtN H H') : Crd H' a xs c := e _ _ h fun _ q => by cases q
theorem Crd.same {H H' : Hp} {a : Addr} {xs : List Str} {c : Str → Int} (h : Crd H a xs c) (e : Same H H') : Crd H' a xs c := e _ _ h
section
variable {P : Program} {w : World} {K : PySem.W.Frag} {mg : Str → Option Value} {base : Heap} {f C : Addr} {fd : FuncData}
def spDb (K : PySem.W.Frag) : Sp := fun vs H Q _ => ∃ (r ot hd rd : Addr) (xs R : List Str) (g : Int) (c : Str → Int), vs = [.ref r, .ref hd, .ref rd] ∧ LeastR H r ot xs g ∧ Crd H hd xs c ∧ H rd = some (.lst (R.map V.str)) ∧ DayOk xs R ∧ Tabs (T0 K) H ∧
  ∀ H1, ExtN H H1 → Tabs (T0 K) H1 → ∀ y, Drv g c xs R y → Q (.str y) H1
theorem ok_db (F : Dn K d_driver_by f fd) (cNo : Cal P w K mg base 1 "names_of" spNo []) (cLd : Cal P w K mg base 3 "least_driver" (spLd K) []) : FnOk P w K mg base CX0 4 f fd ["rule", "memory", "riders"] (spDb K) := by
  refine F.ok sc_driver_by (fun vs H Q E h => ?_) (fun cdv A outer s H vs Q E hr h => ?_)
  · obtain ⟨r, ot, hd, rd, xs, R, g, c, rfl, _⟩ := h
    rfl
  · obtain ⟨r, ot, hd, rd, xs, R, g, c, rfl, lr, hc, hrd, dy, tabs, hQ⟩ := h
    obtain ⟨hrr, hot, ox, g0, g1⟩ := id lr
    have l8 := ox.l8
    refine ⟨_, PSs.nox (pss_cons (ps_set (i := 3) sc_driver_by.nd rfl (.inl rfl) (pe_c cNo hr (by decide) rfl (pa_cons (pe_ix ix_tup (pv 0) pe_int (fun _ _ => rfl)) (pa_cons (pv 2) pa_nil))))
      (pss_cons (ps_if (pt_cmpR op_eq (pe_ix ix_tup (pv 0) pe_int (fun _ _ => rfl)) pe_str (nomark _)) (pss_one (ps_ret (pe_c cLd hr (by decide) rfl (pa_cons (pv 0) (pa_cons (pv 1) (pa_cons (pv 3) pa_nil)))))) pss_nil) pss_never)), ?_⟩
    refine ⟨_, rfl, r, _, _, _, rfl, rfl, SqT.of hrr, rfl, _, rfl, ot, rd, xs, R, rfl, hot, hrd, by omega, fun t H2 s2 ft ht => ?_⟩
    refine ⟨_, rfl, r, _, _, _, rfl, rfl, SqT.of (s2 _ _ hrr), rfl, rfl, _, rfl, iteT ?_⟩
    refine ⟨_, rfl, _, rfl, _, rfl, r, ot, hd, t, xs, _, g, c, rfl, lr.same s2, hc.same s2, ht, ?_, fun y hy => (List.mem_filter.mp hy).1, tabs.ext s2, fun H3 e3 t3 y hy => hQ H3 ((ExtN.of s2).trans e3) t3 y hy⟩
    intro z
    obtain ⟨y, hy⟩ := List.exists_mem_of_ne_nil R dy.ne
    have : y ∈ xs.filter fun x => decide (x ∈ R) := List.mem_filter.mpr ⟨dy.sub y hy, decide_eq_true hy⟩
    rw [z] at this
    cases this
def spPb : Sp := fun vs H Q _ => ∃ (ot hd rd : Addr) (xs R : List Str) (d : Str) (c : Str → Int), vs = [.ref ot, .ref hd, .ref rd, .str d] ∧ H ot = some (.tup (xs.map V.str)) ∧ xs.length ≤ 13 ∧ Crd H hd xs c ∧ H rd = some (.lst (R.map V.str)) ∧ R ≠ [] ∧ R.length ≤ 13 ∧
  ∀ (t : Addr) (H' : Hp), Same H H' → H t = none → Crd H' t xs (nxt R d c) → Q (.ref t) H'
theorem ok_pb (F : Dn K d_parts_behind f fd) (b : Bl mg) (b2 : Bl2 mg) (gp : ∃ t, mg "RIDE_PARTS" = some (.int 840 t)) : FnOk P w K mg base CX0 1 f fd ["order", "held", "riders", "driver"] spPb := by
  refine F.ok sc_parts_behind (fun vs H Q E h => ?_) (fun cdv A outer s H vs Q E hr h => ?_)
  · obtain ⟨ot, hd, rd, xs, R, d, c, rfl, _⟩ := h
    rfl
  · obtain ⟨ot, hd, rd, xs, R, d, c, rfl, hot, l13, hc, hrd, rne, r13, hQ⟩ := h
    obtain ⟨t, gp⟩ := gp
    have rpos : 0 < R.length := List.length_pos_iff.mpr rne
    refine ⟨_, PSs.nox (pss_cons (ps_set (i := 4) sc_parts_behind.nd rfl (.inl rfl) (pe_lst pa_nil))
      (pss_cons (ps_for PassesOwn.never rfl (RZ.pi_zipA rfl b2.zip (pa_cons (pv 0) (pa_cons (pv 1) pa_nil))) (pg_tup rfl (pgs_cons (pg_name (i := 5) sc_parts_behind.nd rfl (.inl rfl)) (pgs_cons (pg_name (i := 6) sc_parts_behind.nd rfl (.inl rfl)) pgs_nil)))
        (C8.pss_cut (ps_set (i := 7) sc_parts_behind.nd rfl (.inl rfl) (pe_ifExp (pt_cmpR op_in_seq (pv 5) (pv 2) (by rfl)) (pe_op op_fdW (pe_glob (v := .int 840) rfl gp ⟨t, rfl⟩) (pe_callB call_len_seq rfl b.len boot_len (pa_cons (pv 2) pa_nil))) pe_int))
        (C8.pss_cut (ps_set (i := 8) sc_parts_behind.nd rfl (.inl rfl) (pe_ifExp (pt_cmpR op_eq (pv 5) (pv 3) (nomark _)) (pe_glob (v := .int 840) rfl gp ⟨t, rfl⟩) pe_int))
        (pss_one (ps_expr (pe_bm PySem.F.plainAttrs_list PySem.F.slot_list_append PySem.F.type_list_append mt_append (pv 4) (pa_cons (pe_op op_add (pe_op op_sub (pv 6) (pv 7)) (pv 8)) pa_nil)))))))
      (pss_one (ps_ret (pe_callTy call_tuple_of rfl b2.tup boot_tuple (pa_cons (pv 4) pa_nil)))))), ?_⟩
    refine ⟨by show 0 ≤ sizeLine; decide, fun o fo => ?_⟩
    have so := same_new (o := .lst []) fo
    refine ⟨_, rfl, _, rfl, ot, hd, _, _, rfl, .inr ⟨SqT.of (so _ _ hot), SqT.of (so _ _ hc), ?_⟩⟩
    refine RZ.for_zipT (by simp) (fun i σ H2 => ∃ (v5 v6 v7 v8 : Option V), σ = [some (.ref ot), some (.ref hd), some (.ref rd), some (.str d), some (.ref o), v5, v6, v7, v8] ∧ H2 o = some (.lst ((xs.take i).map fun x => V.int (nxt R d c x))) ∧ Same H H2)
      ⟨_, _, _, _, rfl, upd_same, so⟩ (fun i σ H2 ⟨_, _, _, _, _, _, sm⟩ => ⟨SqT.of (sm _ _ hot), SqT.of (sm _ _ hc)⟩) ?_ ?_
    · rintro i x y T σ H2 hx hy ⟨v5, v6, v7, v8, rfl, ho, sm⟩ hT
      have hi' : i < xs.length := by
        have := (List.getElem?_eq_some_iff.mp hx).1
        simpa using this
      rw [List.getElem?_map] at hx hy
      obtain ⟨z, hz, rfl⟩ := Option.map_eq_some_iff.mp hx
      rw [hz] at hy
      cases hy
      have et : xs.take (i + 1) = xs.take i ++ [z] := by rw [List.take_succ, hz]; rfl
      have sT := same_new (o := .tup [V.str z, V.int (c z)]) hT
      refine ⟨T, _, rfl, SqT.of upd_same, rfl, _, _, rfl, _, _, rfl, rfl, ?_⟩
      refine ⟨fun σ' H' => H' = upd H2 T (.tup [V.str z, V.int (c z)]) ∧ ∃ v8, σ' = [some (.ref ot), some (.ref hd), some (.ref rd), some (.str d), some (.ref o), some (.str z), some (.int (c z)), some (.int (if z ∈ R then (840 : Int).fdiv (R.length : Int) else 0)), v8], ?_, ?_⟩
      · refine ⟨_, rfl, _, rfl, rd, _, rfl, .inl (SqL.of (sT _ _ (sm _ _ hrd))), rfl, flat_strs R, _, rfl, ?_⟩
        simp only [Bool.false_eq_true, if_false]
        rw [inV_strs]
        refine ite2 (fun hm => ?_) (fun hm => ?_)
        · refine ⟨_, rfl, rd, _, rfl, .inl (SqL.of (sT _ _ (sm _ _ hrd))), _, _, rfl, rfl, ?_, rfl, v8, ?_⟩
          · rw [List.length_map]
            exact ⟨by omega, log_lt (n := 4) (by omega) (by decide) (by decide)⟩
          · rw [if_pos (of_decide_eq_true hm), List.length_map]
            rfl
        · refine ⟨rfl, v8, ?_⟩
          rw [if_neg (fun q => hm (decide_eq_true q))]
          rfl
      rintro σ' H' ⟨rfl, v8, rfl⟩
      refine ⟨fun σ' H' => H' = upd H2 T (.tup [V.str z, V.int (c z)]) ∧ σ' = [some (.ref ot), some (.ref hd), some (.ref rd), some (.str d), some (.ref o), some (.str z), some (.int (c z)), some (.int (if z ∈ R then (840 : Int).fdiv (R.length : Int) else 0)), some (.int (if z = d then 840 else 0))], ?_, ?_⟩
      · refine ⟨_, rfl, _, rfl, rfl, _, rfl, ?_⟩
        by_cases e : z = d
        · have z0 : decide (V.str z = V.str d) = true := by simp [e]
          rw [z0]
          refine iteT ⟨rfl, ?_⟩
          rw [if_pos e]
          rfl
        · have z0 : decide (V.str z = V.str d) = false := by simp [e]
          rw [z0]
          refine iteF ⟨rfl, ?_⟩
          rw [if_neg e]
          rfl
      rintro σ' H' ⟨rfl, rfl⟩
      refine ⟨_, rfl, Or.inl ⟨rfl, _, SqL.of (sT _ _ ho)⟩, _, rfl, _, rfl, _, _, rfl, rfl, _, rfl, _, _, rfl, rfl, o, _, _, rfl, rfl, sT _ _ ho, ?_, _, _, _, _, rfl, ?_, ?_⟩
      · rw [List.length_map, List.length_take]
        exact Nat.lt_of_lt_of_le (by omega : min i xs.length < 64) (by decide)
      · rw [upd_same, et, List.map_append]
        rfl
      · intro a u e
        rw [upd_ne (ne_of_none e fo)]
        exact sT a u (sm a u e)
    · rintro σ H2 ⟨v5, v6, v7, v8, rfl, ho, sm⟩
      rw [List.length_map, List.take_length] at ho
      exact ⟨_, rfl, o, _, rfl, .inl ⟨SqL.of ho, fun l fl => hQ l _ (sm.trans (same_new fl)) (sm.free fl) upd_same⟩⟩
def spMb (K : PySem.W.Frag) : Sp := fun vs H Q _ => ∃ (r ot hd rd : Addr) (xs R : List Str) (g : Int) (c : Str → Int), vs = [.ref r, .ref hd, .ref rd] ∧ LeastR H r ot xs g ∧ Crd H hd xs c ∧ H rd = some (.lst (R.map V.str)) ∧ DayOk xs R ∧ Tabs (T0 K) H ∧
  ∀ (t : Addr) (H1 : Hp) (y : Str), ExtN H H1 → Tabs (T0 K) H1 → Drv g c xs R y → Crd H1 t xs (nxt R y c) → Q (.ref t) H1
theorem ok_mb (F : Dn K d_memory_behind f fd) (cDb : Cal P w K mg base 4 "driver_by" (spDb K) []) (cPb : Cal P w K mg base 1 "parts_behind" spPb []) : FnOk P w K mg base CX0 5 f fd ["rule", "memory", "riders"] (spMb K) := by
  refine F.ok sc_memory_behind (fun vs H Q E h => ?_) (fun cdv A outer s H vs Q E hr h => ?_)
  · obtain ⟨r, ot, hd, rd, xs, R, g, c, rfl, _⟩ := h
    rfl
  · obtain ⟨r, ot, hd, rd, xs, R, g, c, rfl, lr, hc, hrd, dy, tabs, hQ⟩ := h
    obtain ⟨hrr, hot, ox, g0, g1⟩ := id lr
    have l8 := ox.l8
    refine ⟨_, PSs.nox (pss_cons (ps_if (pt_cmpR op_eq (pe_ix ix_tup (pv 0) pe_int (fun _ _ => rfl)) pe_str (nomark _)) pss_never pss_nil)
      (pss_cons (ps_set (i := 3) sc_memory_behind.nd rfl (.inl rfl) (pe_c cDb hr (by decide) rfl (pa_cons (pv 0) (pa_cons (pv 1) (pa_cons (pv 2) pa_nil)))))
      (pss_cons (ps_if (pt_cmpR op_eq (pe_ix ix_tup (pv 0) pe_int (fun _ _ => rfl)) pe_str (nomark _)) (pss_one (ps_ret (pe_c cPb hr (by decide) rfl (pa_cons (pe_ix ix_tup (pv 0) pe_int (fun _ _ => rfl)) (pa_cons (pv 1) (pa_cons (pv 2) (pa_cons (pv 3) pa_nil))))))) pss_nil) pss_never))), ?_⟩
    refine ⟨_, rfl, r, _, _, _, rfl, rfl, SqT.of hrr, rfl, rfl, _, rfl, ?_⟩
    have z0 : decide (V.str "least" = V.str "rounds") = false := by decide +kernel
    rw [z0]
    refine iteF ?_
    refine ⟨_, rfl, _, rfl, _, rfl, r, ot, hd, rd, xs, R, g, c, rfl, lr, hc, hrd, dy, tabs, fun H2 e2 t2 y hy => ?_⟩
    have lr2 := lr.extN e2
    obtain ⟨hrr2, hot2, _⟩ := id lr2
    have hrd2 : H2 rd = some (.lst (R.map V.str)) := e2 _ _ hrd fun _ q => by cases q
    refine ⟨_, rfl, r, _, _, _, rfl, rfl, SqT.of hrr2, rfl, rfl, _, rfl, iteT ?_⟩
    refine ⟨_, rfl, r, _, _, _, rfl, rfl, SqT.of hrr2, rfl, _, rfl, _, rfl, _, rfl, ot, hd, rd, xs, R, y, c, rfl, hot2, by omega, hc.extN e2, hrd2, dy.ne, by have := dy.ln; omega, fun t H3 s3 ft hcr => ?_⟩
    exact hQ t H3 y (e2.trans (ExtN.of s3)) (t2.ext s3) hy hcr
end
end K35
set_option Elab.async false
set_option linter.all false
set_option maxRecDepth 100000
set_option maxHeartbeats 4000000
namespace K35
open PySem PySem.Spec PyProof.Rows L2
open C8 (Cal Mak Met pe_c pe_mk pe_mt pe_mt0)
open LamX (Tabs ExtN TabB)
open SX (S)
/-- the fields of a Turns -/
def trF (r hd kp ps : Addr) : List (Str × V) := putF "past" (.ref ps) (putF "kept" (.ref kp) (putF "held" (.ref hd) (putF "rule" (.ref r) [])))
theorem f1 : ¬ (("rule" : Str) = "held") := by decide +kernel
theorem f2 : ¬ (("rule" : Str) = "kept") := by decide +kernel
theorem f3 : ¬ (("rule" : Str) = "past") := by decide +kernel
theorem f4 : ¬ (("held" : Str) = "kept") := by decide +kernel
theorem f5 : ¬ (("held" : Str) = "past") := by decide +kernel
theorem f6 : ¬ (("kept" : Str) = "past") := by decide +kernel
theorem trF_eq (r hd kp ps : Addr) : trF r hd kp ps = [(("rule" : Str), V.ref r), (("held" : Str), V.ref hd), (("kept" : Str), V.ref kp), (("past" : Str), V.ref ps)] := by
  unfold trF putF
  simp only [putF, if_neg f1, if_neg f2, if_neg f3, if_neg f4, if_neg f5, if_neg f6]
theorem tr_rule (r hd kp ps : Addr) : (trF r hd kp ps).lookup ("rule" : Str) = some (.ref r) := by
  unfold trF
  rw [lookup_putF, if_neg f3, lookup_putF, if_neg f2, lookup_putF, if_neg f1, lookup_putF, if_pos rfl]
theorem tr_held (r hd kp ps : Addr) : (trF r hd kp ps).lookup ("held" : Str) = some (.ref hd) := by
  unfold trF
  rw [lookup_putF, if_neg f5, lookup_putF, if_neg f4, lookup_putF, if_pos rfl]
theorem tr_kept (r hd kp ps : Addr) : (trF r hd kp ps).lookup ("kept" : Str) = some (.ref kp) := by
  unfold trF
  rw [lookup_putF, if_neg f6, lookup_putF, if_pos rfl]
theorem tr_past (r hd kp ps : Addr) : (trF r hd kp ps).lookup ("past" : Str) = some (.ref ps) := by
  unfold trF
  rw [lookup_putF, if_pos rfl]
theorem tr_no (r hd kp ps : Addr) {m : Str} (h1 : ¬ m = "rule") (h2 : ¬ m = "held") (h3 : ¬ m = "kept") (h4 : ¬ m = "past") : (trF r hd kp ps).lookup m = none := by
  unfold trF
  rw [lookup_putF, if_neg h4, lookup_putF, if_neg h3, lookup_putF, if_neg h2, lookup_putF, if_neg h1]
  all_goals rfl
theorem put_held (r hd kp ps hd' : Addr) : putF "held" (.ref hd') (trF r hd kp ps) = trF r hd' kp ps := by
  rw [trF_eq, trF_eq]
  simp only [putF, if_neg f1, if_pos]
theorem put_kept (r hd kp ps kp' : Addr) : putF "kept" (.ref kp') (trF r hd kp ps) = trF r hd kp' ps := by
  rw [trF_eq, trF_eq]
  simp only [putF, if_neg f2, if_neg f4, if_pos]
/-- a Turns by a rule, its credits twice, the past -/
def Tr (CT : Addr) (H : Hp) (tu r hd kp ps : Addr) : Prop := ∃ dx, H tu = some (.ins CT dx (trF r hd kp ps))
/-- what is known of the class -/
structure ClT (K : PySem.W.Frag) (CT : Addr) : Prop where
  cl : Cls K CT
  nr : NoAttr K CT "rule"
  nh : NoAttr K CT "held"
  nk : NoAttr K CT "kept"
  np : NoAttr K CT "past"
section
variable {P : Program} {w : World} {K : PySem.W.Frag} {mg : Str → Option Value} {base : Heap} {f C CT : Addr} {fd : FuncData}
def spTi (CT : Addr) : Sp := fun vs H Q _ => ∃ (p dx r ot : Addr) (xs : List Str) (g : Int), vs = [.ref p, .ref r] ∧ H p = some (.ins CT dx []) ∧ LeastR H r ot xs g ∧
  ∀ (H' : Hp) (hd kp ps : Addr), (∀ a o, a ≠ p → H a = some o → H' a = some o) → H ps = none → H' p = some (.ins CT dx (trF r hd kp ps)) → Crd H' hd xs (fun _ => 0) → Crd H' kp xs (fun _ => 0) → H' ps = some (.lst []) → Q .non H'
theorem ok_ti (F : Dn K d_Turns_init f fd) (b2 : Bl2 mg) (T : ClT K CT) (cR : Cal P w K mg base 3 "is_rule" spRule []) (cFm : Cal P w K mg base 1 "first_memory" spFm []) : FnOk P w K mg base CX0 4 f fd ["self", "rule"] (spTi CT) := by
  refine F.ok sc_Turns_init (fun vs H Q E h => ?_) (fun cdv A outer s H vs Q E hr h => ?_)
  · obtain ⟨p, dx, r, ot, xs, g, rfl, _⟩ := h
    rfl
  · obtain ⟨p, dx, r, ot, xs, g, rfl, hp, lr, hQ⟩ := h
    obtain ⟨hrr, hot, ox, g0, g1⟩ := id lr
    have l8 := ox.l8
    refine ⟨_, PSs.nox (pss_cons (ps_if (pt_not (pt_val (pe_c cR hr (by decide) rfl (pa_cons (pv 1) pa_nil)))) pss_never pss_nil)
      (pss_cons (ps_fld (pv 0) (pv 1) rfl)
      (pss_cons (ps_fld (pv 0) (pe_callTy call_tuple_of rfl b2.tup boot_tuple (pa_cons (pe_lc (own := [("name", 2)]) (g := gName 2) (tt := tYes) rfl sc_Turns_init.nd (pi_tup (pe_ix ix_tup (pv 1) pe_int (fun _ _ => rfl))) (blkOk_by (N := N_Turns_init) (sc := defScope s_Turns_init) (by decide +kernel))
          (fun _ _ _ _ _ => pg_name (i := 2) sc_Turns_init.nd rfl (Or.inl rfl)) (fun _ _ _ _ _ => pts_nil) (fun _ _ _ _ _ => pe_int)) pa_nil)) rfl)
      (pss_cons (ps_fld (pv 0) (pe_c cFm hr (by decide) rfl (pa_cons (pv 1) pa_nil)) rfl)
      (pss_one (ps_fld (pv 0) (pe_lst pa_nil) rfl)))))), ?_⟩
    refine ⟨_, rfl, r, ot, xs, g, rfl, lr, fun H1 s1 => ⟨true, rfl, iteF ?_⟩⟩
    refine ⟨_, rfl, _, rfl, p, CT, dx, _, rfl, s1 _ _ hp, T.cl, T.nr, by show 0 < 1000; decide, ?_⟩
    have tn : ∀ {a : Addr} {ys : List V} {H2 : Hp}, H2 p = some (.ins CT dx []) → H2 a = some (.tup ys) → a ≠ p := fun e1 e2 z => by rw [z, e1] at e2; cases e2
    have hrr1 : (upd H1 p (.ins CT dx (putF "rule" (.ref r) []))) r = some (.tup [.str "least", .ref ot, .int g]) := by rw [upd_ne (tn hp hrr)]; exact s1 _ _ hrr
    have hot1 : (upd H1 p (.ins CT dx (putF "rule" (.ref r) []))) ot = some (.tup (xs.map V.str)) := by rw [upd_ne (tn hp hot)]; exact s1 _ _ hot
    refine ⟨_, rfl, r, _, _, _, rfl, rfl, SqT.of hrr1, rfl, ot, rfl, ⟨_, SqT.of hot1⟩, fun D hD => lc_tup (fun i H2 => H2 D = some (.lst ((xs.take i).map fun _ => V.int 0)) ∧ Same (upd H1 p (.ins CT dx (putF "rule" (.ref r) []))) H2) ⟨upd_same, same_new hD⟩ (fun _ H2 _ z => SqT.of (z.2 _ _ hot1)) ?_ ?_⟩
    · rintro i x H2 hx ⟨hd, sm⟩
      have hi' : i < xs.length := by
        have := (List.getElem?_eq_some_iff.mp hx).1
        simpa using this
      refine ⟨rfl, _, hd, ?_, ?_, ?_⟩
      · rw [List.length_map, List.length_take]
        exact Nat.lt_of_lt_of_le (by omega : min i xs.length < 64) (by decide)
      · rw [upd_same, zs_take xs i hi']
      · intro a o e
        rw [upd_ne (ne_of_none e hD)]
        exact sm a o e
    · rintro H2 ⟨hd, sm⟩
      rw [List.length_map, List.take_length] at hd
      refine ⟨D, _, rfl, .inl ⟨SqL.of hd, fun hl fl => ?_⟩⟩
      have s3 := sm.trans (same_new (o := .tup (xs.map fun _ => V.int 0)) fl)
      have hp3 := s3 _ _ (upd_same : (upd H1 p (.ins CT dx (putF "rule" (.ref r) []))) p = _)
      refine ⟨_, rfl, p, CT, dx, _, rfl, hp3, T.cl, T.nh, by show 1 < 1000; decide, ?_⟩
      have nhl : hl ≠ p := fun z => by rw [z] at fl; rw [sm _ _ (upd_same : (upd H1 p (.ins CT dx (putF "rule" (.ref r) []))) p = _)] at fl; cases fl
      have key : ∀ (a : Addr) (ys : List V), a ≠ p → (upd H1 p (.ins CT dx (putF "rule" (.ref r) []))) a = some (.tup ys) → (upd (upd H2 hl (.tup (xs.map fun _ => V.int 0))) p (.ins CT dx (putF "held" (.ref hl) (putF "rule" (.ref r) [])))) a = some (.tup ys) := fun a ys na e => by
        rw [upd_ne na]
        exact s3 _ _ e
      refine ⟨_, rfl, r, ot, xs, g, rfl, ⟨key _ _ (tn hp hrr) hrr1, key _ _ (tn hp hot) hot1, ox, g0, g1⟩, fun kl H4 s4 fk hk => ?_⟩
      have hp4 := s4 _ _ (upd_same : (upd (upd H2 hl (.tup (xs.map fun _ => V.int 0))) p (.ins CT dx (putF "held" (.ref hl) (putF "rule" (.ref r) [])))) p = _)
      have nkl : kl ≠ p := fun z => by rw [z, upd_same] at fk; cases fk
      refine ⟨_, rfl, p, CT, dx, _, rfl, hp4, T.cl, T.nk, by show (putF "held" (V.ref hl) (putF "rule" (V.ref r) [])).length < 1000; simp only [putF, if_neg f1]; show 2 < 1000; decide, ?_⟩
      refine ⟨by show 0 ≤ sizeLine; decide, fun pl fp => ?_⟩
      have npl : pl ≠ p := fun z => by rw [z, upd_same] at fp; cases fp
      have hp5 : (upd (upd H4 p (.ins CT dx (putF "kept" (.ref kl) (putF "held" (.ref hl) (putF "rule" (.ref r) []))))) pl (.lst [])) p = some (.ins CT dx (putF "kept" (.ref kl) (putF "held" (.ref hl) (putF "rule" (.ref r) [])))) := by
        rw [upd_ne npl.symm, upd_same]
      refine ⟨_, rfl, p, CT, dx, _, rfl, hp5, T.cl, T.np, by show (putF "kept" (V.ref kl) (putF "held" (V.ref hl) (putF "rule" (V.ref r) []))).length < 1000; simp only [putF, if_neg f1, if_neg f2, if_neg f4]; show 3 < 1000; decide, ?_⟩
      have back : ∀ a o, a ≠ p → H a = some o → H4 a = some o := fun a o na e => by
        refine s4 _ _ ?_
        rw [upd_ne na]
        refine s3 _ _ ?_
        rw [upd_ne na]
        exact s1 _ _ e
      rw [upd_ne npl] at fp
      have fpH : H pl = none := by
        cases e : H pl with
        | none => rfl
        | some o => rw [back pl o npl e] at fp; cases fp
      have npk : kl ≠ pl := ne_of_none hk fp
      have hhl4 : H4 hl = some (.tup (xs.map fun _ => V.int 0)) := s4 _ _ (by rw [upd_ne nhl, upd_same])
      have nph : hl ≠ pl := ne_of_none hhl4 fp
      refine hQ _ hl kl pl (fun a o na e => ?_) fpH upd_same ?_ ?_ ?_
      · have e4 := back a o na e
        rw [upd_ne na, upd_ne (ne_of_none e4 fp), upd_ne na]
        exact e4
      · show (upd _ p _) hl = _
        rw [upd_ne nhl, upd_ne nph, upd_ne nhl]
        exact hhl4
      · show (upd _ p _) kl = _
        rw [upd_ne nkl, upd_ne npk, upd_ne nkl]
        exact hk
      · rw [upd_ne npl, upd_same]
end
end K35
set_option Elab.async false
set_option linter.all false
set_option maxRecDepth 100000
set_option maxHeartbeats 4000000
namespace K35
open PySem PySem.Spec PyProof.Rows L2
open C8 (Cal Mak Met pe_c pe_mk pe_mt pe_mt0)
open LamX (Tabs ExtN TabB)
open SX (S)
theorem cut_strs (R : List Str) (i : Nat) (h : i ≤ R.length) : cutV (R.map V.str) none (some (i : Int)) = (R.take i).map V.str := by
  have z : ¬ ((i : Int) < 0) := by omega
  have z2 : ((i : Int) ≤ (R.length : Int)) := by omega
  unfold cutV HT.sIx
  simp [z, z2, Nat.min_eq_left h]
theorem min_same {κ : Str → Int} {ns : List Str} {y y' : Str} (h : LK.IsMin κ ns y) (h' : LK.IsMin κ ns y') : y = y' := by
  obtain ⟨i, hi, m⟩ := h
  obtain ⟨j, hj, m'⟩ := h'
  have a := m j y' hj
  have b := m' i y hi
  rcases Nat.lt_trichotomy i j with l | l | l
  · have := b.2 l
    omega
  · rw [l, hj] at hi
    exact (Option.some.inj hi).symm
  · have := a.2 l
    omega
section
variable {P : Program} {w : World} {K : PySem.W.Frag} {mg : Str → Option Value} {base : Heap} {f C CT : Addr} {fd : FuncData}
def spCk (CT : Addr) : Sp := fun vs H Q _ => ∃ (tu rd r ot hd kp ps : Addr) (xs R : List Str) (g : Int), vs = [.ref tu, .ref rd] ∧ Tr CT H tu r hd kp ps ∧ LeastR H r ot xs g ∧ H rd = some (.lst (R.map V.str)) ∧ DayOk xs R ∧ ∀ H', Same H H' → Q .non H'
theorem ok_ck (F : Dn K d_Turns_check_riders f fd) (b : Bl mg) (b2 : Bl2 mg) (T : ClT K CT) : FnOk P w K mg base CX0 1 f fd ["self", "riders"] (spCk CT) := by
  refine F.ok sc_Turns_check_riders (fun vs H Q E h => ?_) (fun cdv A outer s H vs Q E hr h => ?_)
  · obtain ⟨tu, rd, r, ot, hd, kp, ps, xs, R, g, rfl, _⟩ := h
    rfl
  · obtain ⟨tu, rd, r, ot, hd, kp, ps, xs, R, g, rfl, ⟨dx, htu⟩, lr, hrd, dy, hQ⟩ := h
    obtain ⟨hrr, hot, ox, g0, g1⟩ := id lr
    have rpos : 0 < R.length := List.length_pos_iff.mpr dy.ne
    refine ⟨_, PSs.nox (pss_cons (ps_if (pt_cmpR op_eq (pe_callB call_len_seq rfl b.len boot_len (pa_cons (pv 1) pa_nil)) pe_int (nomark _)) pss_never pss_nil)
      (pss_one (ps_for PassesOwn.never rfl (pi_enum rfl b2.enum (pa_cons (pv 1) pa_nil)) (pg_tup rfl (pgs_cons (pg_name (i := 2) sc_Turns_check_riders.nd rfl (.inl rfl)) (pgs_cons (pg_name (i := 3) sc_Turns_check_riders.nd rfl (.inl rfl)) pgs_nil)))
        (pss_one (ps_if (PW.pt (pw_or (pt_cmpR op_notIn_seq (pv 3) (pe_ix ix_tup (pe_fld (pv 0) rfl) pe_int (fun _ _ => rfl)) (by rfl)) (pw_or1 (pt_cmpR op_in_seq (pv 3) (pe_slice sl_list (pv 1) po_none (po_some (pv 2))) (by rfl))))) pss_never pss_nil))))), ?_⟩
    refine ⟨_, rfl, rd, _, rfl, .inl (SqL.of hrd), rfl, _, rfl, ?_⟩
    have z0 : decide (V.int ((R.map V.str).length : Nat) = V.int 0) = false := by
      rw [List.length_map]
      exact decide_eq_false fun q => by injection q with q; omega
    rw [z0]
    refine iteF ?_
    refine ⟨_, rfl, rd, _, rfl, SqL.of hrd, for_it walk_enum (fun i σ H2 => ∃ v2 v3 : Option V, σ = [some (.ref tu), some (.ref rd), v2, v3] ∧ Same H H2) ⟨_, _, rfl, fun _ _ e => e⟩ (fun i σ H2 _ ⟨_, _, _, sm⟩ => SqL.of (sm _ _ hrd)) ?_ ?_⟩
    · rintro i x σ H2 H3 hi ⟨v2, v3, rfl, sm⟩ ⟨Tp, x1, x2, rfl, hT, rfl, e1, e2⟩
      rw [List.length_map] at hi
      cases e1
      have e2 : (List.map V.str R)[i]? = some x2 := e2
      rw [List.getElem?_map] at e2
      obtain ⟨z, hz, rfl⟩ := Option.map_eq_some_iff.mp e2
      have sT := same_new (o := .tup [V.int (i : Nat), V.str z]) hT
      have s3 := sm.trans sT
      refine ⟨Tp, _, rfl, SqT.of upd_same, rfl, _, _, rfl, _, _, rfl, rfl, ?_⟩
      refine ⟨_, rfl, _, rfl, tu, CT, dx, _, _, rfl, s3 _ _ htu, T.cl, T.nr, tr_rule _ _ _ _, r, _, _, _, rfl, rfl, SqT.of (s3 _ _ hrr), rfl, ot, _, rfl, .inr (SqT.of (s3 _ _ hot)), rfl, flat_strs xs, _, rfl, ?_⟩
      rw [inV_strs, decide_eq_true (dy.sub z (List.mem_of_getElem? hz))]
      refine iteF ?_
      refine ⟨_, rfl, _, rfl, _, rfl, _, rfl, rd, _, rfl, SqL.of (s3 _ _ hrd), fun sl fsl => ?_⟩
      rw [cut_strs R i (by omega)]
      have s4 := s3.trans (same_new (o := .lst ((R.take i).map V.str)) fsl)
      refine ⟨sl, _, rfl, .inl (SqL.of upd_same), rfl, flat_strs _, _, rfl, ?_⟩
      have nin : ¬ z ∈ R.take i := fun hm => by
        obtain ⟨j, hj, e⟩ := List.mem_iff_getElem.mp hm
        rw [List.getElem_take] at e
        rw [List.length_take] at hj
        have e3 : R[j]? = R[i]? := by rw [hz, List.getElem?_eq_getElem (by omega), e]
        have := (List.getElem?_inj (by omega) dy.nd).mp e3
        omega
      simp only [Bool.false_eq_true, if_false]
      rw [inV_strs, decide_eq_false nin]
      exact iteF ⟨_, _, rfl, s4⟩
    · rintro σ H2 ⟨v2, v3, rfl, sm⟩
      exact hQ H2 sm
def spWho (K : PySem.W.Frag) (CT : Addr) : Sp := fun vs H Q _ => ∃ (tu rd r ot hd kp ps : Addr) (xs R : List Str) (g : Int) (c : Str → Int), vs = [.ref tu, .ref rd] ∧ Tr CT H tu r hd kp ps ∧ LeastR H r ot xs g ∧ Crd H kp xs c ∧ H rd = some (.lst (R.map V.str)) ∧ DayOk xs R ∧ Tabs (T0 K) H ∧
  ∀ H1, ExtN H H1 → Tabs (T0 K) H1 → ∀ y, Drv g c xs R y → Q (.str y) H1
theorem ok_who (F : Dn K d_Turns_who f fd) (T : ClT K CT) (mC : Met P w K mg base 1 CT "check_riders" (spCk CT) []) (cDb : Cal P w K mg base 4 "driver_by" (spDb K) []) : FnOk P w K mg base CX0 5 f fd ["self", "riders"] (spWho K CT) := by
  refine F.ok sc_Turns_who (fun vs H Q E h => ?_) (fun cdv A outer s H vs Q E hr h => ?_)
  · obtain ⟨tu, rd, r, ot, hd, kp, ps, xs, R, g, c, rfl, _⟩ := h
    rfl
  · obtain ⟨tu, rd, r, ot, hd, kp, ps, xs, R, g, c, rfl, tr, lr, hc, hrd, dy, tabs, hQ⟩ := h
    obtain ⟨dx, htu⟩ := id tr
    refine ⟨_, PSs.nox (pss_cons (ps_expr (pe_mt mC hr (by decide) (pv 0) (pa_cons (pv 1) pa_nil)))
      (pss_one (ps_ret (pe_c cDb hr (by decide) rfl (pa_cons (pe_fld (pv 0) rfl) (pa_cons (pe_fld (pv 0) rfl) (pa_cons (pv 1) pa_nil))))))), ?_⟩
    refine ⟨_, rfl, tu, dx, _, rfl, htu, tr_no _ _ _ _ (by decide +kernel) (by decide +kernel) (by decide +kernel) (by decide +kernel), _, rfl, tu, rd, r, ot, hd, kp, ps, xs, R, g, rfl, tr, lr, hrd, dy, fun H2 s2 => ?_⟩
    have htu2 := s2 _ _ htu
    refine ⟨_, rfl, tu, CT, dx, _, _, rfl, htu2, T.cl, T.nr, tr_rule _ _ _ _, _, rfl, tu, CT, dx, _, _, rfl, htu2, T.cl, T.nk, tr_kept _ _ _ _, _, rfl, r, ot, kp, rd, xs, R, g, c, rfl, lr.same s2, hc.same s2, s2 _ _ hrd, dy, tabs.ext s2, fun H3 e3 t3 y hy => hQ H3 ((ExtN.of s2).trans e3) t3 y hy⟩
/-- all is kept but the Turns, its past, the tables -/
def KpT (tu ps : Addr) (H H' : Hp) : Prop := ∀ b o, H b = some o → (∀ q, o ≠ .tbl q) → b ≠ tu → b ≠ ps → H' b = some o
def spRide (K : PySem.W.Frag) (CT : Addr) : Sp := fun vs H Q _ => ∃ (tu rd r ot hd kp ps : Addr) (xs R : List Str) (g : Int) (c : Str → Int) (past : List V), vs = [.ref tu, .ref rd] ∧ Tr CT H tu r hd kp ps ∧ LeastR H r ot xs g ∧ Crd H hd xs c ∧ Crd H kp xs c ∧ H rd = some (.lst (R.map V.str)) ∧ DayOk xs R ∧ Tabs (T0 K) H ∧
  H ps = some (.lst past) ∧ past.length ≤ 1000 ∧ rd ≠ ps ∧
  ∀ (H1 : Hp) (hd' kp' : Addr) (y : Str), KpT tu ps H H1 → Tabs (T0 K) H1 → Drv g c xs R y → Tr CT H1 tu r hd' kp' ps → Crd H1 hd' xs (nxt R y c) → Crd H1 kp' xs (nxt R y c) → H1 ps = some (.lst (past ++ [.str y])) → Q (.str y) H1
theorem ok_ride (F : Dn K d_Turns_ride f fd) (T : ClT K CT) (mW : Met P w K mg base 5 CT "who" (spWho K CT) []) (cPb : Cal P w K mg base 1 "parts_behind" spPb []) (cMb : Cal P w K mg base 5 "memory_behind" (spMb K) []) : FnOk P w K mg base CX0 6 f fd ["self", "riders"] (spRide K CT) := by
  refine F.ok sc_Turns_ride (fun vs H Q E h => ?_) (fun cdv A outer s H vs Q E hr h => ?_)
  · obtain ⟨tu, rd, r, ot, hd, kp, ps, xs, R, g, c, past, rfl, _⟩ := h
    rfl
  · obtain ⟨tu, rd, r, ot, hd, kp, ps, xs, R, g, c, past, rfl, tr, lr, hcd, hck, hrd, dy, tabs, hps, pl, nrp, hQ⟩ := h
    obtain ⟨dx, htu⟩ := id tr
    have l8 := lr.2.2.1.l8
    have r8 := dy.ln
    refine ⟨_, PSs.nox (pss_cons (ps_set (i := 2) sc_Turns_ride.nd rfl (.inl rfl) (pe_mt mW hr (by decide) (pv 0) (pa_cons (pv 1) pa_nil)))
      (pss_cons (ps_fld (pv 0) (pe_c cPb hr (by decide) rfl (pa_cons (pe_ix ix_tup (pe_fld (pv 0) rfl) pe_int (fun _ _ => rfl)) (pa_cons (pe_fld (pv 0) rfl) (pa_cons (pv 1) (pa_cons (pv 2) pa_nil))))) rfl)
      (pss_cons (ps_fld (pv 0) (pe_c cMb hr (by decide) rfl (pa_cons (pe_fld (pv 0) rfl) (pa_cons (pe_fld (pv 0) rfl) (pa_cons (pv 1) pa_nil)))) rfl)
      (pss_cons (ps_expr (pe_bm PySem.F.plainAttrs_list PySem.F.slot_list_append PySem.F.type_list_append mt_append (pe_fld (pv 0) rfl) (pa_cons (pv 2) pa_nil)))
      (pss_one (ps_ret (pv 2))))))), ?_⟩
    refine ⟨_, rfl, tu, dx, _, rfl, htu, tr_no _ _ _ _ (by decide +kernel) (by decide +kernel) (by decide +kernel) (by decide +kernel), _, rfl, tu, rd, r, ot, hd, kp, ps, xs, R, g, c, rfl, tr, lr, hck, hrd, dy, tabs, fun H2 e2 t2 y hy => ?_⟩
    have htu2 : H2 tu = some (.ins CT dx (trF r hd kp ps)) := e2 _ _ htu fun _ q => by cases q
    have hrd2 : H2 rd = some (.lst (R.map V.str)) := e2 _ _ hrd fun _ q => by cases q
    have hps2 : H2 ps = some (.lst past) := e2 _ _ hps fun _ q => by cases q
    have lr2 := lr.extN e2
    obtain ⟨hrr2, hot2, _⟩ := id lr2
    refine ⟨_, rfl, tu, CT, dx, _, _, rfl, htu2, T.cl, T.nr, tr_rule _ _ _ _, r, _, _, _, rfl, rfl, SqT.of hrr2, rfl, _, rfl, tu, CT, dx, _, _, rfl, htu2, T.cl, T.nh, tr_held _ _ _ _, _, rfl, _, rfl, ot, hd, rd, xs, R, y, c, rfl, hot2, by omega, hcd.extN e2, hrd2, dy.ne, by omega, fun hd' H3 s3 fh hh => ?_⟩
    have len4 : ∀ a b c d : Addr, (trF a b c d).length < 1000 := fun a b c d => by rw [trF_eq]; show 4 < 1000; decide
    refine ⟨_, rfl, tu, CT, dx, _, rfl, s3 _ _ htu2, T.cl, T.nh, len4 _ _ _ _, ?_⟩
    rw [put_held]
    have nt : ∀ {a : Addr} {ys : List V}, H3 a = some (.tup ys) → a ≠ tu := fun e z => by rw [z, s3 _ _ htu2] at e; cases e
    have nl : ∀ {a : Addr} {ys : List V}, H3 a = some (.lst ys) → a ≠ tu := fun e z => by rw [z, s3 _ _ htu2] at e; cases e
    have lr4 : LeastR (upd H3 tu (.ins CT dx (trF r hd' kp ps))) r ot xs g := (lr2.same s3).ext fun a ys e => by rw [upd_ne (nt e)]; exact e
    have hck4 : Crd (upd H3 tu (.ins CT dx (trF r hd' kp ps))) kp xs c := by
      have := (hck.extN e2).same s3
      show (upd _ tu _) kp = _
      rw [upd_ne (nt this)]
      exact this
    have hrd4 : (upd H3 tu (.ins CT dx (trF r hd' kp ps))) rd = some (.lst (R.map V.str)) := by
      rw [upd_ne (nl (s3 _ _ hrd2))]
      exact s3 _ _ hrd2
    have tabs4 : Tabs (T0 K) (upd H3 tu (.ins CT dx (trF r hd' kp ps))) := by
      intro p hp
      obtain ⟨q, hq, tq, cq⟩ := (t2.ext s3) p hp
      refine ⟨q, ?_, tq, fun pos cv e => ?_⟩
      · rw [upd_ne (fun z => by rw [z, s3 _ _ htu2] at hq; cases hq)]
        exact hq
      · obtain ⟨c0, e1, e2⟩ := cq pos cv e
        refine ⟨c0, e1, ?_⟩
        rw [upd_ne (fun z => by rw [z, s3 _ _ htu2] at e2; cases e2)]
        exact e2
    refine ⟨_, rfl, tu, CT, dx, _, _, rfl, upd_same, T.cl, T.nr, tr_rule _ _ _ _, _, rfl, tu, CT, dx, _, _, rfl, upd_same, T.cl, T.nk, tr_kept _ _ _ _, _, rfl, r, ot, kp, rd, xs, R, g, c, rfl, lr4, hck4, hrd4, dy, tabs4, fun kp' H5 y' e5 t5 hy' hk' => ?_⟩
    have ey := min_same hy hy'
    subst ey
    have htu5 : H5 tu = some (.ins CT dx (trF r hd' kp ps)) := e5 _ _ upd_same fun _ q => by cases q
    refine ⟨_, rfl, tu, CT, dx, _, rfl, htu5, T.cl, T.nk, len4 _ _ _ _, ?_⟩
    rw [put_kept]
    have nt5 : ∀ {a : Addr} {ys : List V}, H5 a = some (.tup ys) → a ≠ tu := fun e z => by rw [z, htu5] at e; cases e
    have hps4 : (upd H3 tu (.ins CT dx (trF r hd' kp ps))) ps = some (.lst past) := by
      rw [upd_ne (nl (s3 _ _ hps2))]
      exact s3 _ _ hps2
    have hps5 : H5 ps = some (.lst past) := e5 _ _ hps4 fun _ q => by cases q
    have npt : ps ≠ tu := fun z => by rw [z, htu5] at hps5; cases hps5
    have hps6 : (upd H5 tu (.ins CT dx (trF r hd' kp' ps))) ps = some (.lst past) := by rw [upd_ne npt]; exact hps5
    have hh5 : Crd H5 hd' xs (nxt R y c) := e5 _ _ (by rw [upd_ne (nt hh)]; exact hh) fun _ q => by cases q
    have ntp : ∀ {a : Addr} {ys : List V}, H5 a = some (.tup ys) → a ≠ ps := fun e z => by rw [z, hps5] at e; cases e
    refine ⟨_, rfl, tu, CT, dx, _, _, rfl, upd_same, T.cl, T.np, tr_past _ _ _ _, Or.inl ⟨rfl, _, SqL.of hps6⟩, _, rfl, ps, _, _, rfl, rfl, hps6, Nat.lt_of_le_of_lt pl (by decide), _, rfl, ?_⟩
    refine hQ _ hd' kp' y (fun b o e hn n1 n2 => ?_) (fun p hp => ?_) hy ⟨dx, by rw [upd_ne npt.symm, upd_same]⟩ ?_ ?_ upd_same
    · rw [upd_ne n2, upd_ne n1]
      refine e5 _ _ ?_ hn
      rw [upd_ne n1]
      exact s3 _ _ (e2 _ _ e hn)
    · obtain ⟨q, hq, tq, cq⟩ := t5 p hp
      refine ⟨q, ?_, tq, fun pos cv e => ?_⟩
      · rw [upd_ne (fun z => by rw [z, hps5] at hq; cases hq), upd_ne (fun z => by rw [z, htu5] at hq; cases hq)]
        exact hq
      · obtain ⟨c0, e1, e2⟩ := cq pos cv e
        refine ⟨c0, e1, ?_⟩
        rw [upd_ne (fun z => by rw [z, hps5] at e2; cases e2), upd_ne (fun z => by rw [z, htu5] at e2; cases e2)]
        exact e2
    · show (upd _ ps _) hd' = _
      rw [upd_ne (ntp hh5), upd_ne (nt5 hh5)]
      exact hh5
    · show (upd _ ps _) kp' = _
      rw [upd_ne (ntp hk'), upd_ne (nt5 hk')]
      exact hk'
end
end K35
set_option Elab.async false
set_option linter.all false
set_option maxRecDepth 100000
set_option maxHeartbeats 4000000
/-! MT36: credits by the least stay within their bounds. -/
namespace K35
open PySem PySem.Spec PyProof.Rows L2
/-- a sum over a list -/
def Sm (f : Str → Int) : List Str → Int
  | [] => 0
  | x :: l => f x + Sm f l
theorem Sm_add (f g : Str → Int) : ∀ l, Sm (fun x => f x + g x) l = Sm f l + Sm g l
  | [] => rfl
  | x :: l => by
    show f x + g x + Sm (fun x => f x + g x) l = f x + Sm f l + (g x + Sm g l)
    rw [Sm_add f g l]
    omega
theorem Sm_mul (k : Int) (f : Str → Int) : ∀ l, Sm (fun x => k * f x) l = k * Sm f l
  | [] => by show (0 : Int) = k * 0; omega
  | x :: l => by
    show k * f x + Sm (fun x => k * f x) l = k * (f x + Sm f l)
    rw [Sm_mul k f l, Int.mul_add]
theorem Sm_le {f g : Str → Int} : ∀ {l : List Str}, (∀ x ∈ l, f x ≤ g x) → Sm f l ≤ Sm g l
  | [], _ => Int.le_refl _
  | x :: l, h => by
    show f x + Sm f l ≤ g x + Sm g l
    have h1 := h x (List.mem_cons_self ..)
    have h2 := Sm_le (f := f) (g := g) (l := l) fun y hy => h y (List.mem_cons_of_mem _ hy)
    omega
theorem Sm_congr {f g : Str → Int} {l : List Str} (h : ∀ x ∈ l, f x = g x) : Sm f l = Sm g l :=
  Int.le_antisymm (Sm_le fun x hx => Int.le_of_eq (h x hx)) (Sm_le fun x hx => Int.le_of_eq (h x hx).symm)
theorem Sm_zero : ∀ l, Sm (fun _ => 0) l = 0
  | [] => rfl
  | _ :: l => by show 0 + Sm (fun _ => 0) l = 0; rw [Sm_zero l]; rfl
theorem Sm_len : ∀ l : List Str, Sm (fun _ => 1) l = l.length
  | [] => rfl
  | x :: l => by
    show 1 + Sm (fun _ => 1) l = ((l.length + 1 : Nat) : Int)
    rw [Sm_len l]
    omega
theorem Sm_one (v : Str → Int) {d : Str} : ∀ {l : List Str}, l.Nodup → d ∈ l → Sm (fun x => if x = d then v x else 0) l = v d
  | [], _, h => by cases h
  | x :: l, nd, h => by
    have n1 := List.nodup_cons.mp nd
    show (if x = d then v x else 0) + Sm (fun x => if x = d then v x else 0) l = v d
    by_cases e : x = d
    · have z : Sm (fun x => if x = d then v x else 0) l = Sm (fun _ => 0) l := Sm_congr fun y hy => if_neg fun q => n1.1 (by rw [e, ← q]; exact hy)
      rw [if_pos e, z, Sm_zero, e]
      omega
    · rw [if_neg e, Sm_one v n1.2 (by rcases List.mem_cons.mp h with q | q; exact absurd q.symm e; exact q)]
      omega
theorem Sm_mem {l : List Str} (nd : l.Nodup) : ∀ {R : List Str}, R.Nodup → (∀ y ∈ R, y ∈ l) → Sm (fun x => if x ∈ R then 1 else 0) l = R.length
  | [], _, _ => by
    have : Sm (fun x => if x ∈ ([] : List Str) then 1 else 0) l = Sm (fun _ => 0) l := Sm_congr fun y _ => if_neg (by simp)
    rw [this, Sm_zero]
    rfl
  | y :: R, rn, h => by
    have n1 := List.nodup_cons.mp rn
    have e : Sm (fun x => if x ∈ y :: R then 1 else 0) l = Sm (fun x => (if x = y then 1 else 0) + (if x ∈ R then 1 else 0)) l := Sm_congr fun x _ => by
      by_cases e : x = y
      · have : ¬ x ∈ R := by rw [e]; exact n1.1
        simp [e, n1.1]
      · simp [e]
    rw [e, Sm_add, Sm_one (fun _ => 1) nd (h y (List.mem_cons_self ..)), Sm_mem nd n1.2 fun z hz => h z (List.mem_cons_of_mem _ hz)]
    show 1 + (R.length : Int) = ((R.length + 1 : Nat) : Int)
    omega
/-- what p picks of f -/
def pk (p : Str → Bool) (f : Str → Int) (x : Str) : Int := if p x = true then f x else 0
theorem core {G W n m r A B U cd : Int} (hG : 0 ≤ G) (hW : 0 ≤ W) (hr : 1 ≤ r) (h1 : 2 * (G * B) ≤ 840 * (G + W) * ((m - 1) * (n - (m - 1)))) (h2 : 2 * (G * U) ≤ 840 * (G + W) * ((m + r) * (n - (m + r))))
    (h3 : A = B + cd) (h4 : G * A + r * (G * cd - 840 * W) ≤ G * U) : 2 * (G * A) ≤ 840 * (G + W) * (m * (n - m)) - 840 * (G * r) := by
  have p1 : 0 ≤ r * (840 * (G + W) * ((m - 1) * (n - (m - 1))) - 2 * (G * B)) := Int.mul_nonneg (by omega) (by omega)
  have p5 : 0 ≤ W * (r * (r - 1)) := Int.mul_nonneg hW (Int.mul_nonneg (by omega) (by omega))
  have e : (r + 1) * (840 * (G + W) * (m * (n - m)) - 840 * (G * r)) - (r + 1) * (2 * (G * A)) = r * (840 * (G + W) * ((m - 1) * (n - (m - 1))) - 2 * (G * B)) + (840 * (G + W) * ((m + r) * (n - (m + r))) - 2 * (G * U)) + 2 * (G * U - (G * A + r * (G * cd - 840 * W))) + 840 * (W * (r * (r - 1))) := by
    subst h3
    grind
  have : (r + 1) * (2 * (G * A)) ≤ (r + 1) * (840 * (G + W) * (m * (n - m)) - 840 * (G * r)) := by omega
  exact Int.le_of_mul_le_mul_left this (by omega)
/-- the bound of every set -/
structure Iv (G W : Int) (xs : List Str) (c : Str → Int) : Prop where
  z : Sm c xs = 0
  b : ∀ p : Str → Bool, 2 * (G * Sm (pk p c) xs) ≤ 840 * (G + W) * (Sm (pk p fun _ => 1) xs * ((xs.length : Int) - Sm (pk p fun _ => 1) xs))
theorem Sm_nonneg {f : Str → Int} {l : List Str} (h : ∀ x ∈ l, 0 ≤ f x) : 0 ≤ Sm f l := by
  have := Sm_le (f := fun _ => 0) (g := f) (l := l) h
  rwa [Sm_zero] at this
theorem part {k : Nat} (h1 : 1 ≤ k) (h8 : k ≤ 8) : ∃ q : Int, (840 : Int).fdiv (k : Int) = q ∧ 0 ≤ q ∧ (k : Int) * q = 840 ∧ (2 ≤ k → q ≤ 420) := by
  have : k = 1 ∨ k = 2 ∨ k = 3 ∨ k = 4 ∨ k = 5 ∨ k = 6 ∨ k = 7 ∨ k = 8 := by omega
  rcases this with rfl | rfl | rfl | rfl | rfl | rfl | rfl | rfl
  · exact ⟨840, by decide, by decide, by decide, by decide⟩
  · exact ⟨420, by decide, by decide, by decide, by decide⟩
  · exact ⟨280, by decide, by decide, by decide, by decide⟩
  · exact ⟨210, by decide, by decide, by decide, by decide⟩
  · exact ⟨168, by decide, by decide, by decide, by decide⟩
  · exact ⟨140, by decide, by decide, by decide, by decide⟩
  · exact ⟨120, by decide, by decide, by decide, by decide⟩
  · exact ⟨105, by decide, by decide, by decide, by decide⟩
theorem Iv.step {G W : Int} {xs R : List Str} {c : Str → Int} {d : Str} (I : Iv G W xs c) (hG : 0 ≤ G) (hW : 0 ≤ W) (nd : xs.Nodup) (l8 : xs.length ≤ 8) (dy : DayOk xs R) (hd : d ∈ R) (hm : ∀ i ∈ R, G * c d ≤ G * c i + 840 * W) : Iv G W xs (nxt R d c) := by
  have rpos : 1 ≤ R.length := List.length_pos_iff.mpr dy.ne
  obtain ⟨q, eq, q0, kq, q2⟩ := part rpos (by have := dy.ln; omega)
  have hdx := dy.sub d hd
  have hk := Sm_mem nd dy.nd dy.sub
  have nx : ∀ x, nxt R d c x = c x + (-q) * (if x ∈ R then 1 else 0) + 840 * (if x = d then 1 else 0) := fun x => by
    unfold nxt
    rw [eq]
    by_cases h1 : x ∈ R <;> by_cases h2 : x = d
    · rw [if_pos h1, if_pos h2, if_pos h1, if_pos h2]; omega
    · rw [if_pos h1, if_neg h2, if_pos h1, if_neg h2]; omega
    · rw [if_neg h1, if_pos h2, if_neg h1, if_pos h2]; omega
    · rw [if_neg h1, if_neg h2, if_neg h1, if_neg h2]; omega
  refine ⟨?_, fun p => ?_⟩
  · have e : Sm (nxt R d c) xs = Sm (fun x => (c x + (-q) * (if x ∈ R then 1 else 0)) + 840 * (if x = d then 1 else 0)) xs := Sm_congr fun x _ => nx x
    rw [e, Sm_add, Sm_add, Sm_mul, Sm_mul, hk, I.z, Sm_one (fun _ => 1) nd hdx]
    have : -q * (R.length : Int) = -(R.length * q) := by rw [Int.neg_mul, Int.mul_comm]
    omega
  · obtain ⟨m, hmm⟩ : ∃ m, m = Sm (pk p fun _ => 1) xs := ⟨_, rfl⟩
    obtain ⟨n, hn⟩ : ∃ n : Int, n = (xs.length : Int) := ⟨_, rfl⟩
    obtain ⟨A, hA⟩ : ∃ A, A = Sm (pk p c) xs := ⟨_, rfl⟩
    obtain ⟨j, hj⟩ : ∃ j, j = Sm (pk p fun x => if x ∈ R then 1 else 0) xs := ⟨_, rfl⟩
    obtain ⟨r, hr⟩ : ∃ r, r = Sm (pk (fun x => !p x) fun x => if x ∈ R then 1 else 0) xs := ⟨_, rfl⟩
    have hIp := I.b p
    rw [← hmm, ← hn, ← hA] at hIp
    rw [← hmm, ← hn]
    have j0 : 0 ≤ j := by rw [hj]; exact Sm_nonneg fun x _ => by simp only [pk]; split <;> (try split) <;> decide
    have r0 : 0 ≤ r := by rw [hr]; exact Sm_nonneg fun x _ => by simp only [pk]; split <;> (try split) <;> decide
    have jr : j + r = R.length := by
      rw [hj, hr, ← hk, ← Sm_add]
      exact Sm_congr fun x _ => by simp only [pk]; rcases Bool.eq_false_or_eq_true (p x) with hpx | hpx <;> simp [hpx]
    have eA : Sm (pk p (nxt R d c)) xs = A + (-q) * j + 840 * Sm (pk p fun x => if x = d then 1 else 0) xs := by
      rw [hA, hj, ← Sm_mul, ← Sm_mul, ← Sm_add, ← Sm_add]
      refine Sm_congr fun x _ => ?_
      simp only [pk]
      cases p x
      · simp
      · simp only [if_true]
        exact nx x
    have nqj : -q * j = -(q * j) := Int.neg_mul _ _
    have qj0 : 0 ≤ q * j := Int.mul_nonneg q0 j0
    cases hp : p d with
    | false =>
      have z : Sm (pk p fun x => if x = d then 1 else 0) xs = 0 := by
        have : Sm (pk p fun x => if x = d then 1 else 0) xs = Sm (fun _ => 0) xs := Sm_congr fun x _ => by
          simp only [pk]
          by_cases e : x = d
          · rw [e, hp]; rfl
          · simp [e]
        rw [this, Sm_zero]
      have le : Sm (pk p (nxt R d c)) xs ≤ A := by rw [eA, z]; omega
      have := Int.mul_le_mul_of_nonneg_left le hG
      omega
    | true =>
      have z : Sm (pk p fun x => if x = d then 1 else 0) xs = 1 := by
        have : Sm (pk p fun x => if x = d then 1 else 0) xs = Sm (fun x => if x = d then 1 else 0) xs := Sm_congr fun x _ => by
          simp only [pk]
          by_cases e : x = d
          · rw [e, hp]; rfl
          · simp [e]
        rw [this, Sm_one (fun _ => 1) nd hdx]
      have qk : q * (j + r) = 840 := by rw [jr, Int.mul_comm]; exact kq
      rw [Int.mul_add] at qk
      have eA' : Sm (pk p (nxt R d c)) xs = A + q * r := by rw [eA, z]; omega
      rw [eA']
      by_cases r1 : r = 0
      · rw [r1, Int.mul_zero, Int.add_zero]
        exact hIp
      · have j1 : 1 ≤ j := by
          have : Sm (pk p fun x => if x = d then 1 else 0) xs ≤ j := by
            rw [hj]
            refine Sm_le fun x _ => ?_
            simp only [pk]
            cases p x
            · simp
            · by_cases e : x = d
              · simp [e, hd]
              · simp only [if_true, e, if_false]
                split <;> decide
          omega
        have k2 : 2 ≤ R.length := by omega
        have q420 := q2 k2
        -- the two other sets
        have hB := I.b fun x => p x && !decide (x = d)
        have hU := I.b fun x => p x || decide (x ∈ R)
        have eB : Sm (pk (fun x => p x && !decide (x = d)) c) xs = A - c d := by
          have : A = Sm (pk (fun x => p x && !decide (x = d)) c) xs + Sm (fun x => if x = d then c x else 0) xs := by
            rw [hA, ← Sm_add]
            refine Sm_congr fun x _ => ?_
            simp only [pk]
            by_cases e : x = d
            · simp [e, hp]
            · simp [e]
          rw [Sm_one c nd hdx] at this
          omega
        have eB1 : Sm (pk (fun x => p x && !decide (x = d)) fun _ => 1) xs = m - 1 := by
          have : m = Sm (pk (fun x => p x && !decide (x = d)) fun _ => 1) xs + Sm (fun x => if x = d then 1 else 0) xs := by
            rw [hmm, ← Sm_add]
            refine Sm_congr fun x _ => ?_
            simp only [pk]
            by_cases e : x = d
            · simp [e, hp]
            · simp [e]
          rw [Sm_one (fun _ => 1) nd hdx] at this
          omega
        have eU1 : Sm (pk (fun x => p x || decide (x ∈ R)) fun _ => 1) xs = m + r := by
          rw [hmm, hr, ← Sm_add]
          refine Sm_congr fun x _ => ?_
          simp only [pk]
          rcases Bool.eq_false_or_eq_true (p x) with hpx | hpx <;> simp [hpx]
        have eU : Sm (pk (fun x => p x || decide (x ∈ R)) c) xs = A + Sm (pk (fun x => !p x && decide (x ∈ R)) c) xs := by
          rw [hA, ← Sm_add]
          refine Sm_congr fun x _ => ?_
          simp only [pk]
          rcases Bool.eq_false_or_eq_true (p x) with hpx | hpx <;> simp [hpx]
        have hT : r * (G * c d - 840 * W) ≤ G * Sm (pk (fun x => !p x && decide (x ∈ R)) c) xs := by
          rw [hr, Int.mul_comm, ← Sm_mul, ← Sm_mul]
          refine Sm_le fun x _ => ?_
          simp only [pk]
          rcases Bool.eq_false_or_eq_true (p x) with hpx | hpx
          · simp [hpx]
          · by_cases e : x ∈ R
            · have := hm x e
              simp [hpx, e]
              omega
            · simp [hpx, e]
        rw [eB, eB1, ← hn] at hB
        rw [eU, eU1, ← hn] at hU
        have c1 := core (A := A) (cd := c d) hG hW (by omega : 1 ≤ r) hB hU (by omega) (by rw [Int.mul_add]; omega)
        have p6 : 0 ≤ (G * r) * (420 - q) := Int.mul_nonneg (Int.mul_nonneg hG r0) (by omega)
        have e6 : 2 * (G * (A + q * r)) = 2 * (G * A) + 840 * (G * r) - 2 * ((G * r) * (420 - q)) := by grind
        omega
theorem Iv.init {G W : Int} {xs : List Str} (hG : 0 ≤ G) (hW : 0 ≤ W) : Iv G W xs fun _ => 0 := by
  refine ⟨Sm_zero xs, fun p => ?_⟩
  have z : Sm (pk p fun _ => 0) xs = 0 := by
    have : Sm (pk p fun _ => 0) xs = Sm (fun _ => 0) xs := Sm_congr fun x _ => by simp only [pk]; split <;> rfl
    rw [this, Sm_zero]
  rw [z, Int.mul_zero, Int.mul_zero]
  have m0 : 0 ≤ Sm (pk p fun _ => 1) xs := Sm_nonneg fun x _ => by simp only [pk]; split <;> decide
  have mn : Sm (pk p fun _ => 1) xs ≤ xs.length := by
    rw [← Sm_len xs]
    exact Sm_le fun x _ => by simp only [pk]; split <;> decide
  exact Int.mul_nonneg (by omega) (Int.mul_nonneg m0 (by omega))
/-- one name -/
theorem Iv.one {G W : Int} {xs : List Str} {c : Str → Int} {x : Str} (I : Iv G W xs c) (nd : xs.Nodup) (hx : x ∈ xs) : 2 * (G * c x) ≤ 840 * (G + W) * ((xs.length : Int) - 1) ∧ 2 * (G * -c x) ≤ 840 * (G + W) * ((xs.length : Int) - 1) := by
  constructor
  · have h := I.b fun y => decide (y = x)
    have e1 : Sm (pk (fun y => decide (y = x)) c) xs = c x := by
      rw [← Sm_one c nd hx]
      exact Sm_congr fun y _ => by simp only [pk]; simp
    have e2 : Sm (pk (fun y => decide (y = x)) fun _ => 1) xs = 1 := by
      have : Sm (pk (fun y => decide (y = x)) fun _ => 1) xs = Sm (fun y => if y = x then 1 else 0) xs := Sm_congr fun y _ => by simp only [pk]; simp
      rw [this, Sm_one (fun _ => 1) nd hx]
    rw [e1, e2, Int.one_mul] at h
    exact h
  · have h := I.b fun y => !decide (y = x)
    have e1 : Sm (pk (fun y => !decide (y = x)) c) xs = -c x := by
      have : Sm c xs = Sm (pk (fun y => !decide (y = x)) c) xs + Sm (fun y => if y = x then c y else 0) xs := by
        rw [← Sm_add]
        exact Sm_congr fun y _ => by simp only [pk]; by_cases e : y = x <;> simp [e]
      rw [Sm_one c nd hx, I.z] at this
      omega
    have e2 : Sm (pk (fun y => !decide (y = x)) fun _ => 1) xs = (xs.length : Int) - 1 := by
      have : Sm (fun _ => 1) xs = Sm (pk (fun y => !decide (y = x)) fun _ => 1) xs + Sm (fun y => if y = x then 1 else 0) xs := by
        rw [← Sm_add]
        exact Sm_congr fun y _ => by simp only [pk]; by_cases e : y = x <;> simp [e]
      rw [Sm_one (fun _ => 1) nd hx, Sm_len] at this
      omega
    rw [e1, e2] at h
    have e3 : ((xs.length : Int) - 1) * ((xs.length : Int) - ((xs.length : Int) - 1)) = (xs.length : Int) - 1 := by
      have : (xs.length : Int) - ((xs.length : Int) - 1) = 1 := by omega
      rw [this, Int.mul_one]
    rw [e3] at h
    exact h
/-- G and W by the grain -/
def gG (g : Int) : Int := if g = 0 then 1 else g
def gW (g : Int) : Int := if g = 0 then 0 else 1
theorem least_of {g : Int} (g0 : 0 ≤ g) {a b : Int} (h : cnt g a ≤ cnt g b) : gG g * a ≤ gG g * b + 840 * gW g := by
  unfold cnt at h
  unfold gG gW
  by_cases e : g = 0
  · rw [if_pos e, if_pos e] at *
    omega
  · rw [if_neg e, if_neg e] at *
    rw [Int.fdiv_eq_ediv_of_nonneg _ (by decide), Int.fdiv_eq_ediv_of_nonneg _ (by decide)] at h
    have e1 := Int.mul_comm a g
    have e2 := Int.mul_comm b g
    rw [e1, e2] at h
    omega
theorem Iv.ride {g : Int} {xs R : List Str} {c : Str → Int} {y : Str} (g0 : 0 ≤ g) (I : Iv (gG g) (gW g) xs c) (nd : xs.Nodup) (l8 : xs.length ≤ 8) (dy : DayOk xs R) (h : Drv g c xs R y) : Iv (gG g) (gW g) xs (nxt R y c) := by
  obtain ⟨i, hi, m⟩ := h
  have hy := List.mem_filter.mp (List.mem_of_getElem? hi)
  refine I.step (by unfold gG; split <;> omega) (by unfold gW; split <;> omega) nd l8 dy (of_decide_eq_true hy.2) fun z hz => least_of g0 ?_
  have hz2 : z ∈ xs.filter fun x => decide (x ∈ R) := List.mem_filter.mpr ⟨dy.sub z hz, decide_eq_true hz⟩
  obtain ⟨j, hj, e⟩ := List.mem_iff_getElem.mp hz2
  exact (m j z (by rw [List.getElem?_eq_getElem hj, e])).1
end K35
set_option Elab.async false
set_option linter.all false
set_option maxRecDepth 100000
set_option maxHeartbeats 4000000
namespace K35
open PySem PySem.Spec PyProof.Rows L2
open KM (pr)
theorem dle {a b c d : Int} (hb : 0 < b) (hd : 0 < d) (h : a * d ≤ c * b) : Rat.divInt a b ≤ Rat.divInt c d := by
  rw [Rat.le_iff_sub_nonneg, Rat.divInt_sub_divInt _ _ (by omega) (by omega)]
  exact (Rat.divInt_nonneg_iff_of_pos_right (Int.mul_pos hd hb)).mpr (by omega)
theorem deq {a b c d : Int} (hb : 0 < b) (hd : 0 < d) (h : a * d = c * b) : Rat.divInt a b = Rat.divInt c d := (Rat.divInt_eq_divInt_iff (by omega) (by omega)).mpr h
theorem gG_pos {g : Int} (g0 : 0 ≤ g) : 0 < gG g := by unfold gG; split <;> omega
theorem gW_nn (g : Int) : 0 ≤ gW g := by unfold gW; split <;> omega
/-- a half and the grain's share -/
def hh (g : Int) : Rat := Rat.divInt (gG g + gW g) (2 * gG g)
theorem hh_nn {g : Int} (g0 : 0 ≤ g) : 0 ≤ hh g := by
  have h1 := gG_pos g0
  have h2 := gW_nn g
  exact Rat.divInt_nonneg (by omega) (by omega)
theorem stp_ge {g m : Int} (g0 : 0 ≤ g) (m1 : 1 ≤ m) : hh g ≤ stp g m := by
  unfold hh stp spr gG gW
  by_cases e : g = 0
  · rw [if_pos e, if_pos e, if_pos e, Rat.divInt_add_divInt _ _ (by omega) (by omega)]
    exact dle (by omega) (by omega) (by omega)
  · rw [if_neg e, if_neg e, if_neg e, Rat.divInt_add_divInt _ _ (by omega) (by omega)]
    refine dle (by omega) (Int.mul_pos (by omega) (by omega)) ?_
    have p : 0 ≤ (g * g) * (m - 1) := Int.mul_nonneg (Int.mul_nonneg g0 g0) (by omega)
    have : (m * (2 * g) + 1 * (m + 1)) * (2 * g) - (g + 1) * ((m + 1) * (2 * g)) = 2 * ((g * g) * (m - 1)) := by grind
    omega
theorem add_mono {a b c d : Rat} (h1 : a ≤ b) (h2 : c ≤ d) : a + c ≤ b + d := Rat.le_trans (Rat.add_le_add_right.mpr h1) (Rat.add_le_add_left.mpr h2)
theorem sO_ge {g : Int} (g0 : 0 ≤ g) : ∀ k : Nat, hh g * Rat.divInt ((k : Int) * (k + 1)) 2 ≤ sO g k
  | 0 => by
    show hh g * Rat.divInt (0 * (0 + 1)) 2 ≤ Rat.divInt 0 1
    rw [Int.zero_mul, Rat.zero_divInt, Rat.zero_divInt, Rat.mul_zero]
    exact Rat.le_refl
  | k + 1 => by
    have ih := sO_ge g0 k
    have e : Rat.divInt (((k + 1 : Nat) : Int) * (((k + 1 : Nat) : Int) + 1)) 2 = Rat.divInt ((k : Int) * (k + 1)) 2 + Rat.divInt (1 + (k : Int)) 1 := by
      rw [Rat.divInt_add_divInt _ _ (by decide) (by decide)]
      refine deq (by decide) (by decide) ?_
      have : ((k + 1 : Nat) : Int) = (k : Int) + 1 := rfl
      rw [this]
      grind
    rw [e, Rat.mul_add]
    exact add_mono ih (Rat.mul_le_mul_of_nonneg_right (stp_ge g0 (by omega)) (Rat.divInt_nonneg (by omega) (by decide)))
theorem sE_ge {n g : Int} (g0 : 0 ≤ g) : ∀ k : Nat, (k : Int) ≤ n - 1 → hh g * Rat.divInt ((k : Int) * (2 * n - k - 1)) 2 ≤ sE n g k
  | 0, _ => by
    show hh g * Rat.divInt (0 * (2 * n - 0 - 1)) 2 ≤ Rat.divInt 0 1
    rw [Int.zero_mul, Rat.zero_divInt, Rat.zero_divInt, Rat.mul_zero]
    exact Rat.le_refl
  | k + 1, h => by
    have h' : (k : Int) + 1 ≤ n - 1 := h
    have ih := sE_ge (n := n) g0 k (by omega)
    have e : Rat.divInt (((k + 1 : Nat) : Int) * (2 * n - ((k + 1 : Nat) : Int) - 1)) 2 = Rat.divInt ((k : Int) * (2 * n - k - 1)) 2 + Rat.divInt (n - (1 + (k : Int))) 1 := by
      rw [Rat.divInt_add_divInt _ _ (by decide) (by decide)]
      refine deq (by decide) (by decide) ?_
      have : ((k + 1 : Nat) : Int) = (k : Int) + 1 := rfl
      rw [this]
      grind
    rw [e, Rat.mul_add]
    exact add_mono ih (Rat.mul_le_mul_of_nonneg_right (stp_ge g0 (by omega)) (Rat.divInt_nonneg (by omega) (by decide)))
theorem scale {g n : Int} {s : Rat} (n0 : 1 ≤ n) (h : hh g * Rat.divInt ((n - 1) * n) 2 ≤ s) : hh g * Rat.divInt (n - 1) 1 ≤ s * Rat.divInt 2 1 * Rat.divInt 1 n := by
  have e : hh g * Rat.divInt (n - 1) 1 = hh g * Rat.divInt ((n - 1) * n) 2 * Rat.divInt 2 1 * Rat.divInt 1 n := by
    rw [Rat.mul_assoc, Rat.mul_assoc, Rat.divInt_mul_divInt, Rat.divInt_mul_divInt]
    congr 1
    refine deq (by decide) (by omega) ?_
    grind
  rw [e]
  exact Rat.mul_le_mul_of_nonneg_right (Rat.mul_le_mul_of_nonneg_right h (Rat.divInt_nonneg (by decide) (by decide))) (Rat.divInt_nonneg (by decide) (by omega))
theorem bO_ge {n g : Int} (g0 : 0 ≤ g) (n0 : 1 ≤ n) : hh g * Rat.divInt (n - 1) 1 ≤ bO n g (n - 1).toNat := by
  rw [bO_eq]
  refine scale n0 ?_
  have := sO_ge g0 (n - 1).toNat
  rw [show (((n - 1).toNat : Nat) : Int) = n - 1 by omega] at this
  rwa [show n - 1 + 1 = n by omega] at this
theorem bE_ge {n g : Int} (g0 : 0 ≤ g) (n0 : 1 ≤ n) : hh g * Rat.divInt (n - 1) 1 ≤ bE n g (n - 1).toNat := by
  rw [bE_eq]
  refine scale n0 ?_
  have := sE_ge (n := n) g0 (n - 1).toNat (by omega)
  rw [show (((n - 1).toNat : Nat) : Int) = n - 1 by omega] at this
  rwa [show 2 * n - (n - 1) - 1 = n by omega] at this
theorem crd_le {g n c : Int} (g0 : 0 ≤ g) (h : 2 * (gG g * c) ≤ 840 * (gG g + gW g) * (n - 1)) : Rat.divInt c 840 ≤ hh g * Rat.divInt (n - 1) 1 := by
  have h1 := gG_pos g0
  unfold hh
  rw [Rat.divInt_mul_divInt]
  refine dle (by decide) (by omega) ?_
  have e1 : c * (2 * gG g * 1) = 2 * (gG g * c) := by grind
  have e2 : (gG g + gW g) * (n - 1) * 840 = 840 * (gG g + gW g) * (n - 1) := by grind
  omega
/-- a pair within the bounds, by places -/
theorem within {g n c : Int} (g0 : 0 ≤ g) (n0 : 1 ≤ n) (h1 : 2 * (gG g * c) ≤ 840 * (gG g + gW g) * (n - 1)) (h2 : 2 * (gG g * -c) ≤ 840 * (gG g + gW g) * (n - 1)) :
    (pr (Rat.divInt c 840)).1 * (pr (bO n g (n - 1).toNat)).2 ≤ (pr (bO n g (n - 1).toNat)).1 * (pr (Rat.divInt c 840)).2 ∧
    0 - (pr (Rat.divInt c 840)).1 * (pr (bE n g (n - 1).toNat)).2 ≤ (pr (bE n g (n - 1).toNat)).1 * (pr (Rat.divInt c 840)).2 := by
  have a1 := (Rat.le_iff _ _).mp (Rat.le_trans (crd_le g0 h1) (bO_ge g0 n0))
  have a2 := (Rat.le_iff _ _).mp (Rat.le_trans (crd_le g0 h2) (bE_ge g0 n0))
  refine ⟨a1, ?_⟩
  rw [← Rat.neg_divInt, Rat.neg_num, Rat.neg_den, Int.neg_mul] at a2
  show 0 - (Rat.divInt c 840).num * ((bE n g (n - 1).toNat).den : Int) ≤ (bE n g (n - 1).toNat).num * ((Rat.divInt c 840).den : Int)
  omega
/-- a credit is small -/
theorem small {g n c : Int} (g0 : 0 ≤ g) (g1 : g ≤ 1000) (n0 : 1 ≤ n) (n8 : n ≤ 8) (h1 : 2 * (gG g * c) ≤ 840 * (gG g + gW g) * (n - 1)) (h2 : 2 * (gG g * -c) ≤ 840 * (gG g + gW g) * (n - 1)) : -100000 < c ∧ c < 100000 := by
  have p := gG_pos g0
  have hw : gW g ≤ gG g := by unfold gG gW; split <;> omega
  have q := gW_nn g
  have k1 : 840 * (gG g + gW g) * (n - 1) ≤ 840 * (gG g + gG g) * 7 := Int.le_trans (Int.mul_le_mul_of_nonneg_left (by omega : n - 1 ≤ 7) (by omega)) (Int.mul_le_mul_of_nonneg_right (by omega) (by decide))
  have k2 : 840 * (gG g + gG g) * 7 = gG g * 11760 := by omega
  constructor
  · have : gG g * -c ≤ gG g * 5880 := by omega
    have := Int.le_of_mul_le_mul_left this p
    omega
  · have : gG g * c ≤ gG g * 5880 := by omega
    have := Int.le_of_mul_le_mul_left this p
    omega
end K35
set_option Elab.async false
set_option linter.all false
set_option maxRecDepth 100000
set_option maxHeartbeats 4000000
namespace K35
open PySem PySem.Spec PyProof.Rows L2
open C8 (Cal Mak Met pe_c pe_mk pe_mt pe_mt0)
open LamX (Tabs ExtN TabB)
open KM (pr)
/-- a dict over zip of two tuples of one length -/
theorem dc_zipT {K : PySem.W.Frag} {a b : Addr} {xs ys : List V} {g : TG} {tt : TT} {tk tv : TE} {vs : List Nat} {σ : L2.St} {H1 : Hp} {D : Addr} {Qd : Hp → Prop} (hl : xs.length = ys.length) (Pv : Nat → Hp → Prop) (h0 : Pv 0 (upd H1 D (.dK []))) (hq : ∀ i H, Pv i H → SqT K H a xs ∧ SqT K H b ys)
    (hs : ∀ (i : Nat) (x y : V) (T : Addr) (H : Hp), xs[i]? = some x → ys[i]? = some y → Pv i H → H T = none → g (.ref T) (wipe σ vs) (upd H T (.tup [x, y])) fun σ2 H2 => wipe σ2 vs = wipe σ vs ∧ tt σ2 H2 fun b H3 =>
      if b = true then tk σ2 H3 fun y H4 => tv σ2 H4 fun z H5 => ∃ kvs k, y = kV k ∧ H5 D = some (.dK kvs) ∧ kvs.length < sizeLine ∧ Pv (i + 1) (upd H5 D (.dK (putK kvs k z))) else Pv (i + 1) H3) (hd : ∀ H, Pv xs.length H → Qd H) :
    ∃ W : Nat → Nat → Hp → Prop, (∃ m, W 0 m (upd H1 D (.dK []))) ∧ ∀ i m H, W i m H →
      ((RZ.ItzT K a b).stop i H ∧ Qd H) ∨ ((RZ.ItzT K a b).go i H ∧ ∃ Nx : Hp → Prop, (∀ H', Nx H' → ∃ m', m' < m ∧ W (i + 1) m' H') ∧ ∀ x H', (RZ.ItzT K a b).yld i H x H' → g x (wipe σ vs) H' fun σ2 H2 => wipe σ2 vs = wipe σ vs ∧ tt σ2 H2 fun b H3 =>
        if b = true then tk σ2 H3 fun y H4 => tv σ2 H4 fun z H5 => ∃ kvs k, y = kV k ∧ H5 D = some (.dK kvs) ∧ kvs.length < sizeLine ∧ Nx (upd H5 D (.dK (putK kvs k z))) else Nx H3) := by
  refine ⟨fun i m H => m = xs.length - i ∧ i ≤ xs.length ∧ Pv i H, ⟨xs.length, rfl, Nat.zero_le _, h0⟩, ?_⟩
  rintro i m H ⟨rfl, hi, p⟩
  obtain ⟨qx, qy⟩ := hq i H p
  by_cases hlt : i < xs.length
  · have hx : xs[i]? = some xs[i] := List.getElem?_eq_getElem hlt
    have hlt2 : i < ys.length := by omega
    have hy : ys[i]? = some ys[i] := List.getElem?_eq_getElem hlt2
    refine .inr ⟨⟨xs, ys, _, _, qx, qy, hx, hy⟩, Pv (i + 1), fun H' p' => ⟨xs.length - (i + 1), by omega, rfl, hlt, p'⟩, fun v H' y => ?_⟩
    obtain ⟨T, x', y', rfl, hT, rfl, f1, f2⟩ := y
    exact hs i x' y' T H (f1 xs qx) (f2 ys qy) p hT
  · have e : i = xs.length := by omega
    subst e
    exact .inl ⟨⟨xs, ys, qx, qy, Or.inl (Nat.le_refl _)⟩, hd H p⟩
section
variable {P : Program} {w : World} {K : PySem.W.Frag} {mg : Str → Option Value} {base : Heap} {f C CT : Addr} {fd : FuncData}
def spSt (C CT : Addr) : Sp := fun vs H Q _ => ∃ (tu r ot hd kp ps : Addr) (xs : List Str) (g : Int) (c : Str → Int), vs = [.ref tu] ∧ Tr CT H tu r hd kp ps ∧ LeastR H r ot xs g ∧ Crd H hd xs c ∧
  ∀ (D : Addr) (H' : Hp) (kvs : List (Key × V)), Same H H' → H D = none → H' D = some (.dK kvs) → (∀ x ∈ xs, ∃ p, valV kvs (Sum.inr x) = some (.ref p) ∧ Sh C H' p (pr (Rat.divInt (c x) 840))) → Q (.ref D) H'
theorem ok_st (F : Dn K d_Turns_stands f fd) (b2 : Bl2 mg) (T : ClT K CT) (gp : ∃ t, mg "RIDE_PARTS" = some (.int 840 t)) (MS : MakS P w K mg base C) : FnOk P w K mg base CX0 4 f fd ["self"] (spSt C CT) := by
  refine F.ok sc_Turns_stands (fun vs H Q E h => ?_) (fun cdv A outer s H vs Q E hr h => ?_)
  · obtain ⟨tu, r, ot, hd, kp, ps, xs, g, c, rfl, _⟩ := h
    rfl
  · obtain ⟨tu, r, ot, hd, kp, ps, xs, g, c, rfl, ⟨dx, htu⟩, lr, hc, hQ⟩ := h
    obtain ⟨hrr, hot, ox, g0, g1⟩ := id lr
    obtain ⟨t, gp⟩ := gp
    have l8 := ox.l8
    refine ⟨_, PSs.nox (pss_one (ps_ret (pe_dc (own := [("name", 1), ("parts", 2)]) (g := gTup K 2 (gCons (gName 1) (gCons (gName 2) gNil))) (tt := tYes) rfl sc_Turns_stands.nd (RZ.pi_zipA rfl b2.zip (pa_cons (pe_ix ix_tup (pe_fld (pv 0) rfl) pe_int (fun _ _ => rfl)) (pa_cons (pe_fld (pv 0) rfl) pa_nil)))
      (blkOk_by (N := N_Turns_stands) (sc := defScope s_Turns_stands) (by decide +kernel)) (fun _ _ _ _ _ => pg_tup rfl (pgs_cons (pg_name (i := 1) sc_Turns_stands.nd rfl (.inl rfl)) (pgs_cons (pg_name (i := 2) sc_Turns_stands.nd rfl (.inl rfl)) pgs_nil))) (fun _ _ _ _ _ => pts_nil)
      (fun _ _ _ _ _ => pv 1) (fun _ _ _ _ _ => pe_mk MS hr (by decide) rfl (pa_cons (pv 2) (pa_cons (pe_glob (v := .int 840) rfl gp ⟨t, rfl⟩) pa_nil)))))), ?_⟩
    refine ⟨_, rfl, tu, CT, dx, _, _, rfl, htu, T.cl, T.nr, tr_rule _ _ _ _, r, _, _, _, rfl, rfl, SqT.of hrr, rfl, _, rfl, tu, CT, dx, _, _, rfl, htu, T.cl, T.nh, tr_held _ _ _ _, ot, hd, _, _, rfl, .inr ⟨SqT.of hot, SqT.of hc, fun D hD => ?_⟩⟩
    refine dc_zipT (by simp) (fun i H2 => ∃ kvs : List (Key × V), H2 D = some (.dK kvs) ∧ kvs.length ≤ i ∧ Same H H2 ∧ ∀ (j : Nat) (x : Str), j < i → xs[j]? = some x → ∃ p, valV kvs (Sum.inr x) = some (.ref p) ∧ Sh C H2 p (pr (Rat.divInt (c x) 840)))
      ⟨[], upd_same, Nat.le_refl _, same_new hD, fun j x hj => absurd hj (Nat.not_lt_zero _)⟩ (fun i H2 ⟨_, _, _, sm, _⟩ => ⟨SqT.of (sm _ _ hot), SqT.of (sm _ _ hc)⟩) ?_ ?_
    · rintro i x y Tp H2 hx hy ⟨kvs, hdd, hlen, sm, hval⟩ hT
      have hi' : i < xs.length := by
        have := (List.getElem?_eq_some_iff.mp hx).1
        simpa using this
      rw [List.getElem?_map] at hx hy
      obtain ⟨z, hz, rfl⟩ := Option.map_eq_some_iff.mp hx
      rw [hz] at hy
      cases hy
      have sT := same_new (o := .tup [V.str z, V.int (c z)]) hT
      refine ⟨Tp, _, rfl, SqT.of upd_same, rfl, _, _, rfl, _, _, rfl, rfl, rfl, ?_⟩
      refine ⟨_, rfl, _, rfl, ?_⟩
      intro q dq nq nd ne
      refine mk_in (n := 10) nq nd (by decide) (by decide) (by decide) (by decide) fun H3 s3 hq => ⟨rfl, ?_⟩
      have s23 := sT.trans s3
      have hD3 := s23 _ _ hdd
      have nqD : q ≠ D := fun e => by rw [e, sT _ _ hdd] at nq; cases nq
      refine ⟨kvs, Sum.inr z, rfl, hD3, Nat.lt_of_le_of_lt (by omega : kvs.length ≤ 8) (by decide), _, upd_same, Nat.le_trans (length_putK _ _ _) (by omega), ?_, ?_⟩
      · intro a o e
        rw [upd_ne (ne_of_none e hD)]
        exact s23 a o (sm a o e)
      · have keep : ∀ {p : Addr} {v : Int × Int} {o : HO}, Sh C H3 p v → Sh C (upd H3 D o) p v := fun {p v o} ⟨dp, hp⟩ => ⟨dp, by
          rw [upd_ne (fun e => by rw [e, hD3] at hp; cases hp)]
          exact hp⟩
        intro j x hj hjx
        rw [valV_put]
        by_cases e : x = z
        · rw [e, if_pos rfl]
          exact ⟨q, rfl, keep hq⟩
        · rw [if_neg (fun q => e (Sum.inr.inj q))]
          have hji : j < i := by
            rcases Nat.lt_succ_iff_lt_or_eq.mp hj with h | h
            · exact h
            · rw [h, hz] at hjx
              exact absurd (Option.some.inj hjx).symm e
          obtain ⟨p, hp1, hp2⟩ := hval j x hji hjx
          exact ⟨p, hp1, keep (hp2.keep s23)⟩
    · rintro H2 ⟨kvs, hdd, hlen, sm, hval⟩
      refine hQ D H2 kvs sm hD hdd fun x hx => ?_
      obtain ⟨j, hj, rfl⟩ := List.mem_iff_getElem.mp hx
      exact hval j _ (by simpa using hj) (List.getElem?_eq_getElem hj)
def spIb : Sp := fun vs H Q _ => ∃ (pt bt o1 o2 : Addr) (q u v : Int × Int), vs = [.ref pt, .ref bt] ∧ H pt = some (tupP q) ∧ H bt = some (.tup [.ref o1, .ref o2]) ∧ H o1 = some (tupP u) ∧ H o2 = some (tupP v) ∧ -(2 ^ 64) < q.1 ∧ q.1 < 2 ^ 64 ∧ -(2 ^ 64) < q.2 ∧ q.2 < 2 ^ 64 ∧
  q.1 * u.2 ≤ u.1 * q.2 ∧ 0 - q.1 * v.2 ≤ v.1 * q.2 ∧ Q (.bl true) H
theorem ok_ib (F : Dn K d_l_in_bound f fd) : FnOk P w K mg base CX0 1 f fd ["_law_pair_here", "_law_bound"] spIb := by
  refine F.ok sc_l_in_bound (fun vs H Q E h => ?_) (fun cdv A outer s H vs Q E hr h => ?_)
  · obtain ⟨pt, bt, o1, o2, q, u, v, rfl, _⟩ := h
    rfl
  · obtain ⟨pt, bt, o1, o2, q, u, v, rfl, hpt, hbt, ho1, ho2, a1, a2, a3, a4, i1, i2, hQ⟩ := h
    unfold tupP at hpt ho1 ho2
    refine ⟨_, PSs.nox (pss_cons (ps_asg (pv 1) (pg_tup rfl (pgs_cons (pg_name (i := 2) sc_l_in_bound.nd rfl (.inl rfl)) (pgs_cons (pg_name (i := 3) sc_l_in_bound.nd rfl (.inl rfl)) pgs_nil))))
      (pss_one (ps_ret (pe_and (pe_cmpR op_le (pe_op op_mul (pe_ix ix_tup (pv 0) pe_int (fun _ _ => rfl)) (pe_ix ix_tup (pv 2) pe_int (fun _ _ => rfl))) (pe_op op_mul (pe_ix ix_tup (pv 2) pe_int (fun _ _ => rfl)) (pe_ix ix_tup (pv 0) pe_int (fun _ _ => rfl))) (nomark _))
        (pe_one (pe_cmpR op_le (pe_op op_sub pe_int (pe_op op_mul (pe_ix ix_tup (pv 0) pe_int (fun _ _ => rfl)) (pe_ix ix_tup (pv 3) pe_int (fun _ _ => rfl)))) (pe_op op_mul (pe_ix ix_tup (pv 3) pe_int (fun _ _ => rfl)) (pe_ix ix_tup (pv 0) pe_int (fun _ _ => rfl))) (nomark _))))))), ?_⟩
    refine ⟨_, rfl, bt, _, rfl, SqT.of hbt, rfl, _, _, rfl, _, _, rfl, rfl, ?_⟩
    refine ⟨_, rfl, pt, _, _, _, rfl, rfl, SqT.of hpt, rfl, _, rfl, o1, _, _, _, rfl, rfl, SqT.of ho1, rfl, _, _, rfl, rfl, cb_l a1 a2, _, rfl, o1, _, _, _, rfl, rfl, SqT.of ho1, rfl, _, rfl, pt, _, _, _, rfl, rfl, SqT.of hpt, rfl, _, _, rfl, rfl, cb_r a3 a4, _, _, rfl, rfl, true, ?_, iteT ?_⟩
    · show V.bl (decide (q.1 * u.2 ≤ u.1 * q.2)) = V.bl true
      rw [decide_eq_true i1]
    refine ⟨_, rfl, pt, _, _, _, rfl, rfl, SqT.of hpt, rfl, _, rfl, o2, _, _, _, rfl, rfl, SqT.of ho2, rfl, _, _, rfl, rfl, cb_l a1 a2, _, _, rfl, rfl, _, rfl, o2, _, _, _, rfl, rfl, SqT.of ho2, rfl, _, rfl, pt, _, _, _, rfl, rfl, SqT.of hpt, rfl, _, _, rfl, rfl, cb_r a3 a4, _, _, rfl, rfl, ?_⟩
    show Q (V.bl (decide (0 - q.1 * v.2 ≤ v.1 * q.2))) H
    rw [decide_eq_true i2]
    exact hQ
end
end K35
set_option Elab.async false
set_option linter.all false
set_option maxRecDepth 100000
set_option maxHeartbeats 4000000
namespace K35
open PySem PySem.Spec PyProof.Rows L2
open LamX (Tabs ExtN TabB TabS)
open KM (pr)
open SX (S)
theorem tabs_kp {T : List (Addr × Str)} {h : Addr} {H H' : Hp} {c : Nat} (t : Tabs T H) (k : Kp h H H') (x : Held H h c) : Tabs T H' := by
  obtain ⟨l, ns, n, m, h1, _⟩ := x
  intro p hp
  obtain ⟨q, hq, tq, cq⟩ := t p hp
  refine ⟨q, k.1 _ _ hq (fun z => by rw [z, h1] at hq; cases hq), tq, fun pos cv e => ?_⟩
  obtain ⟨c0, e1, e2⟩ := cq pos cv e
  exact ⟨c0, e1, k.1 _ _ e2 (fun z => by rw [z, h1] at e2; cases e2)⟩
/-- what stands while the law goes -/
structure Mn (K : PySem.W.Frag) (CT h tu rt ot hd kp ps bt o1 o2 : Addr) (xs : List Str) (g : Int) (c : Str → Int) (past : List V) (u v : Int × Int) (n : Nat) (H : Hp) : Prop where
  held : Held H h n
  lr : LeastR H rt ot xs g
  tr : Tr CT H tu rt hd kp ps
  ch : Crd H hd xs c
  ck : Crd H kp xs c
  pa : H ps = some (.lst past)
  tb : Tabs (T0 K) H
  ce : Cel h ps H
  b : H bt = some (.tup [.ref o1, .ref o2])
  b1 : H o1 = some (tupP u)
  b2 : H o2 = some (tupP v)
section
variable {K : PySem.W.Frag} {CT h tu rt ot hd kp ps bt o1 o2 : Addr} {xs : List Str} {g : Int} {c : Str → Int} {past : List V} {u v : Int × Int} {n n' : Nat} {H H' : Hp}
theorem Mn.kept (m : Mn K CT h tu rt ot hd kp ps bt o1 o2 xs g c past u v n H) (k : Kp h H H') (hh : Held H' h n') : Mn K CT h tu rt ot hd kp ps bt o1 o2 xs g c past u v n' H' := by
  have tk : ∀ {a : Addr} {ys : List V}, H a = some (.tup ys) → H' a = some (.tup ys) := fun e => k.tupS (K := K) m.held e
  obtain ⟨dx, e⟩ := m.tr
  refine ⟨hh, m.lr.ext fun a ys z => tk z, ⟨dx, k.1 _ _ e fun z => ?_⟩, tk m.ch, tk m.ck, k.1 _ _ m.pa m.ce.ne, tabs_kp m.tb k m.held, m.ce.kp k, tk m.b, tk m.b1, tk m.b2⟩
  obtain ⟨l, ns, n, m', h1, _⟩ := m.held
  rw [z, h1] at e
  cases e
theorem Mn.same (m : Mn K CT h tu rt ot hd kp ps bt o1 o2 xs g c past u v n H) (s : Same H H') : Mn K CT h tu rt ot hd kp ps bt o1 o2 xs g c past u v n H' := m.kept (Kp.same s) (m.held.same s)
theorem Mn.weak (m : Mn K CT h tu rt ot hd kp ps bt o1 o2 xs g c past u v n H) (le : n' ≤ n) : Mn K CT h tu rt ot hd kp ps bt o1 o2 xs g c past u v n' H := m.kept (Kp.refl h H) (m.held.weak le)
theorem Mn.neh (m : Mn K CT h tu rt ot hd kp ps bt o1 o2 xs g c past u v n H) {a : Addr} {o : HO} (e : H a = some o) (no : ∀ z, o ≠ .dK z) : a ≠ h := fun z => by
  obtain ⟨l, ns, n, m', h1, _⟩ := m.held
  rw [z, h1] at e
  exact no _ (Option.some.inj e).symm
theorem Mn.ride {hd' kp' : Addr} {c' : Str → Int} {past' : List V} (m : Mn K CT h tu rt ot hd kp ps bt o1 o2 xs g c past u v n H) (k : KpT tu ps H H') (tb : Tabs (T0 K) H') (tr : Tr CT H' tu rt hd' kp' ps) (ch : Crd H' hd' xs c') (ck : Crd H' kp' xs c') (pa : H' ps = some (.lst past')) :
    Mn K CT h tu rt ot hd' kp' ps bt o1 o2 xs g c' past' u v n H' := by
  obtain ⟨dx, htu⟩ := m.tr
  have tk : ∀ {a : Addr} {ys : List V}, H a = some (.tup ys) → H' a = some (.tup ys) := fun e => k _ _ e (fun _ q => by cases q) (fun z => by rw [z, htu] at e; cases e) (fun z => by rw [z, m.pa] at e; cases e)
  obtain ⟨la, n0, m0, hc1, hc2, hc3⟩ := m.ce
  obtain ⟨l, ns, n1, m1, h1, h2, h3⟩ := m.held
  rw [h1] at hc1
  have el := hd_inj (Option.some.inj hc1)
  subst el
  have hh' : H' h = some (.dK (hd0 l n1 m1)) := k _ _ h1 (fun _ q => by cases q) (fun z => by rw [z, htu] at h1; cases h1) hc3
  have hl' : H' l = some (.lst (ns.map V.int)) := k _ _ h2 (fun _ q => by cases q) (fun z => by rw [z, htu] at h2; cases h2) hc2
  exact ⟨⟨l, ns, n1, m1, hh', hl', h3⟩, m.lr.ext fun a ys z => tk z, tr, ch, ck, pa, tb, ⟨l, n1, m1, hh', hc2, hc3⟩, tk m.b, tk m.b1, tk m.b2⟩
end
/-- a day that is not the past -/
def Day1 (H : Hp) (ps : Addr) (xs : List Str) (d : Addr) : Prop := ∃ R : List Str, H d = some (.lst (R.map V.str)) ∧ DayOk xs R ∧ d ≠ ps
/-- some days -/
def DL (H : Hp) (ps : Addr) (xs : List Str) (so : Addr) : Prop := ∃ ds : List Addr, ds ≠ [] ∧ ds.length ≤ 4 ∧ so ≠ ps ∧ H so = some (.lst (ds.map V.ref)) ∧ ∀ d ∈ ds, Day1 H ps xs d
theorem Day1.keep {H H' : Hp} {ps d : Addr} {xs : List Str} (x : Day1 H ps xs d) (k : ∀ b ys, H b = some (.lst ys) → b ≠ ps → H' b = some (.lst ys)) : Day1 H' ps xs d := by
  obtain ⟨R, e, dy, n⟩ := x
  exact ⟨R, k _ _ e n, dy, n⟩
theorem DL.keep {H H' : Hp} {ps so : Addr} {xs : List Str} (x : DL H ps xs so) (k : ∀ b ys, H b = some (.lst ys) → b ≠ ps → H' b = some (.lst ys)) : DL H' ps xs so := by
  obtain ⟨ds, ne, l4, n, e, hd⟩ := x
  exact ⟨ds, ne, l4, n, k _ _ e n, fun d h => (hd d h).keep k⟩
theorem kp_lst {h ps : Addr} {H H' : Hp} {n : Nat} (k : Kp h H H') (x : Held H h n) : ∀ b ys, H b = some (.lst ys) → b ≠ ps → H' b = some (.lst ys) := fun b ys e _ => k.1 _ _ e fun z => by
  obtain ⟨l, ns, n, m, h1, _⟩ := x
  rw [z, h1] at e
  cases e
theorem S_inj {a b : List Nat} (h : S a = S b) : a = b := by
  have := congrArg (fun s : Str => s.cps.toList) h
  simpa [S] using this
theorem ord_of {zs : List (List Nat)} (h0 : 0 < zs.length) (h8 : zs.length ≤ 8) (ok : ∀ z ∈ zs, NM.ok z) (pw : zs.Pairwise (· ≠ ·)) : Ord (zs.map S) := by
  refine ⟨fun z => ?_, by rw [List.length_map]; exact h8, ?_, fun x hx => ?_⟩
  · have := congrArg List.length z
    rw [List.length_map] at this
    simp at this
    rw [this] at h0
    exact absurd h0 (by decide)
  · exact List.pairwise_map.mpr (pw.imp fun h e => h (S_inj e))
  · obtain ⟨z, hz, rfl⟩ := List.mem_map.mp hx
    exact ⟨z, rfl, ok z hz⟩
end K35
set_option Elab.async false
set_option linter.all false
set_option maxRecDepth 100000
set_option maxHeartbeats 4000000
/-! SL: xs[::s], s told as 1 or as -1. -/
namespace SL
open PySem PySem.Spec PyProof.Rows L2
section
variable {X : Cx}
theorem pick1 (items : Array Value) : slicePick items none none (some 1) = slicePick items none none none := rfl
def tStepL (K : PySem.W.Frag) (te ts : TE) : TE := fun σ H Q => te σ H fun x H1 => tPart ts σ H1 fun o H2 => ∃ (a : Addr) (xs : List V), x = .ref a ∧ SqL K H2 a xs ∧
  ((o = some 1 ∧ ∀ p, H2 p = none → Q (.ref p) (upd H2 p (.lst xs))) ∨ (o = some (-1) ∧ ∀ p, H2 p = none → Q (.ref p) (upd H2 p (.lst xs.reverse))))
theorem pe_stepL {e st : Expr} {te ts : TE} {p3 pos : Pos} (he : PE X e te) (hs : PE X st ts) : PE X (.Subscript e (.Slice none none (some st) p3) pos) (tStepL X.K te ts) := by
  refine ⟨fun pins s σ H Q I h => ?_⟩
  refine Subscript_ (thn (he.run pins s σ H _ I h) fun v s1 ⟨x, H1, I1, r1, q1⟩ => ?_)
  have hst : PO X (some st) (tPart ts) := po_some hs
  refine wpAny_Slice (thn (po_none.run pins s1 σ H1 (fun o H2 => o = none ∧ H2 = H1) I1 ⟨rfl, rfl⟩) fun vl s2 ⟨l, H2, I2, pl, el, e2⟩ => ?_)
  subst el e2
  refine thn (po_none.run pins s2 σ H2 (fun o H3 => o = none ∧ H3 = H2) I2 ⟨rfl, rfl⟩) fun vu s3 ⟨u, H3, I3, pu, eu, e3⟩ => ?_
  subst eu e3
  refine thn (hst.run pins s3 σ H3 _ I3 q1) fun vs s4 ⟨o, H4, I4, ps, a, xs, ex, hx, q⟩ => ?_
  subst ex
  cases r1
  have I5 : Inv X pins σ H4 { s4 with heap := s4.heap.push { cls := .type "slice", data := .fields #[vl, vu, vs] } } := I4.kept (t' := s4.toks) fun b ob q => Heap.get?_push_of_some _ q
  obtain ⟨its, r, ht, hz⟩ := I5.list hx
  have hlen := r.length
  show wpAny (model X.prog X.w) X.A (subscriptTail e (.Slice none none (some st) p3) (.ref a) (.ref s4.heap.objs.size)) (EP X pins σ Q) X.xe { s4 with heap := s4.heap.push { cls := .type "slice", data := .fields #[vl, vu, vs] } }
  refine tail_any (ops := [.ref a, .ref s4.heap.objs.size]) ht.isList.typeIs (PySem.slot_list_getitem.lookup) ?_ (by with_unfolding_all rfl)
  rcases q with ⟨rfl, q⟩ | ⟨rfl, q⟩
  · refine wpAny_getItem_list_slice ht.isList (Heap.IsSliceOf.new _ vl vu vs) pl pu ps (by decide) ?_ (by rw [List.size_toArray]; omega)
    rw [pick1, slicePick_cut, HT.sIx_none, HT.sIx_none, List.drop_zero, Nat.sub_zero]
    refine ⟨.ref _, _, I5.laid (t' := s4.toks) (o := .lst xs) (fun b ob q => Heap.get?_push_of_some _ q) (Nat.le_refl _) ?_, rfl, q _ (I5.hok.fresh (Nat.le_refl _))⟩
    refine ⟨hz, _, 0, r, ?_⟩
    rw [List.take_length]
    exact Heap.get?_push_size _ rfl
  · refine wpAny_getItem_list_slice ht.isList (Heap.IsSliceOf.new _ vl vu vs) pl pu ps (by decide) ?_ (by rw [List.size_toArray]; omega)
    rw [PySem.W.krv_pick]
    refine ⟨.ref _, _, I5.laid (t' := s4.toks) (o := .lst xs.reverse) (fun b ob q => Heap.get?_push_of_some _ q) (Nat.le_refl _) ?_, rfl, q _ (I5.hok.fresh (Nat.le_refl _))⟩
    exact ⟨by rw [List.length_reverse]; exact hz, _, 0, r.reverse, Heap.get?_push_size _ rfl⟩
end
end SL
set_option Elab.async false
set_option linter.all false
set_option maxRecDepth 100000
set_option maxHeartbeats 4000000
namespace K35
open PySem PySem.Spec PyProof.Rows L2
open C8 (Cal Mak Met pe_c pe_mk pe_mt pe_mt0)
open KM (pr)
/-- a small pair -/
def Sml (q : Int × Int) : Prop := -(2 ^ 64) < q.1 ∧ q.1 < 2 ^ 64 ∧ -(2 ^ 64) < q.2 ∧ q.2 < 2 ^ 64
/-- Shares of all names stand in a dict -/
def Std (C : Addr) (H : Hp) (sd : Addr) (xs : List Str) : Prop := ∃ kvs : List (Key × V), H sd = some (.dK kvs) ∧ ∀ x ∈ xs, ∃ (p : Addr) (q : Int × Int), valV kvs (Sum.inr x) = some (.ref p) ∧ Sh C H p q ∧ Sml q
theorem Std.keep {C sd : Addr} {H H' : Hp} {xs : List Str} (x : Std C H sd xs) (s : Same H H') : Std C H' sd xs := by
  obtain ⟨kvs, e, h⟩ := x
  refine ⟨kvs, s _ _ e, fun y hy => ?_⟩
  obtain ⟨p, q, a, b, c⟩ := h y hy
  exact ⟨p, q, a, b.keep s, c⟩
theorem Std.get {C sd : Addr} {H : Hp} {xs : List Str} {x : Str} (h : Std C H sd xs) (hx : x ∈ xs) : ∃ (p : Addr) (q : Int × Int), DGet H sd (.str x) (some (.ref p)) ∧ Sh C H p q ∧ Sml q := by
  obtain ⟨kvs, e, h⟩ := h
  obtain ⟨p, q, a, b, c⟩ := h x hx
  refine ⟨p, q, ?_, b, c⟩
  have := DGet.k (k := Sum.inr x) e
  rw [a] at this
  exact this
theorem Held.ne_lst {H : Hp} {h a : Addr} {c : Nat} {ys : List V} (x : Held H h c) (e : H a = some (.lst ys)) : a ≠ h := fun z => by
  obtain ⟨l, ns, n, m, h1, _⟩ := x
  rw [z, h1] at e
  cases e
theorem at2 {a b : V} {r : Int} (h0 : 0 ≤ r) (h1 : r < 2) : ∃ v, atI [a, b] r = some v ∧ (v = a ∨ v = b) := by
  rcases (show r = 0 ∨ r = 1 by omega) with rfl | rfl
  · exact ⟨a, rfl, .inl rfl⟩
  · exact ⟨b, rfl, .inr rfl⟩
section
variable {P : Program} {w : World} {K : PySem.W.Frag} {mg : Str → Option Value} {base : Heap} {f C : Addr} {fd : FuncData}
def spFar (C : Addr) : Sp := fun vs H Q _ => ∃ (h ot sd : Addr) (c : Nat) (xs : List Str) (hero : Str), vs = [.ref h, .ref ot, .ref sd, .str hero] ∧ Held H h (c + 2) ∧ H ot = some (.tup (xs.map V.str)) ∧ xs.Nodup ∧ 2 ≤ xs.length ∧ xs.length ≤ 13 ∧ hero ∈ xs ∧ Std C H sd xs ∧
  ∀ (o : Addr) (R : List Str) (H' : Hp), Held H' h c → Kp h H H' → H o = none → H' o = some (.lst (R.map V.str)) → DayOk xs R → Q (.ref o) H'
theorem ok_far (F : Dn K d_l_far f fd) (bl : Bl mg) (cD : CalD P w K mg base) (cP : Cal P w K mg base 1 "_law_pair" (spPair C) []) : FnOk P w K mg base CX0 2 f fd ["_law_held_here", "_law_order", "_law_stands", "_law_hero"] (spFar C) := by
  refine F.ok sc_l_far (fun vs H Q E h => ?_) (fun cdv A outer s H vs Q E hr h => ?_)
  · obtain ⟨h, ot, sd, c, xs, hero, rfl, _⟩ := h
    rfl
  · obtain ⟨h, ot, sd, c, xs, hero, rfl, held, hot, xnd, x2, x13, hh, std, hQ⟩ := h
    have hu := hu_of hr
    refine ⟨_, PSs.nox (pss_cons (ps_setLc (i := 5) (own := [("_law_name", 4)]) (g := gName 4) rfl sc_l_far.nd rfl rfl (sw_true rfl rfl rfl (by decide +kernel)) (pi_tup (pv 1)) (blkOk_by (N := N_l_far) (sc := defScope s_l_far) (by decide +kernel))
          (fun _ _ _ _ _ => pg_name (i := 4) sc_l_far.nd rfl (Or.inl rfl)) (fun _ _ _ _ _ => pts_one (pt_cmpR op_ne (pv 4) (pv 3) (nomark _))) (fun _ _ _ _ _ => pv 4))
      (pss_cons (ps_set (i := 6) sc_l_far.nd rfl (.inl rfl) (pe_lst pa_nil))
      (pss_cons (ps_for PassesOwn.never rfl (pi_list (pv 5)) (pg_name (i := 4) sc_l_far.nd rfl (.inl rfl))
        (pss_cons (ps_asg (pe_c cP hr (by decide) rfl (pa_cons (pe_dget hu (pv 2) (pv 4) (fun _ _ => rfl)) pa_nil)) (pg_tup rfl (pgs_cons (pg_name (i := 7) sc_l_far.nd rfl (.inl rfl)) (pgs_cons (pg_name (i := 8) sc_l_far.nd rfl (.inl rfl)) pgs_nil))))
        (pss_cons (ps_set (i := 9) sc_l_far.nd rfl (.inl rfl) pe_int)
        (pss_cons (ps_for PassesOwn.never rfl (pi_list (pv 6)) (pg_name (i := 10) sc_l_far.nd rfl (.inl rfl))
          (pss_cons (ps_set (i := 11) sc_l_far.nd rfl (.inl rfl) (pe_c cP hr (by decide) rfl (pa_cons (pe_dget hu (pv 2) (pv 10) (fun _ _ => rfl)) pa_nil)))
          (pss_one (ps_set (i := 9) sc_l_far.nd rfl (.inl rfl) (pe_op op_add (pv 9) (pe_callTy call_int1 rfl bl.int boot_int (pa_cons (pe_cmpR op_lt (pe_op op_mul (pe_ix ix_tup (pv 11) pe_int (fun _ _ => rfl)) (pv 8)) (pe_op op_mul (pv 7) (pe_ix ix_tup (pv 11) pe_int (fun _ _ => rfl))) (nomark _)) pa_nil)))))))
        (pss_one (ps_expr (pe_bm PySem.F.plainAttrs_list PySem.F.slot_list_insert PySem.F.type_list_insert mt_insert (pv 6) (pa_cons (pv 9) (pa_cons (pv 4) pa_nil)))))))))
      (C8.pss_cut (ps_set (i := 12) sc_l_far.nd rfl (.inl rfl) (SL.pe_stepL (pv 6) (pe_ix ix_list (pe_lst (pa_cons pe_int (pa_cons (pe_un un_neg pe_int) pa_nil))) (pe_c cD hr (by decide) rfl (pa_cons (pv 0) (pa_cons pe_int pa_nil))) (fun _ _ => rfl))))
      (pss_one (ps_ret (pe_op op_cat (pe_lst (pa_cons (pv 3) pa_nil)) (pe_slice sl_list (pv 12) po_none (po_some (pe_op op_add pe_int (pe_c cD hr (by decide) rfl (pa_cons (pv 0) (pa_cons (pe_callB call_len_seq rfl bl.len boot_len (pa_cons (pv 12) pa_nil)) pa_nil))))))))))))), ?_⟩
    refine ⟨_, rfl, ot, rfl, ⟨_, SqT.of hot⟩, fun D hD => lc_tup (fun i H2 => H2 D = some (.lst (((xs.take i).filter fun x => decide (x ≠ hero)).map V.str)) ∧ Same H H2) ⟨upd_same, same_new hD⟩ (fun _ H2 _ z => SqT.of (z.2 _ _ hot)) ?_ ?_⟩
    · rintro i x H2 hx ⟨hd, sm⟩
      have hi' : i < xs.length := by
        have := (List.getElem?_eq_some_iff.mp hx).1
        simpa using this
      rw [List.getElem?_map] at hx
      obtain ⟨y, hy, rfl⟩ := Option.map_eq_some_iff.mp hx
      have et : xs.take (i + 1) = xs.take i ++ [y] := by rw [List.take_succ, hy]; rfl
      refine ⟨rfl, ?_⟩
      refine ⟨_, rfl, _, rfl, rfl, _, rfl, ?_⟩
      have z : (!decide (V.str y = V.str hero)) = decide (y ≠ hero) := by simp
      rw [z]
      refine ite2 (fun hm => ?_) (fun hm => ?_)
      · refine ⟨_, rfl, _, hd, ?_, ?_, ?_⟩
        · rw [List.length_map]
          refine Nat.lt_of_le_of_lt (List.length_filter_le _ _) ?_
          rw [List.length_take]
          exact Nat.lt_of_lt_of_le (by omega : min i xs.length < 64) (by decide)
        · rw [upd_same, et, List.filter_append, List.map_append]
          have hm' : y ≠ hero := of_decide_eq_true hm
          simp [hm']
        · intro a o e
          rw [upd_ne (ne_of_none e hD)]
          exact sm a o e
      · refine ⟨?_, sm⟩
        have hm' : y = hero := Classical.byContradiction fun q => hm (decide_eq_true q)
        rw [et, List.filter_append]
        simp [hm', hd]
    rintro H2 ⟨hd, sm⟩
    rw [List.length_map, List.take_length] at hd
    obtain ⟨oth, ho⟩ : ∃ oth, oth = xs.filter fun x => decide (x ≠ hero) := ⟨_, rfl⟩
    rw [← ho] at hd
    have osub : ∀ y ∈ oth, y ∈ xs := fun y hy => by rw [ho] at hy; exact (List.mem_filter.mp hy).1
    have olt : oth.length < xs.length := by
      rw [ho]
      exact List.length_filter_lt_length_iff_exists.mpr ⟨hero, hh, by simp⟩
    refine ⟨by show 0 ≤ sizeLine; decide, fun rk frk => ?_⟩
    have srk := same_new (o := .lst []) frk
    refine ⟨_, rfl, D, rfl, ⟨_, SqL.of (srk _ _ hd)⟩, for_list (xs := oth.map V.str) (fun i σ H3 => ∃ (v4 v7 v8 v9 v10 v11 : Option V) (L : List Str), σ = [some (.ref h), some (.ref ot), some (.ref sd), some (.str hero), v4, some (.ref D), some (.ref rk), v7, v8, v9, v10, v11, none] ∧ H3 rk = some (.lst (L.map V.str)) ∧ L.Perm (oth.take i) ∧ Same H2 H3)
      ⟨_, _, _, _, _, _, [], rfl, upd_same, List.Perm.refl _, srk⟩ (fun i σ H3 _ ⟨_, _, _, _, _, _, _, _, _, _, s3⟩ => SqL.of (s3 _ _ hd)) ?_ ?_⟩
    · rintro i x σ H3 hx ⟨v4, v7, v8, v9, v10, v11, L, rfl, hrk, pm, s3⟩
      rw [List.getElem?_map] at hx
      obtain ⟨z, hz, rfl⟩ := Option.map_eq_some_iff.mp hx
      have et : oth.take (i + 1) = oth.take i ++ [z] := by rw [List.take_succ, hz]; rfl
      have Ll : L.length ≤ 13 := by
        rw [pm.length_eq, List.length_take]
        omega
      obtain ⟨p, q, dg, hp, sq⟩ := ((std.keep sm).keep s3).get (osub z (List.mem_of_getElem? hz))
      refine ⟨_, rfl, _, rfl, sd, _, rfl, dg, p, q, rfl, hp, fun pt H4 s4 f4 hpt => ?_⟩
      refine ⟨pt, _, rfl, SqT.of (show H4 pt = some (.tup [.int q.1, .int q.2]) from hpt), rfl, _, _, rfl, _, _, rfl, rfl, ?_⟩
      have hrk4 := s4 _ _ hrk
      refine ⟨_, rfl, rk, rfl, ⟨_, SqL.of hrk4⟩, for_list (xs := L.map V.str) (fun j σ H5 => ∃ (v10 v11 : Option V) (at_ : Int), σ = [some (.ref h), some (.ref ot), some (.ref sd), some (.str hero), some (.str z), some (.ref D), some (.ref rk), some (.int q.1), some (.int q.2), some (.int at_), v10, v11, none] ∧ 0 ≤ at_ ∧ at_ ≤ j ∧ Same H4 H5)
        ⟨_, _, 0, rfl, by decide, by decide, fun _ _ e => e⟩ (fun j σ H5 _ ⟨_, _, _, _, _, _, s5⟩ => SqL.of (s5 _ _ hrk4)) ?_ ?_⟩
      · rintro j x σ H5 hx ⟨v10, v11, at_, rfl, a0, aj, s5⟩
        rw [List.getElem?_map] at hx
        obtain ⟨y, hy, rfl⟩ := Option.map_eq_some_iff.mp hx
        have hyx : y ∈ xs := osub y (List.mem_of_mem_take (pm.mem_iff.mp (List.mem_of_getElem? hy)))
        obtain ⟨p', q', dg', hp', sq'⟩ := ((((std.keep sm).keep s3).keep s4).keep s5).get hyx
        refine ⟨_, rfl, _, rfl, sd, _, rfl, dg', p', q', rfl, hp', fun pt' H6 s6 f6 hpt' => ?_⟩
        have hpt6 : H6 pt' = some (.tup [.int q'.1, .int q'.2]) := hpt'
        refine ⟨_, rfl, _, rfl, pt', _, _, _, rfl, rfl, SqT.of hpt6, rfl, _, rfl, _, _, rfl, rfl, cb_l sq'.1 sq'.2.1, _, rfl, _, rfl, pt', _, _, _, rfl, rfl, SqT.of hpt6, rfl, _, _, rfl, rfl, cb_l sq.1 sq.2.1, _, _, rfl, rfl, .inr ⟨_, rfl, _, _, rfl, rfl, _, _, _, rfl, ?_, ?_, s5.trans s6⟩⟩
        · split <;> omega
        · split <;> omega
      · rintro σ H5 ⟨v10, v11, at_, rfl, a0, aj, s5⟩
        have hrk5 := s5 _ _ hrk4
        rw [List.length_map] at aj
        refine ⟨_, rfl, Or.inl ⟨rfl, _, SqL.of hrk5⟩, _, rfl, _, rfl, rk, _, at_, .str z, rfl, rfl, hrk5, ?_, a0, by omega, _, _, _, _, _, _, L.take at_.toNat ++ [z] ++ L.drop at_.toNat, rfl, ?_, ?_, ?_⟩
        · rw [List.length_map]
          exact Nat.lt_of_lt_of_le (by omega : L.length < 64) (by decide)
        · rw [upd_same]
          simp [List.map_take, List.map_drop]
        · rw [et]
          refine List.Perm.trans ?_ (pm.append_right [z])
          have e1 : (L.take at_.toNat ++ [z] ++ L.drop at_.toNat).Perm (z :: (L.take at_.toNat ++ L.drop at_.toNat)) := by
            rw [List.append_assoc]
            exact List.perm_middle
          rw [List.take_append_drop] at e1
          exact e1.trans (List.perm_append_comm (l₁ := [z]) (l₂ := L))
        · intro a o e
          rw [upd_ne (ne_of_none e frk)]
          exact s5 a o (s4 a o (s3 a o e))
    rintro σ H3 ⟨v4, v7, v8, v9, v10, v11, L, rfl, hrk, pm, s3⟩
    rw [List.length_map, List.take_length] at pm
    have s03 := sm.trans s3
    refine ⟨fun σ' H' => ∃ (so : Addr) (L2 : List Str), σ' = [some (.ref h), some (.ref ot), some (.ref sd), some (.str hero), v4, some (.ref D), some (.ref rk), v7, v8, v9, v10, v11, some (.ref so)] ∧ H' so = some (.lst (L2.map V.str)) ∧ L2.Perm oth ∧ Held H' h (c + 1) ∧ Kp h H H', ?_, ?_⟩
    · refine ⟨_, rfl, 1, rfl, by show 2 ≤ sizeLine; decide, fun u fu => ?_⟩
      have su := same_new (o := .lst [.int 1, .int (-1)]) fu
      have h03 := (held.same s03).same su
      refine ⟨_, rfl, h, c + 1, 2, rfl, h03, by decide, by decide, fun r H7 r0 r1 held7 k7 => ?_⟩
      have hu7 : H7 u = some (.lst [.int 1, .int (-1)]) := k7.1 u _ upd_same ((held.same s03).ne_new fu)
      have hrk7 : H7 rk = some (.lst (L.map V.str)) := k7.1 _ _ (su _ _ hrk) (h03.ne_lst (su _ _ hrk))
      have k07 : Kp h H H7 := (Kp.same (s03.trans su)).trans k7
      obtain ⟨v, hv, hv2⟩ := at2 (a := .int 1) (b := .int (-1)) r0 r1
      rcases hv2 with rfl | rfl
      · refine ⟨u, _, _, _, rfl, rfl, SqL.of hu7, hv, 1, rfl, rk, _, rfl, SqL.of hrk7, .inl ⟨rfl, fun so fso => ?_⟩⟩
        have ss := same_new (o := .lst (L.map V.str)) fso
        exact ⟨so, L, rfl, upd_same, pm, held7.same ss, k07.trans (Kp.same ss)⟩
      · refine ⟨u, _, _, _, rfl, rfl, SqL.of hu7, hv, -1, rfl, rk, _, rfl, SqL.of hrk7, .inr ⟨rfl, fun so fso => ?_⟩⟩
        have ss := same_new (o := .lst (L.map V.str).reverse) fso
        exact ⟨so, L.reverse, rfl, by rw [upd_same, List.map_reverse], (List.reverse_perm L).trans pm, held7.same ss, k07.trans (Kp.same ss)⟩
    rintro σ' H4 ⟨so, L2, rfl, hso, pm2, held4, k4⟩
    have Lpos : 0 < L2.length := by
      rw [pm2.length_eq]
      refine List.length_pos_iff.mpr fun z => ?_
      have all : ∀ y ∈ xs, y = hero := fun y hy => Classical.byContradiction fun q => by
        have : y ∈ oth := by rw [ho]; exact List.mem_filter.mpr ⟨hy, decide_eq_true q⟩
        rw [z] at this
        cases this
      match xs, x2, xnd, all with
      | a :: b :: t, _, nd, al =>
        have e1 := al a (List.mem_cons_self ..)
        have e2 := al b (List.mem_cons_of_mem _ (List.mem_cons_self ..))
        rw [e1, e2] at nd
        exact (List.nodup_cons.mp nd).1 (List.mem_cons_self ..)
    have Llt : L2.length < xs.length := by rw [pm2.length_eq]; exact olt
    refine ⟨_, rfl, by show 1 ≤ sizeLine; decide, fun l1 fl1 => ?_⟩
    have s1 := same_new (o := .lst [.str hero]) fl1
    have hl1 : (upd H4 l1 (.lst [.str hero])) l1 = some (.lst [.str hero]) := upd_same
    have hso1 := s1 _ _ hso
    have held5 := held4.same s1
    refine ⟨_, rfl, _, rfl, _, rfl, so, _, rfl, .inl (SqL.of hso1), h, c, _, rfl, held5, by rw [List.length_map]; omega, by rw [List.length_map]; omega, fun r H6 r0 r1 held6 k6 => ?_⟩
    rw [List.length_map] at r1
    obtain ⟨k, rfl⟩ : ∃ k : Nat, r = k := ⟨r.toNat, by omega⟩
    refine ⟨_, _, rfl, rfl, 1 + (k : Int), rfl, so, _, rfl, SqL.of (k6.1 _ _ hso1 (held5.ne_lst hso1)), fun sl fsl => ?_⟩
    have ec : cutV (L2.map V.str) none (some (1 + (k : Int))) = (L2.take (1 + k)).map V.str := cut_strs L2 (1 + k) (by omega)
    rw [ec]
    have ssl := same_new (o := .lst ((L2.take (1 + k)).map V.str)) fsl
    have hl6 := k6.1 _ _ hl1 (held5.ne_lst hl1)
    refine ⟨l1, sl, _, _, rfl, rfl, ssl _ _ hl6, upd_same, ?_, fun o fo => ?_⟩
    · rw [List.length_map, List.length_take]
      exact Nat.le_trans (by simp; omega : _ ≤ 64) (by decide)
    have so' := same_new (o := .lst ([.str hero] ++ (L2.take (1 + k)).map V.str)) fo
    have kk : Kp h H (upd H6 sl (.lst ((L2.take (1 + k)).map V.str))) := ((k4.trans (Kp.same s1)).trans k6).trans (Kp.same ssl)
    have nd2 : oth.Nodup := by rw [ho]; exact xnd.filter _
    have nh : ¬ hero ∈ L2 := fun q => by
      have := pm2.mem_iff.mp q
      rw [ho] at this
      have := (List.mem_filter.mp this).2
      simp at this
    refine hQ o (hero :: L2.take (1 + k)) _ ((held6.same ssl).same so') (kk.trans (Kp.same so')) (kk.free (held6.same ssl) fo) upd_same ⟨List.cons_ne_nil _ _, List.nodup_cons.mpr ⟨fun q => nh (List.mem_of_mem_take q), (pm2.nodup_iff.mpr nd2).sublist (List.take_sublist _ _)⟩, fun y hy => ?_, ?_⟩
    · rcases List.mem_cons.mp hy with rfl | hy
      · exact hh
      · exact osub y (pm2.mem_iff.mp (List.mem_of_mem_take hy))
    · rw [List.length_cons, List.length_take]
      omega
end
end K35
set_option Elab.async false
set_option linter.all false
set_option maxRecDepth 100000
set_option maxHeartbeats 4000000
namespace K35
open PySem PySem.Spec PyProof.Rows L2
open LamX (Tabs ExtN TabB TabS)
open KM (pr)
theorem Sm_app (f : Str → Int) : ∀ a b, Sm f (a ++ b) = Sm f a + Sm f b
  | [], b => by show Sm f b = 0 + Sm f b; omega
  | x :: a, b => by
    show f x + Sm f (a ++ b) = f x + Sm f a + Sm f b
    rw [Sm_app f a b]
    omega
theorem cnt_mid (p : Str → Bool) (l : List Str) : 0 ≤ Sm (pk p fun _ => 1) l ∧ Sm (pk p fun _ => 1) l ≤ l.length := by
  refine ⟨Sm_nonneg fun x _ => by simp only [pk]; split <;> decide, ?_⟩
  rw [← Sm_len l]
  exact Sm_le fun x _ => by simp only [pk]; split <;> decide
/-- names that stand at nought join -/
theorem Iv.grow {G W : Int} {ys new : List Str} {c : Str → Int} (I : Iv G W ys c) (hG : 0 ≤ G) (hW : 0 ≤ W) (z : ∀ x ∈ new, c x = 0) : Iv G W (ys ++ new) c := by
  have z0 : ∀ f : Str → Int, (∀ x ∈ new, f x = 0) → Sm f new = 0 := fun f hf => by
    rw [Sm_congr (g := fun _ => 0) hf, Sm_zero]
  refine ⟨by rw [Sm_app, I.z, z0 c z]; rfl, fun p => ?_⟩
  rw [Sm_app, Sm_app, z0 (pk p c) (fun x hx => by simp only [pk]; split; exact z x hx; rfl), Int.add_zero]
  refine Int.le_trans (I.b p) (Int.mul_le_mul_of_nonneg_left ?_ (by omega))
  obtain ⟨m0, mn⟩ := cnt_mid p ys
  obtain ⟨t0, ts⟩ := cnt_mid p new
  rw [List.length_append]
  refine Int.mul_le_mul (by omega) (by omega) (by omega) (by omega)
theorem drv_min {g : Int} (g0 : 0 ≤ g) {xs R : List Str} {c : Str → Int} {y : Str} (dy : DayOk xs R) (h : Drv g c xs R y) : y ∈ R ∧ ∀ z ∈ R, gG g * c y ≤ gG g * c z + 840 * gW g := by
  obtain ⟨i, hi, m⟩ := h
  have hy := List.mem_filter.mp (List.mem_of_getElem? hi)
  refine ⟨of_decide_eq_true hy.2, fun z hz => least_of g0 ?_⟩
  have hz2 : z ∈ xs.filter fun x => decide (x ∈ R) := List.mem_filter.mpr ⟨dy.sub z hz, decide_eq_true hz⟩
  obtain ⟨j, hj, e⟩ := List.mem_iff_getElem.mp hz2
  exact (m j z (by rw [List.getElem?_eq_getElem hj, e])).1
/-- those that rode -/
structure Ro (xs ys : List Str) (c : Str → Int) : Prop where
  nd : ys.Nodup
  sub : ∀ y ∈ ys, y ∈ xs
  iv : Iv (gG 0) (gW 0) ys c
  out : ∀ x ∈ xs, ¬ x ∈ ys → c x = 0
theorem len_sub {xs ys : List Str} (h1 : xs.Nodup) (h2 : ys.Nodup) (h3 : ∀ y ∈ ys, y ∈ xs) : ys.length ≤ xs.length := by
  have e := Sm_mem h1 h2 h3
  have le : Sm (fun x => if x ∈ ys then 1 else 0) xs ≤ Sm (fun _ => 1) xs := Sm_le fun x _ => by split <;> decide
  rw [Sm_len, e] at le
  omega
theorem Ro.step {xs ys R : List Str} {c : Str → Int} {y : Str} (h : Ro xs ys c) (nd : xs.Nodup) (l8 : xs.length ≤ 8) (dy : DayOk xs R) (dr : Drv 0 c xs R y) : Ro xs (ys ++ R.filter fun x => !decide (x ∈ ys)) (nxt R y c) := by
  obtain ⟨yR, ymin⟩ := drv_min (by decide) dy dr
  have nd' : (ys ++ R.filter fun x => !decide (x ∈ ys)).Nodup := by
    refine List.nodup_append.mpr ⟨h.nd, dy.nd.filter _, fun a ha b hb e => ?_⟩
    have := (List.mem_filter.mp hb).2
    rw [← e] at this
    simp [ha] at this
  have sub' : ∀ y ∈ ys ++ R.filter (fun x => !decide (x ∈ ys)), y ∈ xs := fun y hy => by
    rcases List.mem_append.mp hy with hy | hy
    · exact h.sub y hy
    · exact dy.sub y (List.mem_filter.mp hy).1
  have Rsub : ∀ y ∈ R, y ∈ ys ++ R.filter (fun x => !decide (x ∈ ys)) := fun y hy => by
    by_cases e : y ∈ ys
    · exact List.mem_append_left _ e
    · exact List.mem_append_right _ (List.mem_filter.mpr ⟨hy, by simp [e]⟩)
  have le := len_sub nd nd' sub'
  refine ⟨nd', sub', ?_, fun x hx hn => ?_⟩
  · refine Iv.step (h.iv.grow (by decide) (by decide) fun x hx => ?_) (by decide) (by decide) nd' (by omega) ⟨dy.ne, dy.nd, Rsub, len_sub nd' dy.nd Rsub⟩ yR ymin
    have hx' := List.mem_filter.mp hx
    exact h.out x (dy.sub x hx'.1) (by simpa using hx'.2)
  · have n1 : ¬ x ∈ R := fun q => hn (Rsub x q)
    have n2 : ¬ x ∈ ys := fun q => hn (List.mem_append_left _ q)
    have n3 : ¬ x = y := fun q => n1 (by rw [q]; exact yR)
    unfold nxt
    rw [if_neg n1, if_neg n3, h.out x hx n2]
    rfl
/-- each name within the bound of n -/
def Wi (xs : List Str) (c : Str → Int) (n : Int) : Prop := 1 ≤ n ∧ n ≤ 8 ∧ ∀ z ∈ xs, 2 * (gG 0 * c z) ≤ 840 * (gG 0 + gW 0) * (n - 1) ∧ 2 * (gG 0 * -c z) ≤ 840 * (gG 0 + gW 0) * (n - 1)
theorem Ro.wi {xs ys : List Str} {c : Str → Int} (h : Ro xs ys c) (nd : xs.Nodup) (l8 : xs.length ≤ 8) (ne : ys ≠ []) : Wi xs c ys.length := by
  have p : 0 < ys.length := List.length_pos_iff.mpr ne
  have le := len_sub nd h.nd h.sub
  refine ⟨by omega, by omega, fun z hz => ?_⟩
  by_cases e : z ∈ ys
  · exact h.iv.one h.nd e
  · rw [h.out z hz e]
    have : gG 0 = 1 := rfl
    have : gW 0 = 0 := rfl
    constructor <;> (simp [gG, gW]; omega)
theorem Iv.wi {xs : List Str} {c : Str → Int} (h : Iv (gG 0) (gW 0) xs c) (nd : xs.Nodup) (l8 : xs.length ≤ 8) (p : 0 < xs.length) : Wi xs c xs.length := ⟨by omega, by omega, fun z hz => h.one nd hz⟩
/-- what stands while the law goes -/
structure M2 (K : PySem.W.Frag) (CT h tu rt ot hd kp ps : Addr) (xs : List Str) (g : Int) (c : Str → Int) (past : List V) (n : Nat) (H : Hp) : Prop where
  held : Held H h n
  lr : LeastR H rt ot xs g
  tr : Tr CT H tu rt hd kp ps
  ch : Crd H hd xs c
  ck : Crd H kp xs c
  pa : H ps = some (.lst past)
  tb : Tabs (T0 K) H
  ce : Cel h ps H
section
variable {K : PySem.W.Frag} {CT h tu rt ot hd kp ps : Addr} {xs : List Str} {g : Int} {c : Str → Int} {past : List V} {n n' : Nat} {H H' : Hp}
theorem M2.kept (m : M2 K CT h tu rt ot hd kp ps xs g c past n H) (k : Kp h H H') (hh : Held H' h n') : M2 K CT h tu rt ot hd kp ps xs g c past n' H' := by
  have tk : ∀ {a : Addr} {ys : List V}, H a = some (.tup ys) → H' a = some (.tup ys) := fun e => k.tupS (K := K) m.held e
  obtain ⟨dx, e⟩ := m.tr
  refine ⟨hh, m.lr.ext fun a ys z => tk z, ⟨dx, k.1 _ _ e fun z => ?_⟩, tk m.ch, tk m.ck, k.1 _ _ m.pa m.ce.ne, tabs_kp m.tb k m.held, m.ce.kp k⟩
  obtain ⟨l, ns, n, m', h1, _⟩ := m.held
  rw [z, h1] at e
  cases e
theorem M2.same (m : M2 K CT h tu rt ot hd kp ps xs g c past n H) (s : Same H H') : M2 K CT h tu rt ot hd kp ps xs g c past n H' := m.kept (Kp.same s) (m.held.same s)
theorem M2.weak (m : M2 K CT h tu rt ot hd kp ps xs g c past n H) (le : n' ≤ n) : M2 K CT h tu rt ot hd kp ps xs g c past n' H := m.kept (Kp.refl h H) (m.held.weak le)
theorem M2.ride {hd' kp' : Addr} {c' : Str → Int} {past' : List V} (m : M2 K CT h tu rt ot hd kp ps xs g c past n H) (k : KpT tu ps H H') (tb : Tabs (T0 K) H') (tr : Tr CT H' tu rt hd' kp' ps) (ch : Crd H' hd' xs c') (ck : Crd H' kp' xs c') (pa : H' ps = some (.lst past')) :
    M2 K CT h tu rt ot hd' kp' ps xs g c' past' n H' := by
  obtain ⟨dx, htu⟩ := m.tr
  have tk : ∀ {a : Addr} {ys : List V}, H a = some (.tup ys) → H' a = some (.tup ys) := fun e => k _ _ e (fun _ q => by cases q) (fun z => by rw [z, htu] at e; cases e) (fun z => by rw [z, m.pa] at e; cases e)
  obtain ⟨la, n0, m0, hc1, hc2, hc3⟩ := m.ce
  obtain ⟨l, ns, n1, m1, h1, h2, h3⟩ := m.held
  rw [h1] at hc1
  have el := hd_inj (Option.some.inj hc1)
  subst el
  have hh' : H' h = some (.dK (hd0 l n1 m1)) := k _ _ h1 (fun _ q => by cases q) (fun z => by rw [z, htu] at h1; cases h1) hc3
  have hl' : H' l = some (.lst (ns.map V.int)) := k _ _ h2 (fun _ q => by cases q) (fun z => by rw [z, htu] at h2; cases h2) hc2
  exact ⟨⟨l, ns, n1, m1, hh', hl', h3⟩, m.lr.ext fun a ys z => tk z, tr, ch, ck, pa, tb, ⟨l, n1, m1, hh', hc2, hc3⟩⟩
end
end K35
set_option Elab.async false
set_option linter.all false
set_option maxRecDepth 100000
set_option maxHeartbeats 4000000
namespace K35
open PySem PySem.Spec PyProof.Rows L2
open C8 (Cal Mak Met pe_c pe_mk pe_mt pe_mt0)
open LamX (Tabs ExtN TabB)
open KM (pr)
open SX (S)
/-- a bound of n names -/
def Bnd (C : Addr) (H : Hp) (n : Int) (t : Addr) : Prop := ∃ p q : Addr, H t = some (.tup [.ref p, .ref q]) ∧ Sh C H p (pr (bO n 0 (n - 1).toNat)) ∧ Sh C H q (pr (bE n 0 (n - 1).toNat))
theorem Bnd.keep {C : Addr} {H H' : Hp} {n : Int} {t : Addr} (x : Bnd C H n t) (s : Same H H') : Bnd C H' n t := by
  obtain ⟨p, q, a, b, c⟩ := x
  exact ⟨p, q, s _ _ a, b.keep s, c.keep s⟩
theorem sml_crd {c : Int} (h1 : -100000 < c) (h2 : c < 100000) : Sml (pr (Rat.divInt c 840)) := by
  have szc : KM.Sz 60 (Rat.divInt c 840) := KM.sz_of_low (by decide) (Nat.lt_of_lt_of_le (by omega : c.natAbs < 2 ^ 17) (by decide)) (by decide)
  have sz1 : (pr (Rat.divInt c 840)).1.natAbs < 2 ^ 60 := szc.1
  have sz2 : (pr (Rat.divInt c 840)).2.natAbs < 2 ^ 60 := by
    show ((Rat.divInt c 840).den : Int).natAbs < 2 ^ 60
    rw [Int.natAbs_natCast]
    exact szc.2
  exact ⟨by omega, by omega, by omega, by omega⟩
section
variable {P : Program} {w : World} {K : PySem.W.Frag} {mg : Str → Option Value} {base : Heap} {f C CT : Addr} {fd : FuncData}
def spLaw (K : PySem.W.Frag) : Sp := fun vs H Q _ => ∃ (a : Addr) (ns : List Int), vs = [.ref a] ∧ SqL K H a (ns.map V.int) ∧ ns.length ≤ 63 ∧ Tabs (T0 K) H ∧ ∀ H', Q (.bl true) H'
theorem ok_law (F : Dn K d_law f fd) (bl : Bl mg) (b2 : Bl2 mg) (cH : Cal P w K mg base 1 "_law_held" (spHeld K) []) (cD : CalD P w K mg base) (cNm : Cal P w K mg base 2 "_law_names" spNames []) (cP : Cal P w K mg base 1 "_law_pair" (spPair C) []) (cDy : Cal P w K mg base 2 "_law_day" spDay []) (cI : Cal P w K mg base 1 "_law_in_bound" spIb [])
    (cF : Cal P w K mg base 2 "_law_far" (spFar C) []) (MT : Mak P w K mg base 4 "Turns" CT (spTi CT) []) (mR : Met P w K mg base 6 CT "ride" (spRide K CT) []) (mS : Met P w K mg base 4 CT "stands" (spSt C CT) [])
    (c1 : Cal P w K mg base 5 "never_beyond" (spNB C) [.int 0]) :
    FnOk P w K mg base CX0 7 f fd ["_law_script"] (spLaw K) := by
  refine F.ok sc_law (fun vs H Q E h => ?_) (fun cdv A outer s H vs Q E hr h => ?_)
  · obtain ⟨a, ns, rfl, _⟩ := h
    rfl
  · obtain ⟨a, ns, rfl, hS, hlen, tabs, hQ⟩ := h
    have hu := hu_of hr
    have hu64 : (A.deeper (envOfC d_law.qual d_law.scope s.heap.objs.size f cdv)).units + 64 < cLine := by have := hr.un; omega
    refine ⟨_, PSs.nox (pss_cons (ps_set (i := 1) sc_law.nd rfl (.inl rfl) (pe_c cH hr (by decide) rfl (pa_cons (pv 0) pa_nil)))
      (C8.pss_cut (ps_set (i := 2) sc_law.nd rfl (.inl rfl) (pe_callTy call_tuple_of rfl b2.tup boot_tuple (pa_cons (pe_c cNm hr (by decide) rfl (pa_cons (pv 1) (pa_cons (pe_op op_add pe_int (pe_c cD hr (by decide) rfl (pa_cons (pv 1) (pa_cons pe_int pa_nil)))) pa_nil))) pa_nil)))
      (pss_cons (ps_set (i := 3) sc_law.nd rfl (.inl rfl) (pe_mk MT hr (by decide) rfl (pa_cons (pe_tup (pa_cons pe_str (pa_cons (pv 2) (pa_cons pe_int pa_nil)))) pa_nil)))
      (C8.pss_cut (ps_set (i := 4) sc_law.nd rfl (.inl rfl) (pe_and (pe_cmpR op_eq (pe_c cD hr (by decide) rfl (pa_cons (pv 1) (pa_cons pe_int pa_nil))) pe_int (nomark _)) (pe_one (pe_cmpR op_gt (pe_callB call_len_seq rfl bl.len boot_len (pa_cons (pv 2) pa_nil)) pe_int (nomark _)))))
      (pss_cons (ps_set (i := 5) sc_law.nd rfl (.inl rfl) (pe_ix ix_tup (pv 2) (pe_c cD hr (by decide) rfl (pa_cons (pv 1) (pa_cons (pe_callB call_len_seq rfl bl.len boot_len (pa_cons (pv 2) pa_nil)) pa_nil))) (fun _ _ => rfl)))
      (pss_cons (ps_set (i := 6) sc_law.nd rfl (.inr rfl) (pe_lst pa_nil))
      (pss_cons (ps_for PassesOwn.never rfl (pi_range1 rfl bl.range (pa_cons (pe_op op_add pe_int (pe_c cD hr (by decide) rfl (pa_cons (pv 1) (pa_cons pe_int pa_nil)))) pa_nil)) (pg_name (i := 7) sc_law.nd rfl (.inl rfl))
        (pss_cons (ps_set (i := 8) sc_law.nd rfl (.inl rfl) (pe_c cDy hr (by decide) rfl (pa_cons (pv 1) (pa_cons (pv 2) pa_nil))))
        (C8.pss_cut (ps_if (PW.pt (pw_and (pt_val (pv 4)) (pw_and1 (pt_cmpR op_gt (pe_c cD hr (by decide) rfl (pa_cons (pv 1) (pa_cons pe_int pa_nil))) pe_int (nomark _)))))
          (pss_one (ps_set (i := 8) sc_law.nd rfl (.inl rfl) (pe_c cF hr (by decide) rfl (pa_cons (pv 1) (pa_cons (pv 2) (pa_cons (pe_mt0 mS hr (by decide) (pv 3)) (pa_cons (pv 5) pa_nil))))))) pss_nil)
        (pss_cons (ps_expr (pe_mt mR hr (by decide) (pv 3) (pa_cons (pv 8) pa_nil)))
        (pss_cons (ps_set (i := 6) sc_law.nd rfl (.inr rfl) (pe_op op_cat (pv 6) (pe_lc (own := [("_law_name", 14)]) (g := gName 14) rfl sc_law.nd (pi_list (pv 8)) (blkOk_by (N := N_law) (sc := defScope s_law) (by decide +kernel))
              (fun _ _ _ _ _ => pg_name (i := 14) sc_law.nd rfl (Or.inl rfl)) (fun _ _ _ _ _ => pts_one (pt_cmpR (r := rIn K true) op_notIn_seq (pv 14) (pv 6) (by rfl))) (fun _ _ _ _ _ => pv 14))))
        (pss_cons (ps_set (i := 9) sc_law.nd rfl (.inr rfl) (pe_mt0 mS hr (by decide) (pv 3)))
        (pss_cons (ps_set (i := 10) sc_law.nd rfl (.inl rfl) (pe_lst (pa_cons (pe_c c1 hr (by decide) rfl (pa_cons (pe_callB call_len_seq rfl bl.len boot_len (pa_cons (pv 2) pa_nil)) pa_nil)) (pa_cons (pe_c c1 hr (by decide) rfl (pa_cons (pe_callB call_len_seq rfl bl.len boot_len (pa_cons (pv 6) pa_nil)) pa_nil)) pa_nil))))
        (pss_one (ps_for PassesOwn.never rfl (pi_list (pv 10)) (pg_tup rfl (pgs_cons (pg_name (i := 11) sc_law.nd rfl (.inl rfl)) (pgs_cons (pg_name (i := 12) sc_law.nd rfl (.inl rfl)) pgs_nil)))
          (pss_cons (ps_set (i := 13) sc_law.nd rfl (.inr rfl) (pe_tup (pa_cons (pe_c cP hr (by decide) rfl (pa_cons (pv 11) pa_nil)) (pa_cons (pe_c cP hr (by decide) rfl (pa_cons (pv 12) pa_nil)) pa_nil))))
          (pss_one (ps_if (pt_cmpR (op_neD hu64) (pe_lc (own := [("_law_name", 14)]) (g := gName 14) rfl sc_law.nd (pi_tup (pv 2)) (blkOk_by (N := N_law) (sc := defScope s_law) (by decide +kernel))
              (fun _ _ _ _ _ => pg_name (i := 14) sc_law.nd rfl (Or.inl rfl)) (fun _ _ _ _ _ => pts_one (pt_not (pt_val (pe_c cI hr (by decide) rfl (pa_cons (pe_c cP hr (by decide) rfl (pa_cons (pe_dget hu (pv 9) (pv 14) (fun _ _ => rfl)) pa_nil)) (pa_cons (pv 13) pa_nil)))))) (fun _ _ _ _ _ => pv 14))
            (pe_lst pa_nil) (nomark _)) pss_never pss_nil))))))))))))
      (pss_one (ps_ret pe_bl))))))))), ?_⟩
    refine ⟨_, rfl, a, ns, rfl, hS, hlen, fun h H1 s1 f1 held1 => ?_⟩
    have t1 := tabs.ext s1
    refine ⟨fun σ' H' => ∃ (ot : Addr) (xs : List Str), σ' = [some (.ref a), some (.ref h), some (.ref ot), none, none, none, none, none, none, none, none, none, none, none, none] ∧ H' ot = some (.tup (xs.map V.str)) ∧ Ord xs ∧ Held H' h 800000000 ∧ Tabs (T0 K) H', ?_, ?_⟩
    · refine ⟨_, rfl, _, rfl, h, 800000041, 8, rfl, held1.weak (by decide), by decide, by decide, fun m H2 m0 m7 held2 k2 => ?_⟩
      obtain ⟨k, rfl⟩ : ∃ k : Nat, m = k := ⟨m.toNat, by omega⟩
      refine ⟨_, _, rfl, rfl, h, 800000001, 1 + k, rfl, held2.weak (by decide), by omega, fun o zs H3 held3 k3 fo ho zl zok zpw => ?_⟩
      refine ⟨o, _, rfl, .inl ⟨SqL.of ho, fun ot fot => ?_⟩⟩
      have sot := same_new (o := .tup (zs.map fun l => V.str (S l))) fot
      refine ⟨ot, zs.map S, rfl, ?_, ord_of (by omega) (by omega) zok zpw, (held3.same sot).weak (by decide), ?_⟩
      · rw [upd_same, List.map_map]
        rfl
      · exact Tabs.ext (tabs_kp (tabs_kp t1 k2 held1) k3 held2) sot
    rintro σ' H3 ⟨ot, xs, rfl, hot3, ox, held3, t3⟩
    have xpos : 0 < xs.length := List.length_pos_iff.mpr ox.ne
    have l8 := ox.l8
    -- the Turns
    refine ⟨_, rfl, by show 3 ≤ sizeLine; decide, fun rt frt => ?_⟩
    have sr := same_new (o := .tup [.str "least", .ref ot, .int 0]) frt
    have hrt : (upd H3 rt (.tup [.str "least", .ref ot, .int 0])) rt = some (.tup [.str "least", .ref ot, .int 0]) := upd_same
    have hot3' := sr _ _ hot3
    generalize upd H3 rt (.tup [.str "least", .ref ot, .int 0]) = H3' at sr hrt hot3' ⊢
    intro tu dx ntu ndx nne
    have lift : ∀ b o, H3' b = some o → (upd (upd H3' dx (.own tu)) tu (.ins CT dx [])) b = some o := fun b o e => by
      rw [upd_ne (ne_of_none e ntu), upd_ne (ne_of_none e ndx)]
      exact e
    refine ⟨tu, dx, rt, ot, xs, 0, rfl, upd_same, ⟨lift _ _ hrt, lift _ _ hot3', ox, by decide, by decide⟩, fun H4 hd kp ps back fps htu hcd hck hps => ⟨rfl, ?_⟩⟩
    have s34 : Same H3' H4 := fun b o e => back b o (ne_of_none e ntu) (lift b o e)
    have fps' : H3' ps = none := by
      cases e : H3' ps with
      | none => rfl
      | some o => rw [lift ps o e] at fps; cases fps
    have M4 : M2 K CT h tu rt ot hd kp ps xs 0 (fun _ => 0) [] 800000000 H4 :=
      ⟨(held3.same sr).same s34, ⟨s34 _ _ hrt, s34 _ _ hot3', ox, by decide, by decide⟩, ⟨dx, htu⟩, hcd, hck, hps, Tabs.ext (Tabs.ext t3 sr) s34, (Cel.of (held3.same sr) fps').kp (Kp.same s34)⟩
    -- far or not
    refine ⟨fun σ' H' => ∃ fw : Bool, σ' = [some (.ref a), some (.ref h), some (.ref ot), some (.ref tu), some (.bl fw), none, none, none, none, none, none, none, none, none, none] ∧ (fw = true → 2 ≤ xs.length) ∧ M2 K CT h tu rt ot hd kp ps xs 0 (fun _ => 0) [] 799999999 H', ?_, ?_⟩
    · refine ⟨_, rfl, h, 799999999, 2, rfl, M4.held, by decide, by decide, fun m H5 m0 m1 held5 k5 => ⟨rfl, _, rfl, ?_⟩⟩
      have M5 := M4.kept k5 held5
      refine ite2 (fun _ => ?_) (fun _ => ⟨false, rfl, (fun z => by cases z), M5⟩)
      refine ⟨_, rfl, ot, _, rfl, .inr (SqT.of M5.lr.2.1), _, _, rfl, rfl, _, rfl, fun z => ?_, M5⟩
      have := of_decide_eq_true z
      rw [List.length_map] at this
      omega
    rintro σ' H5 ⟨fw, rfl, hfw, M5⟩
    -- the hero
    refine ⟨_, rfl, _, rfl, _, rfl, ot, _, rfl, .inr (SqT.of M5.lr.2.1), h, 799999998, _, rfl, M5.held.weak (by decide), by rw [List.length_map]; omega, by rw [List.length_map]; omega, fun r H6 r0 r1 held6 k6 => ?_⟩
    rw [List.length_map] at r1
    have M6 := M5.kept k6 held6
    obtain ⟨hero, hhero, hat⟩ := pick V.str r0 r1
    refine ⟨ot, _, _, _, rfl, rfl, SqT.of M6.lr.2.1, hat, ?_⟩
    refine ⟨by show 0 ≤ sizeLine; decide, fun ro fro => ?_⟩
    have sro := same_new (o := .lst []) fro
    have M7 := M6.same sro
    have hro7 : (upd H6 ro (.lst [])) ro = some (.lst (([] : List Str).map V.str)) := upd_same
    have nro7 : ro ≠ ps := (ne_of_none M6.pa fro).symm
    generalize upd H6 ro (.lst []) = H7 at M7 hro7 ⊢
    refine ⟨_, rfl, h, 799999997, 49, rfl, M7.held.weak (by decide), by decide, by decide, fun m3 H8 a3 b3 held8 k8 => ?_⟩
    obtain ⟨k3, rfl⟩ : ∃ k3 : Nat, m3 = k3 := ⟨m3.toNat, by omega⟩
    have M8 := M7.kept k8 held8
    have hro8 := kp_lst (ps := ps) k8 M7.held _ _ hro7 nro7
    refine ⟨_, _, rfl, rfl, _, rfl, by omega, by omega, ?_⟩
    have ek3 : (12 + (k3 : Int)).toNat = 12 + k3 := by omega
    rw [ek3]
    refine for_range (n := 12 + k3) (fun i σ H' => ∃ (v7 v8 v9 v10 v11 v12 v13 v14 : Option V) (hd kp ro : Addr) (c : Str → Int) (past : List V) (ys : List Str), σ = [some (.ref a), some (.ref h), some (.ref ot), some (.ref tu), some (.bl fw), some (.str hero), some (.ref ro), v7, v8, v9, v10, v11, v12, v13, v14] ∧
      M2 K CT h tu rt ot hd kp ps xs 0 c past (500000000 - 100 * i) H' ∧ past.length = i ∧ Iv (gG 0) (gW 0) xs c ∧ Ro xs ys c ∧ H' ro = some (.lst (ys.map V.str)) ∧ ro ≠ ps)
      ⟨_, _, _, _, _, _, _, _, hd, kp, ro, _, [], [], rfl, M8.weak (by omega), rfl, Iv.init (by decide) (by decide), ⟨List.nodup_nil, (fun y hy => by cases hy), Iv.init (by decide) (by decide), fun _ _ _ => rfl⟩, hro8, nro7⟩ ?_ ?_
    · rintro i σ Hd hi ⟨v7, v8, v9, v10, v11, v12, v13, v14, hd, kp, ro, c, past, ys, rfl, Md, pl, iv, rod, hro, nro⟩
      refine ⟨_, rfl, _, rfl, h, ot, 500000000 - 100 * i - 20, xs, rfl, Md.held.weak (by omega), Md.lr.2.1, ox.ne, ox.nd, by omega, fun o R He helde ke fo hR dyo => ?_⟩
      have Me := Md.kept ke helde
      have hroe := kp_lst (ps := ps) ke Md.held _ _ hro nro
      have day : Day1 He ps xs o := ⟨R, hR, dyo, (ne_of_none Md.pa fo).symm⟩
      refine ⟨fun σ' H' => ∃ rd : Addr, σ' = [some (.ref a), some (.ref h), some (.ref ot), some (.ref tu), some (.bl fw), some (.str hero), some (.ref ro), some (.int (0 + i)), some (.ref rd), v9, v10, v11, v12, v13, v14] ∧
        M2 K CT h tu rt ot hd kp ps xs 0 c past (500000000 - 100 * i - 23) H' ∧ Day1 H' ps xs rd ∧ H' ro = some (.lst (ys.map V.str)), ?_, ?_⟩
      · refine ⟨_, rfl, fw, rfl, ite2 (fun hf => ?_) (fun _ => iteF ⟨o, rfl, Me.weak (by omega), day, hroe⟩)⟩
        refine ⟨_, rfl, h, 500000000 - 100 * i - 21, 3, rfl, Me.held.weak (by omega), by decide, by decide, fun r2 Hf c2 d2 heldf kf => ⟨_, _, rfl, rfl, _, rfl, ?_⟩⟩
        have Mf := Me.kept kf heldf
        have dayf := day.keep (kp_lst kf Me.held)
        have hrof := kp_lst (ps := ps) kf Me.held _ _ hroe nro
        refine ite2 (fun _ => ?_) (fun _ => ⟨o, rfl, Mf.weak (by omega), dayf, hrof⟩)
        obtain ⟨dx2, htu2⟩ := id Mf.tr
        refine ⟨_, rfl, _, rfl, _, rfl, tu, dx2, _, rfl, htu2, tr_no _ _ _ _ (by decide +kernel) (by decide +kernel) (by decide +kernel) (by decide +kernel), tu, rt, ot, hd, kp, ps, xs, 0, c, rfl, Mf.tr, Mf.lr, Mf.ch, fun SD Hg kvs sg fSD hSD hval => ?_⟩
        have Mg := Mf.same sg
        have std : Std C Hg SD xs := ⟨kvs, hSD, fun x hx => by
          obtain ⟨p, e1, e2⟩ := hval x hx
          have one := iv.one ox.nd hx
          have sm := small (n := (xs.length : Int)) (by decide) (by decide) (by omega) (by omega) one.1 one.2
          exact ⟨p, _, e1, e2, sml_crd sm.1 sm.2⟩⟩
        refine ⟨_, rfl, h, ot, SD, 500000000 - 100 * i - 23, xs, hero, rfl, Mg.held.weak (by omega), Mg.lr.2.1, ox.nd, hfw hf, by omega, hhero, std, fun o2 R2 Hh heldh kh fo2 hR2 dy2 => ?_⟩
        exact ⟨o2, rfl, Mg.kept kh heldh, ⟨R2, hR2, dy2, (ne_of_none Mg.pa fo2).symm⟩, kp_lst (ps := ps) kh Mg.held _ _ (sg _ _ hrof) nro⟩
      rintro σ' Hf ⟨rd, rfl, Mf, ⟨R2, hrd, dy, nrp⟩, hrof⟩
      -- the ride
      obtain ⟨dx2, htu2⟩ := id Mf.tr
      refine ⟨_, rfl, tu, dx2, _, rfl, htu2, tr_no _ _ _ _ (by decide +kernel) (by decide +kernel) (by decide +kernel) (by decide +kernel), _, rfl, tu, rd, rt, ot, hd, kp, ps, xs, R2, 0, c, past, rfl, Mf.tr, Mf.lr, Mf.ch, Mf.ck, hrd, dy, Mf.tb, Mf.pa, by omega, nrp, fun Hh hd' kp' y kT tb1 drv tr1 ch1 ck1 pa1 => ?_⟩
      have Mh := Mf.ride kT tb1 tr1 ch1 ck1 pa1
      have lk : ∀ b zs, Hf b = some (.lst zs) → b ≠ ps → Hh b = some (.lst zs) := fun b zs e nb => kT b _ e (fun _ z => by cases z) (fun z => by rw [z, htu2] at e; cases e) nb
      have hroh := lk _ _ hrof nro
      have hrdh := lk _ _ hrd nrp
      have iv' := Iv.ride (by decide) iv ox.nd l8 dy drv
      have rod' := rod.step ox.nd l8 dy drv
      -- those that rode
      refine ⟨_, rfl, _, rfl, rd, rfl, ⟨_, SqL.of hrdh⟩, fun D hD => lc_list (xs := R2.map V.str) (fun j H' => H' D = some (.lst (((R2.take j).filter fun x => !decide (x ∈ ys)).map V.str)) ∧ Same Hh H') ⟨upd_same, same_new hD⟩ (fun _ H' _ z => SqL.of (z.2 _ _ hrdh)) ?_ ?_⟩
      · rintro j x H2 hx ⟨hd2, sm⟩
        have hi' : j < R2.length := by
          have := (List.getElem?_eq_some_iff.mp hx).1
          simpa using this
        have r8 := dy.ln
        rw [List.getElem?_map] at hx
        obtain ⟨z, hz, rfl⟩ := Option.map_eq_some_iff.mp hx
        have et : R2.take (j + 1) = R2.take j ++ [z] := by rw [List.take_succ, hz]; rfl
        refine ⟨rfl, ?_⟩
        refine ⟨_, rfl, _, rfl, ro, _, rfl, .inl (SqL.of (sm _ _ hroh)), rfl, flat_strs ys, _, rfl, ?_⟩
        simp only [if_true]
        rw [inV_strs]
        refine ite2 (fun hm => ?_) (fun hm => ?_)
        · refine ⟨_, rfl, _, hd2, ?_, ?_, ?_⟩
          · rw [List.length_map]
            refine Nat.lt_of_le_of_lt (List.length_filter_le _ _) ?_
            rw [List.length_take]
            exact Nat.lt_of_lt_of_le (by omega : min j R2.length < 64) (by decide)
          · rw [upd_same, et, List.filter_append, List.map_append]
            simp only [List.filter_cons, hm, if_true, List.filter_nil, List.map_cons, List.map_nil]
          · intro a o e
            rw [upd_ne (ne_of_none e hD)]
            exact sm a o e
        · refine ⟨?_, sm⟩
          rw [et, List.filter_append]
          simp only [List.filter_cons, hm, Bool.false_eq_true, if_false, List.filter_nil, List.append_nil]
          exact hd2
      rintro H2 ⟨hd2, sm⟩
      rw [List.length_map, List.take_length] at hd2
      have ylen : ys.length ≤ 8 := Nat.le_trans (len_sub ox.nd rod.nd rod.sub) l8
      refine ⟨ro, D, _, _, rfl, rfl, sm _ _ hroh, hd2, ?_, fun ro2 fro2 => ?_⟩
      · rw [List.length_map, List.length_map]
        have := List.length_filter_le (fun x => !decide (x ∈ ys)) R2
        have r8 := dy.ln
        exact Nat.le_trans (by omega : _ ≤ 64) (by decide)
      have sr2 := same_new (o := .lst (ys.map V.str ++ (R2.filter fun x => !decide (x ∈ ys)).map V.str)) fro2
      have hro2 : (upd H2 ro2 (.lst (ys.map V.str ++ (R2.filter fun x => !decide (x ∈ ys)).map V.str))) ro2 = some (.lst ((ys ++ R2.filter fun x => !decide (x ∈ ys)).map V.str)) := by rw [upd_same, List.map_append]
      have nro2 : ro2 ≠ ps := (ne_of_none (sm _ _ Mh.pa) fro2).symm
      have Mi := Mh.same (sm.trans sr2)
      generalize upd H2 ro2 (.lst (ys.map V.str ++ (R2.filter fun x => !decide (x ∈ ys)).map V.str)) = Hi at hro2 Mi ⊢
      have rne : (ys ++ R2.filter fun x => !decide (x ∈ ys)) ≠ [] := fun z => by
        obtain ⟨w0, hw⟩ := List.exists_mem_of_ne_nil R2 dy.ne
        have hin : w0 ∈ ys ++ R2.filter (fun x => !decide (x ∈ ys)) := by
          by_cases e : w0 ∈ ys
          · exact List.mem_append_left _ e
          · exact List.mem_append_right _ (List.mem_filter.mpr ⟨hw, by simp [e]⟩)
        rw [z] at hin
        cases hin
      generalize (ys ++ R2.filter fun x => !decide (x ∈ ys)) = ys2 at rod' hro2 rne
      have wi1 := iv'.wi ox.nd l8 xpos
      have wi2 := rod'.wi ox.nd l8 rne
      -- the stands
      obtain ⟨dx3, htu3⟩ := id Mi.tr
      refine ⟨_, rfl, tu, dx3, _, rfl, htu3, tr_no _ _ _ _ (by decide +kernel) (by decide +kernel) (by decide +kernel) (by decide +kernel), tu, rt, ot, hd', kp', ps, xs, 0, _, rfl, Mi.tr, Mi.lr, Mi.ch, fun SD Hj kvs sj fSD hSD hval => ?_⟩
      have Mj := Mi.same sj
      -- the bounds
      refine ⟨_, rfl, ot, _, rfl, .inr (SqT.of Mj.lr.2.1), (xs.length : Int), 0, by rw [List.length_map]; rfl, by omega, by omega, by decide, by decide, fun t1 p1 q1 Hk sk e1 hp1 hq1 => ?_⟩
      refine ⟨_, rfl, ro2, _, rfl, .inl (SqL.of (sk _ _ (sj _ _ hro2))), (ys2.length : Int), 0, by rw [List.length_map]; rfl, wi2.1, by have := wi2.2.1; omega, by decide, by decide, fun t2 p2 q2 Hl sl e2 hp2 hq2 => ?_⟩
      refine ⟨by show 2 ≤ sizeLine; decide, fun lb flb => ?_⟩
      have slb := same_new (o := .lst [.ref t1, .ref t2]) flb
      have hlb : (upd Hl lb (.lst [.ref t1, .ref t2])) lb = some (.lst [.ref t1, .ref t2]) := upd_same
      have B1 : Bnd C (upd Hl lb (.lst [.ref t1, .ref t2])) xs.length t1 := Bnd.keep ⟨p1, q1, e1, hp1, hq1⟩ (sl.trans slb)
      have B2 : Bnd C (upd Hl lb (.lst [.ref t1, .ref t2])) ys2.length t2 := Bnd.keep ⟨p2, q2, e2, hp2, hq2⟩ slb
      have sjl := (sk.trans sl).trans slb
      have Ml := Mj.same sjl
      have hrol := sjl _ _ (sj _ _ hro2)
      generalize upd Hl lb (.lst [.ref t1, .ref t2]) = Hm at hlb B1 B2 sjl Ml hrol ⊢
      refine ⟨_, rfl, lb, rfl, ⟨_, SqL.of hlb⟩, for_list (xs := [.ref t1, .ref t2]) (fun j σ H' => ∃ v11 v12 v13 v14 : Option V, σ = [some (.ref a), some (.ref h), some (.ref ot), some (.ref tu), some (.bl fw), some (.str hero), some (.ref ro2), some (.int (0 + i)), some (.ref rd), some (.ref SD), some (.ref lb), v11, v12, v13, v14] ∧ Same Hm H')
        ⟨_, _, _, _, rfl, fun _ _ e => e⟩ (fun j σ H' _ ⟨_, _, _, _, _, z⟩ => SqL.of (z _ _ hlb)) ?_ ?_⟩
      · rintro j x σ Hn hx ⟨v11, v12, v13, v14, rfl, sn⟩
        obtain ⟨t, n, rfl, bn, wn⟩ : ∃ (t : Addr) (n : Int), x = .ref t ∧ Bnd C Hn n t ∧ Wi xs (nxt R2 y c) n := by
          match j, hx with
          | 0, e => exact ⟨t1, _, (Option.some.inj e).symm, B1.keep sn, wi1⟩
          | 1, e => exact ⟨t2, _, (Option.some.inj e).symm, B2.keep sn, wi2⟩
        obtain ⟨p, q, ht, hp, hq⟩ := bn
        refine ⟨t, _, rfl, SqT.of ht, rfl, _, _, rfl, _, _, rfl, rfl, ?_⟩
        refine ⟨_, rfl, p, _, rfl, hp, fun o1 H6 s6 f6 ho1 => ?_⟩
        refine ⟨_, rfl, q, _, rfl, hq.keep s6, fun o2 H7 s7 f7 ho2 => ?_⟩
        refine ⟨by show 2 ≤ sizeLine; decide, fun bt fbt => ?_⟩
        have sb := same_new (o := .tup [.ref o1, .ref o2]) fbt
        have hbt : (upd H7 bt (.tup [.ref o1, .ref o2])) bt = some (.tup [.ref o1, .ref o2]) := upd_same
        have hb1 := sb _ _ (s7 _ _ ho1)
        have hb2 := sb _ _ ho2
        have sm8 := sn.trans ((s6.trans s7).trans sb)
        generalize upd H7 bt (.tup [.ref o1, .ref o2]) = H8 at hbt hb1 hb2 sm8 ⊢
        have hot8 := sm8 _ _ Ml.lr.2.1
        refine ⟨_, rfl, ot, rfl, ⟨_, SqT.of hot8⟩, fun E2 hE2 => lc_tup (fun j H' => H' E2 = some (.lst []) ∧ Same H8 H') ⟨upd_same, same_new hE2⟩ (fun _ H' _ z => SqT.of (z.2 _ _ hot8)) ?_ ?_⟩
        · rintro j2 x Ho hx ⟨hej, so⟩
          rw [List.getElem?_map] at hx
          obtain ⟨z, hz, rfl⟩ := Option.map_eq_some_iff.mp hx
          have hzx := List.mem_of_getElem? hz
          obtain ⟨pz, hv1, hv2⟩ := hval z hzx
          have sjo := (sjl.trans sm8).trans so
          have dg : DGet Ho SD (.str z) (some (.ref pz)) := by
            have := DGet.k (k := Sum.inr z) (sjo _ _ hSD)
            rw [hv1] at this
            exact this
          refine ⟨rfl, ?_⟩
          refine ⟨_, rfl, _, rfl, SD, _, rfl, dg, pz, _, rfl, hv2.keep sjo, fun pt Hp sp fp hpt => ?_⟩
          obtain ⟨n1, n8, wz⟩ := wn
          have one := wz z hzx
          have sm := small (n := n) (by decide) (by decide) n1 n8 one.1 one.2
          have wi := within (n := n) (by decide : (0 : Int) ≤ 0) n1 one.1 one.2
          obtain ⟨z1, z2, z3, z4⟩ := sml_crd sm.1 sm.2
          have sop := so.trans sp
          refine ⟨_, rfl, pt, bt, o1, o2, _, _, _, rfl, hpt, sop _ _ hbt, sop _ _ hb1, sop _ _ hb2, z1, z2, z3, z4, wi.1, wi.2, true, rfl, iteF ⟨sp _ _ hej, sop⟩⟩
        · rintro Ho ⟨hej, so⟩
          refine ⟨by show 0 ≤ sizeLine; decide, fun e fe => ?_⟩
          have se := same_new (o := .lst []) fe
          refine ⟨.list [], .list [], Dp.lst (SqL.of (se _ _ hej)) .nil, Dp.lst (SqL.of upd_same) .nil, by decide, by decide, _, rfl, ?_⟩
          have z : (!PyData.eqv (.list []) (.list [])) = false := by simp [PyData.eqv, PyData.eqvAll]
          rw [z]
          exact iteF ⟨_, _, _, _, rfl, sm8.trans (so.trans se)⟩
      · rintro σ Hn ⟨v11, v12, v13, v14, rfl, sn⟩
        exact ⟨_, _, _, _, _, _, _, _, hd', kp', ro2, _, _, ys2, rfl, (Ml.same sn).weak (by omega), by simp [pl], iv', rod', sn _ _ hrol, nro2⟩
    · rintro σ Hd ⟨v7, v8, v9, v10, v11, v12, v13, v14, hd, kp, ro, c, past, ys, rfl, _⟩
      exact hQ Hd
end
end K35
set_option Elab.async false
set_option linter.all false
set_option maxRecDepth 100000
set_option maxHeartbeats 0
namespace K35
open PySem PySem.Spec PyProof.Rows L2
open C8 (Cal Mak Met pe_c pe_mk pe_mt pe_mt0)
def fa : List He.Fa := [.glo "is_whole", .glo "is_between", .glo "is_name", .glo "is_order", .glo "is_rule", .glo "common_part", .glo "never_beyond", .glo "names_of", .glo "first_memory", .glo "least_driver", .glo "driver_by", .glo "parts_behind", .glo "memory_behind", .glo "_law_held", .glo "_law_draw", .glo "_law_names", .glo "_law_pair", .glo "_law_day", .glo "_law_in_bound", .glo "_law_far", .glo "law", .free "isinstance", .free "int", .free "bool", .free "abs", .free "list", .free "range", .free "len", .free "str", .free "all", .free "tuple", .free "set", .free "zip", .free "min", .free "enumerate", .glo "Share", .cls "Share", .mkr "Share", .glo "Turns", .cls "Turns", .mkr "Turns", .noat "Share" "top", .noat "Share" "bottom", .noat "Turns" "rule", .noat "Turns" "held", .noat "Turns" "kept", .noat "Turns" "past", .meth "Share" "plus", .meth "Share" "times", .meth "Share" "over", .meth "Turns" "check_riders", .meth "Turns" "who", .meth "Turns" "ride", .meth "Turns" "stands", .int "LONGEST_NAME" 8, .int "MOST_NAMES" 8, .int "MOST_GRAIN" 1000, .int "RIDE_PARTS" 840]
def xk (K : PySem.W.Frag) : Bool := (fun K => GX.isB K (He.ga K "Share")) K
abbrev R : PySem.W.OpenRow := PySem.W.OpenLaw.row PySem.Challenge.rw_rideturns_k35_whole_nobody_beyond_by_the
def tf : List He.Defn := [("least_driver", none)]
abbrev hk : PySem.W.Hook := He.hookX 6 fa fn [] tf xk
def ob (s : PySem.W.SharedT) : He.AlX := He.obsX 6 fa fn [] tf xk (HandSHeadRun.getT s)
theorem ob_eq (s : PySem.W.SharedT) : ob s = hk.obs s.abs := He.obsX_eq (HandSHeadRun.getT_eq s)
abbrev loose : List Str := [("_wall" : Str), ("NoKind" : Str), ("Nought" : Str), ("NoName" : Str), ("NoRule" : Str), ("LONGEST_NAME" : Str), ("is_whole" : Str), ("is_between" : Str), ("is_name" : Str), ("MOST_NAMES" : Str), ("MOST_GRAIN" : Str), ("is_order" : Str), ("is_rule" : Str), ("common_part" : Str), ("Share" : Str), ("never_beyond" : Str), ("RIDE_PARTS" : Str), ("names_of" : Str), ("first_memory" : Str), ("least_driver" : Str), ("driver_by" : Str), ("parts_behind" : Str), ("line_behind" : Str), ("rounds_behind" : Str), ("memory_behind" : Str), ("Turns" : Str), ("_law_held" : Str), ("_law_draw" : Str), ("_law_names" : Str), ("_law_pair" : Str), ("_law_day" : Str), ("_law_in_bound" : Str), ("_law_far" : Str)]
theorem run_ (w : World) : HandSHeadRun.RunEq R (PySem.W.view R.prog [40]) hk ob 3000 loose w := by
  intro os
  kernel_rfl
theorem cal_of {P : Program} {w : World} {K : PySem.W.Frag} {mg : Str → Option Value} {base : Heap} {f : Addr} {fd : FuncData} {ps : List Str} {k : Nat} {x : Str} {sp : Sp} (F : FnOk P w K mg base CX0 k f fd ps sp) (g : mg x = some (.ref f)) (kp : PySem.W.keepIn K (.ref f) = true) (b : Binds K fd ps []) : Cal P w K mg base k x sp [] :=
  ⟨f, fd, ps, [], F, g, kp, b, .nil⟩
theorem met_of {P : Program} {w : World} {K : PySem.W.Frag} {mg : Str → Option Value} {base : Heap} {f C : Addr} {fd : FuncData} {ps : List Str} {k : Nat} {m : Str} {sp : Sp} (c : Cls K C) (h : Meth K C m f) (F : FnOk P w K mg base CX0 k f fd ps sp) (b : Binds K fd ps []) : Met P w K mg base k C m sp [] :=
  ⟨f, fd, ps, [], c, h, F, b, .nil⟩
theorem facts {P : Program} {w : World} {K : PySem.W.Frag} {h h0 : Heap} {mg : Str → Option Value} {f : Addr} (X : K.In h) (G : h.Ns mainGlobals mg) (hfa : mg ("law" : Str) = some (.ref f)) (c : He.SaysX fa fn [] tf xk w h0 K) :
    ∃ fd : FuncData, (∀ (s : Shared) (v : Value), BindsTo s fd ⟨[v], []⟩ [("_law_script", v)]) ∧ ∀ base : Heap, K.In base → base.Ns mainGlobals mg → LamX.TabB base mg (He.cT K ("least_driver", none)).1 (He.cT K ("least_driver", none)).2 → FnOk P w K mg base CX0 7 f fd ["_law_script"] (spLaw K) := by
  have d := c.t.d
  have x := c.more
  have gl : ∀ (i : Nat) (x : Str), fa[i]? = some (.glo x) → mg x = some (.ref (He.ga K x)) := fun i x e => He.glo_ok X G (d.fact i e)
  have fr : ∀ (i : Nat) (x : Str), fa[i]? = some (.free x) → mg x = none := fun i x e => He.free_ok X G (d.fact i e)
  have me : ∀ (i : Nat) (C m : Str), fa[i]? = some (.meth C m) → Meth K (He.ga K C) m (He.ma K (He.ga K C) m) := fun i C m e => He.meth_ok (d.fact i e)
  have gl_is_whole := gl 0 "is_whole" rfl
  have gl_is_between := gl 1 "is_between" rfl
  have gl_is_name := gl 2 "is_name" rfl
  have gl_is_order := gl 3 "is_order" rfl
  have gl_is_rule := gl 4 "is_rule" rfl
  have gl_common_part := gl 5 "common_part" rfl
  have gl_never_beyond := gl 6 "never_beyond" rfl
  have gl_names_of := gl 7 "names_of" rfl
  have gl_first_memory := gl 8 "first_memory" rfl
  have gl_least_driver := gl 9 "least_driver" rfl
  have gl_driver_by := gl 10 "driver_by" rfl
  have gl_parts_behind := gl 11 "parts_behind" rfl
  have gl_memory_behind := gl 12 "memory_behind" rfl
  have gl__law_held := gl 13 "_law_held" rfl
  have gl__law_draw := gl 14 "_law_draw" rfl
  have gl__law_names := gl 15 "_law_names" rfl
  have gl__law_pair := gl 16 "_law_pair" rfl
  have gl__law_day := gl 17 "_law_day" rfl
  have gl__law_in_bound := gl 18 "_law_in_bound" rfl
  have gl__law_far := gl 19 "_law_far" rfl
  have gl_law := gl 20 "law" rfl
  have fr_isinstance := fr 21 "isinstance" rfl
  have fr_int := fr 22 "int" rfl
  have fr_bool := fr 23 "bool" rfl
  have fr_abs := fr 24 "abs" rfl
  have fr_list := fr 25 "list" rfl
  have fr_range := fr 26 "range" rfl
  have fr_len := fr 27 "len" rfl
  have fr_str := fr 28 "str" rfl
  have fr_all := fr 29 "all" rfl
  have fr_tuple := fr 30 "tuple" rfl
  have fr_set := fr 31 "set" rfl
  have fr_zip := fr 32 "zip" rfl
  have fr_min := fr 33 "min" rfl
  have fr_enumerate := fr 34 "enumerate" rfl
  have gl_Share := gl 35 "Share" rfl
  have cls_Share := He.cls_ok (d.fact 36 (f := .cls "Share") rfl)
  have mk_Share := He.mkr_ok (d.fact 37 (f := .mkr "Share") rfl)
  have gl_Turns := gl 38 "Turns" rfl
  have cls_Turns := He.cls_ok (d.fact 39 (f := .cls "Turns") rfl)
  have mk_Turns := He.mkr_ok (d.fact 40 (f := .mkr "Turns") rfl)
  have no_Share_top := He.noat_ok (d.fact 41 (f := .noat "Share" "top") rfl)
  have no_Share_bottom := He.noat_ok (d.fact 42 (f := .noat "Share" "bottom") rfl)
  have no_Turns_rule := He.noat_ok (d.fact 43 (f := .noat "Turns" "rule") rfl)
  have no_Turns_held := He.noat_ok (d.fact 44 (f := .noat "Turns" "held") rfl)
  have no_Turns_kept := He.noat_ok (d.fact 45 (f := .noat "Turns" "kept") rfl)
  have no_Turns_past := He.noat_ok (d.fact 46 (f := .noat "Turns" "past") rfl)
  have me_Share_plus := me 47 "Share" "plus" rfl
  have me_Share_times := me 48 "Share" "times" rfl
  have me_Share_over := me 49 "Share" "over" rfl
  have me_Turns_check_riders := me 50 "Turns" "check_riders" rfl
  have me_Turns_who := me 51 "Turns" "who" rfl
  have me_Turns_ride := me 52 "Turns" "ride" rfl
  have me_Turns_stands := me 53 "Turns" "stands" rfl
  have val_LONGEST_NAME := He.int_ok X G (d.fact 54 (f := .int "LONGEST_NAME" 8) rfl)
  have val_MOST_NAMES := He.int_ok X G (d.fact 55 (f := .int "MOST_NAMES" 8) rfl)
  have val_MOST_GRAIN := He.int_ok X G (d.fact 56 (f := .int "MOST_GRAIN" 1000) rfl)
  have val_RIDE_PARTS := He.int_ok X G (d.fact 57 (f := .int "RIDE_PARTS" 840) rfl)
  obtain ⟨fd_is_whole, D_is_whole⟩ := d.def_ 5 (d := d_is_whole) rfl
  obtain ⟨fd_is_between, D_is_between⟩ := d.def_ 6 (d := d_is_between) rfl
  obtain ⟨fd_is_name, D_is_name⟩ := d.def_ 7 (d := d_is_name) rfl
  obtain ⟨fd_is_order, D_is_order⟩ := d.def_ 8 (d := d_is_order) rfl
  obtain ⟨fd_is_rule, D_is_rule⟩ := d.def_ 9 (d := d_is_rule) rfl
  obtain ⟨fd_common_part, D_common_part⟩ := d.def_ 10 (d := d_common_part) rfl
  obtain ⟨fd_Share_init, D_Share_init⟩ := d.def_ 11 (d := d_Share_init) rfl
  obtain ⟨fd_Share_plus, D_Share_plus⟩ := d.def_ 15 (d := d_Share_plus) rfl
  obtain ⟨fd_Share_times, D_Share_times⟩ := d.def_ 17 (d := d_Share_times) rfl
  obtain ⟨fd_Share_over, D_Share_over⟩ := d.def_ 18 (d := d_Share_over) rfl
  obtain ⟨fd_never_beyond, D_never_beyond⟩ := d.def_ 21 (d := d_never_beyond) rfl
  obtain ⟨fd_names_of, D_names_of⟩ := d.def_ 22 (d := d_names_of) rfl
  obtain ⟨fd_first_memory, D_first_memory⟩ := d.def_ 23 (d := d_first_memory) rfl
  obtain ⟨fd_least_driver, D_least_driver⟩ := d.def_ 24 (d := d_least_driver) rfl
  obtain ⟨fd_driver_by, D_driver_by⟩ := d.def_ 25 (d := d_driver_by) rfl
  obtain ⟨fd_parts_behind, D_parts_behind⟩ := d.def_ 26 (d := d_parts_behind) rfl
  obtain ⟨fd_memory_behind, D_memory_behind⟩ := d.def_ 29 (d := d_memory_behind) rfl
  obtain ⟨fd_Turns_init, D_Turns_init⟩ := d.def_ 30 (d := d_Turns_init) rfl
  obtain ⟨fd_Turns_check_riders, D_Turns_check_riders⟩ := d.def_ 33 (d := d_Turns_check_riders) rfl
  obtain ⟨fd_Turns_who, D_Turns_who⟩ := d.def_ 34 (d := d_Turns_who) rfl
  obtain ⟨fd_Turns_ride, D_Turns_ride⟩ := d.def_ 35 (d := d_Turns_ride) rfl
  obtain ⟨fd_Turns_stands, D_Turns_stands⟩ := d.def_ 36 (d := d_Turns_stands) rfl
  obtain ⟨fd_l_held, D_l_held⟩ := d.def_ 39 (d := d_l_held) rfl
  obtain ⟨fd_l_draw, D_l_draw⟩ := d.def_ 40 (d := d_l_draw) rfl
  obtain ⟨fd_l_names, D_l_names⟩ := d.def_ 41 (d := d_l_names) rfl
  obtain ⟨fd_l_pair, D_l_pair⟩ := d.def_ 42 (d := d_l_pair) rfl
  obtain ⟨fd_l_day, D_l_day⟩ := d.def_ 43 (d := d_l_day) rfl
  obtain ⟨fd_l_in_bound, D_l_in_bound⟩ := d.def_ 44 (d := d_l_in_bound) rfl
  obtain ⟨fd_l_far, D_l_far⟩ := d.def_ 45 (d := d_l_far) rfl
  obtain ⟨fd_law, D_law⟩ := d.def_ 46 (d := d_law) rfl
  have e := hfa.symm.trans gl_law
  cases e
  have bL := FunD.bindsA (ps := ["_law_script"]) D_law fun _ _ _ _ _ _ us hl => match us, hl with | [_], _ => rfl
  refine ⟨fd_law, fun s v => bL s [v] rfl, fun base _ _ TB => ?_⟩
  have b_is_whole : Binds K fd_is_whole ["thing"] [] := D_is_whole.bindsN fun _ _ _ _ _ _ us hl => match us, hl with | [_], _ => rfl
  have b_is_between : Binds K fd_is_between ["thing", "low", "high"] [] := D_is_between.bindsN fun _ _ _ _ _ _ us hl => match us, hl with | [_, _, _], _ => rfl
  have b_is_name : Binds K fd_is_name ["thing"] [] := D_is_name.bindsN fun _ _ _ _ _ _ us hl => match us, hl with | [_], _ => rfl
  have b_is_order : Binds K fd_is_order ["thing"] [] := D_is_order.bindsN fun _ _ _ _ _ _ us hl => match us, hl with | [_], _ => rfl
  have b_is_rule : Binds K fd_is_rule ["thing"] [] := D_is_rule.bindsN fun _ _ _ _ _ _ us hl => match us, hl with | [_], _ => rfl
  have b_common_part : Binds K fd_common_part ["one", "other"] [] := D_common_part.bindsN fun _ _ _ _ _ _ us hl => match us, hl with | [_, _], _ => rfl
  have b_Share_init : Binds K fd_Share_init ["self", "top", "bottom"] [] := by
    obtain ⟨ds, h1, h2⟩ := D_Share_init.binds1 (ps := ["self", "top", "bottom"]) 3 1 (List.cons_ne_nil _ _) rfl (fun T kV doc pm an cdv ct us its hl h1 => match us, hl, its, h1 with | [_, _, _], _, [_], _ => ⟨_, rfl, rfl⟩)
    cases h1
    exact h2
  obtain ⟨ds1_Share_init, v1_Share_init, b1_Share_init⟩ := D_Share_init.binds1 (ps := ["self", "top", "bottom"]) 2 0 (List.cons_ne_nil _ _) rfl (fun T kV doc pm an cdv ct us its hl h1 => match us, hl, its, h1 with | [_, _], _, [_], _ => ⟨_, rfl, rfl⟩)
  have b_Share_plus : Binds K fd_Share_plus ["self", "other"] [] := D_Share_plus.bindsN fun _ _ _ _ _ _ us hl => match us, hl with | [_, _], _ => rfl
  have b_Share_times : Binds K fd_Share_times ["self", "many"] [] := D_Share_times.bindsN fun _ _ _ _ _ _ us hl => match us, hl with | [_, _], _ => rfl
  have b_Share_over : Binds K fd_Share_over ["self", "many"] [] := D_Share_over.bindsN fun _ _ _ _ _ _ us hl => match us, hl with | [_, _], _ => rfl
  have b_never_beyond : Binds K fd_never_beyond ["many", "grain"] [] := by
    obtain ⟨ds, h1, h2⟩ := D_never_beyond.binds1 (ps := ["many", "grain"]) 2 1 (List.cons_ne_nil _ _) rfl (fun T kV doc pm an cdv ct us its hl h1 => match us, hl, its, h1 with | [_, _], _, [_], _ => ⟨_, rfl, rfl⟩)
    cases h1
    exact h2
  obtain ⟨ds1_never_beyond, v1_never_beyond, b1_never_beyond⟩ := D_never_beyond.binds1 (ps := ["many", "grain"]) 1 0 (List.cons_ne_nil _ _) rfl (fun T kV doc pm an cdv ct us its hl h1 => match us, hl, its, h1 with | [_], _, [_], _ => ⟨_, rfl, rfl⟩)
  have b_names_of : Binds K fd_names_of ["order", "riders"] [] := D_names_of.bindsN fun _ _ _ _ _ _ us hl => match us, hl with | [_, _], _ => rfl
  have b_first_memory : Binds K fd_first_memory ["rule"] [] := D_first_memory.bindsN fun _ _ _ _ _ _ us hl => match us, hl with | [_], _ => rfl
  have b_least_driver : Binds K fd_least_driver ["rule", "held", "names"] [] := D_least_driver.bindsN fun _ _ _ _ _ _ us hl => match us, hl with | [_, _, _], _ => rfl
  have b_driver_by : Binds K fd_driver_by ["rule", "memory", "riders"] [] := D_driver_by.bindsN fun _ _ _ _ _ _ us hl => match us, hl with | [_, _, _], _ => rfl
  have b_parts_behind : Binds K fd_parts_behind ["order", "held", "riders", "driver"] [] := D_parts_behind.bindsN fun _ _ _ _ _ _ us hl => match us, hl with | [_, _, _, _], _ => rfl
  have b_memory_behind : Binds K fd_memory_behind ["rule", "memory", "riders"] [] := D_memory_behind.bindsN fun _ _ _ _ _ _ us hl => match us, hl with | [_, _, _], _ => rfl
  have b_Turns_init : Binds K fd_Turns_init ["self", "rule"] [] := D_Turns_init.bindsN fun _ _ _ _ _ _ us hl => match us, hl with | [_, _], _ => rfl
  have b_Turns_check_riders : Binds K fd_Turns_check_riders ["self", "riders"] [] := D_Turns_check_riders.bindsN fun _ _ _ _ _ _ us hl => match us, hl with | [_, _], _ => rfl
  have b_Turns_who : Binds K fd_Turns_who ["self", "riders"] [] := D_Turns_who.bindsN fun _ _ _ _ _ _ us hl => match us, hl with | [_, _], _ => rfl
  have b_Turns_ride : Binds K fd_Turns_ride ["self", "riders"] [] := D_Turns_ride.bindsN fun _ _ _ _ _ _ us hl => match us, hl with | [_, _], _ => rfl
  have b_Turns_stands : Binds K fd_Turns_stands ["self"] [] := D_Turns_stands.bindsN fun _ _ _ _ _ _ us hl => match us, hl with | [_], _ => rfl
  have b_l_held : Binds K fd_l_held ["_law_script"] [] := D_l_held.bindsN fun _ _ _ _ _ _ us hl => match us, hl with | [_], _ => rfl
  have b_l_draw : Binds K fd_l_draw ["_law_held_here", "_law_many"] [] := D_l_draw.bindsN fun _ _ _ _ _ _ us hl => match us, hl with | [_, _], _ => rfl
  have b_l_names : Binds K fd_l_names ["_law_held_here", "_law_many"] [] := D_l_names.bindsN fun _ _ _ _ _ _ us hl => match us, hl with | [_, _], _ => rfl
  have b_l_pair : Binds K fd_l_pair ["_law_share"] [] := D_l_pair.bindsN fun _ _ _ _ _ _ us hl => match us, hl with | [_], _ => rfl
  have b_l_day : Binds K fd_l_day ["_law_held_here", "_law_order"] [] := D_l_day.bindsN fun _ _ _ _ _ _ us hl => match us, hl with | [_, _], _ => rfl
  have b_l_in_bound : Binds K fd_l_in_bound ["_law_pair_here", "_law_bound"] [] := D_l_in_bound.bindsN fun _ _ _ _ _ _ us hl => match us, hl with | [_, _], _ => rfl
  have b_l_far : Binds K fd_l_far ["_law_held_here", "_law_order", "_law_stands", "_law_hero"] [] := D_l_far.bindsN fun _ _ _ _ _ _ us hl => match us, hl with | [_, _, _, _], _ => rfl
  have b_law : Binds K fd_law ["_law_script"] [] := D_law.bindsN fun _ _ _ _ _ _ us hl => match us, hl with | [_], _ => rfl
  unfold xk GX.isB at x
  simp only [Bool.and_eq_true, decide_eq_true_eq] at x
  obtain ⟨y1, y2, y3, y4⟩ := x
  have IC : IsC K (He.ga K "Share") := ⟨He.eqO_ok y1, He.eqO_ok y2, y3, y4, by unfold PySem.W.kitOne; rw [if_pos (beq_self_eq_true _)]⟩
  have B : Bl mg := ⟨fr_isinstance, fr_int, fr_bool, fr_abs, fr_list, fr_range, fr_len⟩
  have B2 : Bl2 mg := ⟨fr_str, fr_all, fr_tuple, fr_set, fr_zip, fr_min, fr_enumerate⟩
  have T : Cl K mg (He.ga K "Share") := ⟨cls_Share, no_Share_top, no_Share_bottom, gl_Share⟩
  have TT : ClT K (He.ga K "Turns") := ⟨cls_Turns, no_Turns_rule, no_Turns_held, no_Turns_kept, no_Turns_past⟩
  have cW : CalW P w K mg base := cal_of (ok_whole D_is_whole B) gl_is_whole D_is_whole.kp b_is_whole
  have cBt : CalB P w K mg base := cal_of (ok_between D_is_between cW) gl_is_between D_is_between.kp b_is_between
  have cNa : CalN P w K mg base := cal_of (ok_name D_is_name B B2 val_LONGEST_NAME) gl_is_name D_is_name.kp b_is_name
  have cOr := cal_of (ok_order D_is_order B B2 val_MOST_NAMES cNa) gl_is_order D_is_order.kp b_is_order
  have cRu := cal_of (ok_rule D_is_rule B B2 val_MOST_GRAIN cOr cBt) gl_is_rule D_is_rule.kp b_is_rule
  have cG : CalG P w K mg base := cal_of (ok_gcd D_common_part B) gl_common_part D_common_part.kp b_common_part
  have MS : MakS P w K mg base (He.ga K "Share") := ⟨_, _, _, _, mk_Share, ok_init D_Share_init cW cG T, T.g, b_Share_init, .nil⟩
  have M1 : MakS1 P w K mg base (He.ga K "Share") := ⟨_, _, _, _, mk_Share, ok_init D_Share_init cW cG T, T.g, b1_Share_init, v1_Share_init⟩
  have M : Ms P w K mg base (He.ga K "Share") := ⟨met_of T.cl me_Share_plus ((ok_plus D_Share_plus MS T).imp fun _ _ _ _ => plusR) b_Share_plus,
    met_of T.cl me_Share_times ((ok_times D_Share_times MS T).imp fun _ _ _ _ => timesR) b_Share_times, met_of T.cl me_Share_over ((ok_over D_Share_over MS T).imp fun _ _ _ _ => overR) b_Share_over⟩
  have FN := ok_nb (P := P) (w := w) (base := base) D_never_beyond B MS M1 M
  have c1 : Cal P w K mg base 5 "never_beyond" (spNB (He.ga K "Share")) [.int 0] := ⟨_, _, _, _, FN, gl_never_beyond, D_never_beyond.kp, b1_never_beyond, v1_never_beyond⟩
  have cNo := cal_of (P := P) (w := w) (base := base) (ok_no D_names_of B2) gl_names_of D_names_of.kp b_names_of
  have cFm := cal_of (P := P) (w := w) (base := base) (ok_fm D_first_memory B2) gl_first_memory D_first_memory.kp b_first_memory
  have cLd := cal_of (P := P) (w := w) (base := base) (ok_ld D_least_driver B2 val_RIDE_PARTS TB) gl_least_driver D_least_driver.kp b_least_driver
  have cDb := cal_of (ok_db D_driver_by cNo cLd) gl_driver_by D_driver_by.kp b_driver_by
  have cPb := cal_of (P := P) (w := w) (base := base) (ok_pb D_parts_behind B B2 val_RIDE_PARTS) gl_parts_behind D_parts_behind.kp b_parts_behind
  have cMb := cal_of (ok_mb D_memory_behind cDb cPb) gl_memory_behind D_memory_behind.kp b_memory_behind
  have MT : Mak P w K mg base 4 "Turns" (He.ga K "Turns") (spTi (He.ga K "Turns")) [] := ⟨_, _, _, _, mk_Turns, ok_ti D_Turns_init B2 TT cRu cFm, gl_Turns, b_Turns_init, .nil⟩
  have mC := met_of (P := P) (w := w) (base := base) TT.cl me_Turns_check_riders (ok_ck D_Turns_check_riders B B2 TT) b_Turns_check_riders
  have mW := met_of TT.cl me_Turns_who (ok_who D_Turns_who TT mC cDb) b_Turns_who
  have mR := met_of TT.cl me_Turns_ride (ok_ride D_Turns_ride TT mW cPb cMb) b_Turns_ride
  have mS := met_of TT.cl me_Turns_stands (ok_st D_Turns_stands B2 TT val_RIDE_PARTS MS) b_Turns_stands
  have cH := cal_of (P := P) (w := w) (base := base) (ok_held D_l_held B) gl__law_held D_l_held.kp b_l_held
  have cD : CalD P w K mg base := cal_of (ok_draw D_l_draw B) gl__law_draw D_l_draw.kp b_l_draw
  have cNm := cal_of (ok_names D_l_names B cD) gl__law_names D_l_names.kp b_l_names
  have cP := cal_of (P := P) (w := w) (base := base) (ok_pair D_l_pair B T IC) gl__law_pair D_l_pair.kp b_l_pair
  have cDy := cal_of (ok_day D_l_day B fr_min cD) gl__law_day D_l_day.kp b_l_day
  have cI := cal_of (P := P) (w := w) (base := base) (ok_ib D_l_in_bound) gl__law_in_bound D_l_in_bound.kp b_l_in_bound
  have cF := cal_of (ok_far D_l_far B cD cP) gl__law_far D_l_far.kp b_l_far
  exact ok_law D_law B B2 cH cD cNm cP cDy cI cF MT mR mS c1
end K35
open PySem PySem.W PySem.Calls PyProof.Rows
set_option maxRecDepth 100000 in
set_option maxHeartbeats 0 in
theorem PySem.Challenge.cw_rideturns_k35_whole_nobody_beyond_by_the_holds : PySem.Challenge.rw_rideturns_k35_whole_nobody_beyond_by_the.Holds := by
  w_on; o_law
  refine HandSHeadRun.head_any (r := OpenLaw.row PySem.Challenge.rw_rideturns_k35_whole_nobody_beyond_by_the) (q := view (OpenLaw.row PySem.Challenge.rw_rideturns_k35_whole_nobody_beyond_by_the).prog [40]) (H := K35.hk) (ob := K35.ob) (M := 3000) (loose := K35.loose) (d := HandSHeadRun.topDef (OpenLaw.row PySem.Challenge.rw_rideturns_k35_whole_nobody_beyond_by_the).prog 40) (kwd := []) K35.ob_eq
    (by kernel_rfl) (fun s => by kernel_rfl) K35.run_ (by kernel_rfl) (by kernel_rfl) (by kernel_rfl) (by rfl) (by first | assumption | decide +kernel) (by decide +kernel) ⟨rfl, rfl, rfl, rfl, rfl, by decide +kernel⟩ ?hw ?hc
  case hw => w_witness2
  case hc =>
    refine LamX.walk_ofTsE (l := PySem.Challenge.rw_rideturns_k35_whole_nobody_beyond_by_the) (n := 63) (k := 7) (x := "_law_script") (CX := fun _ => L2.CX0) rfl (by decide) (by kernel_rfl) ⟨rfl, by decide, by decide⟩ ?F (fun _ _ _ _ _ z => z)
    intro w mg fa h Y G hmg0
    obtain ⟨K, KX, c⟩ := Y
    have hmg : mg ("law" : PySem.Str) = some (.ref fa) := by
      have e : (HandSHeadRun.topDef (OpenLaw.row PySem.Challenge.rw_rideturns_k35_whole_nobody_beyond_by_the).prog 40).name = ("law" : PySem.Str) := by kernel_rfl
      rw [← e]
      exact hmg0
    obtain ⟨fd, hb, hF⟩ := K35.facts (P := (PySem.Challenge.rw_rideturns_k35_whole_nobody_beyond_by_the).prog) (w := w) KX G hmg c
    refine ⟨K, KX, fd, [He.cT K ("least_driver", none)], K35.spLaw K, fun p hp => ?_, fun p hp => ?_, fun p hp => ?_, hb, fun H a ns hl _ hT hS => ⟨a, ns, rfl, hS, hl, fun p hp => ?_, fun _ => rfl⟩, fun base k1 k2 TB => hF base k1 k2 (TB _ (List.mem_singleton.mpr rfl))⟩
    · rw [List.mem_singleton.mp hp]
      exact c.empty _ (List.mem_singleton.mpr rfl)
    · rw [List.mem_singleton.mp hp]
      exact c.out _ (List.mem_singleton.mpr rfl)
    · rw [List.mem_singleton.mp hp]
      exact PySem.W.codeHd_of_K KX (c.hd _ (List.mem_singleton.mpr rfl))
    · rw [List.mem_singleton.mp hp]
      exact LamX.TabS.nil (hT _ (List.mem_singleton.mpr rfl))
