import PyProof.Rows.All
import Wide.All
import OpenK.AllK
import Wide.FinOn
import HandS.ForMost
import HandS.ForExc
import HandS.Defaults
import HandS.Codes
import HandS.IsInst
import HandS.Wide
import HandS.Flow
import HandS.Evl
import HandS.Steps
import HandS.ExcField
import HandS.Head0
import HandS.Head1
import HandS.Head2
import HandS.HeadEnd
import HandS.HeadHook1
import HandS.HeadHook2
import HandS.HeadHook3
import HandS.HeadHook4
import KE.KExcInit
import HandS.ExcInit
import KE.KEqSeq
import HandS.Words
import HandS.MakeKw
import HandS.MakeKwOnly
import HandS.Style
import HandS.Comp
import HandS.Text
import HandS.More
import PyProof.StrOps2
import HandS.Strs
import HandS.Walk
import HandS.StrMore
import HandS.Zip
import HandS.List
import HandS.Call
import KE.SortCalls
import KE.SortKeyed
import HandS.DictComp
import KE.LtData
import HandS.Dict
import HandS.Iter
import HandS.Deep
import HandS.SetFor
import KE.KCallOwn
import PyProof.ReprRoads
import PyProof.ReprLen
import PySem.Challenge.RW_rideturns_k30_by_rounds
set_option Elab.async false
set_option linter.all false
set_option maxRecDepth 100000
set_option maxHeartbeats 4000000
namespace K30
open PySem PySem.Spec PyProof.Rows L2
def top (i : Nat) : Stmt := PySem.Challenge.pw_rideturns_k30_by_rounds.main.body.getD i (.Pass ⟨0, 0, 0, 0⟩)
abbrev s__wall : Stmt := top 0
abbrev N__wall : List Str := ["k"]
theorem sc__wall : FnScope N__wall ["k"] (defScope s__wall) := ⟨rfl, rfl, rfl, by decide +kernel, rfl, by decide +kernel, by decide +kernel⟩
def d__wall : He.DefD := ⟨("_wall", none), "_wall", "_wall", defArgs s__wall, defBody s__wall, defScope s__wall, [], []⟩
abbrev s_NoKind_init : Stmt := inClass (top 2) 0
abbrev N_NoKind_init : List Str := ["self", "thing"]
theorem sc_NoKind_init : FnScope N_NoKind_init ["self", "thing"] (defScope s_NoKind_init) := ⟨rfl, rfl, rfl, by decide +kernel, rfl, by decide +kernel, by decide +kernel⟩
def d_NoKind_init : He.DefD := ⟨("NoKind", some "__init__"), "__init__", "NoKind.__init__", defArgs s_NoKind_init, defBody s_NoKind_init, defScope s_NoKind_init, [], []⟩
abbrev s_Nought_init : Stmt := inClass (top 3) 0
abbrev N_Nought_init : List Str := ["self", "top"]
theorem sc_Nought_init : FnScope N_Nought_init ["self", "top"] (defScope s_Nought_init) := ⟨rfl, rfl, rfl, by decide +kernel, rfl, by decide +kernel, by decide +kernel⟩
def d_Nought_init : He.DefD := ⟨("Nought", some "__init__"), "__init__", "Nought.__init__", defArgs s_Nought_init, defBody s_Nought_init, defScope s_Nought_init, [], []⟩
abbrev s_NoName_init : Stmt := inClass (top 4) 0
abbrev N_NoName_init : List Str := ["self", "name"]
theorem sc_NoName_init : FnScope N_NoName_init ["self", "name"] (defScope s_NoName_init) := ⟨rfl, rfl, rfl, by decide +kernel, rfl, by decide +kernel, by decide +kernel⟩
def d_NoName_init : He.DefD := ⟨("NoName", some "__init__"), "__init__", "NoName.__init__", defArgs s_NoName_init, defBody s_NoName_init, defScope s_NoName_init, [], []⟩
abbrev s_NoRule_init : Stmt := inClass (top 5) 0
abbrev N_NoRule_init : List Str := ["self", "thing"]
theorem sc_NoRule_init : FnScope N_NoRule_init ["self", "thing"] (defScope s_NoRule_init) := ⟨rfl, rfl, rfl, by decide +kernel, rfl, by decide +kernel, by decide +kernel⟩
def d_NoRule_init : He.DefD := ⟨("NoRule", some "__init__"), "__init__", "NoRule.__init__", defArgs s_NoRule_init, defBody s_NoRule_init, defScope s_NoRule_init, [], []⟩
abbrev s_is_whole : Stmt := top 8
abbrev N_is_whole : List Str := ["thing"]
theorem sc_is_whole : FnScope N_is_whole ["thing"] (defScope s_is_whole) := ⟨rfl, rfl, rfl, by decide +kernel, rfl, by decide +kernel, by decide +kernel⟩
def d_is_whole : He.DefD := ⟨("is_whole", none), "is_whole", "is_whole", defArgs s_is_whole, defBody s_is_whole, defScope s_is_whole, [], []⟩
abbrev s_is_between : Stmt := top 9
abbrev N_is_between : List Str := ["thing", "low", "high"]
theorem sc_is_between : FnScope N_is_between ["thing", "low", "high"] (defScope s_is_between) := ⟨rfl, rfl, rfl, by decide +kernel, rfl, by decide +kernel, by decide +kernel⟩
def d_is_between : He.DefD := ⟨("is_between", none), "is_between", "is_between", defArgs s_is_between, defBody s_is_between, defScope s_is_between, [], []⟩
abbrev s_is_name : Stmt := top 10
abbrev N_is_name : List Str := ["thing", "sign"]
theorem sc_is_name : FnScope N_is_name ["thing"] (defScope s_is_name) := ⟨rfl, rfl, rfl, by decide +kernel, rfl, by decide +kernel, by decide +kernel⟩
def d_is_name : He.DefD := ⟨("is_name", none), "is_name", "is_name", defArgs s_is_name, defBody s_is_name, defScope s_is_name, [], []⟩
abbrev s_is_order : Stmt := top 14
abbrev N_is_order : List Str := ["thing", "name"]
theorem sc_is_order : FnScope N_is_order ["thing"] (defScope s_is_order) := ⟨rfl, rfl, rfl, by decide +kernel, rfl, by decide +kernel, by decide +kernel⟩
def d_is_order : He.DefD := ⟨("is_order", none), "is_order", "is_order", defArgs s_is_order, defBody s_is_order, defScope s_is_order, [], []⟩
abbrev s_is_rule : Stmt := top 15
abbrev N_is_rule : List Str := ["thing"]
theorem sc_is_rule : FnScope N_is_rule ["thing"] (defScope s_is_rule) := ⟨rfl, rfl, rfl, by decide +kernel, rfl, by decide +kernel, by decide +kernel⟩
def d_is_rule : He.DefD := ⟨("is_rule", none), "is_rule", "is_rule", defArgs s_is_rule, defBody s_is_rule, defScope s_is_rule, [], []⟩
abbrev s_common_part : Stmt := top 17
abbrev N_common_part : List Str := ["one", "other"]
theorem sc_common_part : FnScope N_common_part ["one", "other"] (defScope s_common_part) := ⟨rfl, rfl, rfl, by decide +kernel, rfl, by decide +kernel, by decide +kernel⟩
def d_common_part : He.DefD := ⟨("common_part", none), "common_part", "common_part", defArgs s_common_part, defBody s_common_part, defScope s_common_part, [], []⟩
abbrev s_Share_init : Stmt := inClass (top 18) 0
abbrev N_Share_init : List Str := ["self", "top", "bottom", "thing", "common"]
theorem sc_Share_init : FnScope N_Share_init ["self", "top", "bottom"] (defScope s_Share_init) := ⟨rfl, rfl, rfl, by decide +kernel, rfl, by decide +kernel, by decide +kernel⟩
def d_Share_init : He.DefD := ⟨("Share", some "__init__"), "__init__", "Share.__init__", defArgs s_Share_init, defBody s_Share_init, defScope s_Share_init, [.int 1], []⟩
abbrev s_Share_eq : Stmt := inClass (top 18) 1
abbrev N_Share_eq : List Str := ["self", "other"]
theorem sc_Share_eq : FnScope N_Share_eq ["self", "other"] (defScope s_Share_eq) := ⟨rfl, rfl, rfl, by decide +kernel, rfl, by decide +kernel, by decide +kernel⟩
def d_Share_eq : He.DefD := ⟨("Share", some "__eq__"), "__eq__", "Share.__eq__", defArgs s_Share_eq, defBody s_Share_eq, defScope s_Share_eq, [], []⟩
abbrev s_Share_str : Stmt := inClass (top 18) 2
abbrev N_Share_str : List Str := ["self"]
theorem sc_Share_str : FnScope N_Share_str ["self"] (defScope s_Share_str) := ⟨rfl, rfl, rfl, by decide +kernel, rfl, by decide +kernel, by decide +kernel⟩
def d_Share_str : He.DefD := ⟨("Share", some "__str__"), "__str__", "Share.__str__", defArgs s_Share_str, defBody s_Share_str, defScope s_Share_str, [], []⟩
abbrev s_Share_repr : Stmt := inClass (top 18) 3
abbrev N_Share_repr : List Str := ["self"]
theorem sc_Share_repr : FnScope N_Share_repr ["self"] (defScope s_Share_repr) := ⟨rfl, rfl, rfl, by decide +kernel, rfl, by decide +kernel, by decide +kernel⟩
def d_Share_repr : He.DefD := ⟨("Share", some "__repr__"), "__repr__", "Share.__repr__", defArgs s_Share_repr, defBody s_Share_repr, defScope s_Share_repr, [], []⟩
abbrev s_Share_plus : Stmt := inClass (top 18) 4
abbrev N_Share_plus : List Str := ["self", "other"]
theorem sc_Share_plus : FnScope N_Share_plus ["self", "other"] (defScope s_Share_plus) := ⟨rfl, rfl, rfl, by decide +kernel, rfl, by decide +kernel, by decide +kernel⟩
def d_Share_plus : He.DefD := ⟨("Share", some "plus"), "plus", "Share.plus", defArgs s_Share_plus, defBody s_Share_plus, defScope s_Share_plus, [], []⟩
abbrev s_Share_less : Stmt := inClass (top 18) 5
abbrev N_Share_less : List Str := ["self", "other"]
theorem sc_Share_less : FnScope N_Share_less ["self", "other"] (defScope s_Share_less) := ⟨rfl, rfl, rfl, by decide +kernel, rfl, by decide +kernel, by decide +kernel⟩
def d_Share_less : He.DefD := ⟨("Share", some "less"), "less", "Share.less", defArgs s_Share_less, defBody s_Share_less, defScope s_Share_less, [], []⟩
abbrev s_Share_times : Stmt := inClass (top 18) 6
abbrev N_Share_times : List Str := ["self", "many"]
theorem sc_Share_times : FnScope N_Share_times ["self", "many"] (defScope s_Share_times) := ⟨rfl, rfl, rfl, by decide +kernel, rfl, by decide +kernel, by decide +kernel⟩
def d_Share_times : He.DefD := ⟨("Share", some "times"), "times", "Share.times", defArgs s_Share_times, defBody s_Share_times, defScope s_Share_times, [], []⟩
abbrev s_Share_over : Stmt := inClass (top 18) 7
abbrev N_Share_over : List Str := ["self", "many"]
theorem sc_Share_over : FnScope N_Share_over ["self", "many"] (defScope s_Share_over) := ⟨rfl, rfl, rfl, by decide +kernel, rfl, by decide +kernel, by decide +kernel⟩
def d_Share_over : He.DefD := ⟨("Share", some "over"), "over", "Share.over", defArgs s_Share_over, defBody s_Share_over, defScope s_Share_over, [], []⟩
abbrev s_Share_below : Stmt := inClass (top 18) 8
abbrev N_Share_below : List Str := ["self", "other"]
theorem sc_Share_below : FnScope N_Share_below ["self", "other"] (defScope s_Share_below) := ⟨rfl, rfl, rfl, by decide +kernel, rfl, by decide +kernel, by decide +kernel⟩
def d_Share_below : He.DefD := ⟨("Share", some "below"), "below", "Share.below", defArgs s_Share_below, defBody s_Share_below, defScope s_Share_below, [], []⟩
abbrev s_Share_whole : Stmt := inClass (top 18) 9
abbrev N_Share_whole : List Str := ["self"]
theorem sc_Share_whole : FnScope N_Share_whole ["self"] (defScope s_Share_whole) := ⟨rfl, rfl, rfl, by decide +kernel, rfl, by decide +kernel, by decide +kernel⟩
def d_Share_whole : He.DefD := ⟨("Share", some "whole"), "whole", "Share.whole", defArgs s_Share_whole, defBody s_Share_whole, defScope s_Share_whole, [], []⟩
abbrev s_names_of : Stmt := top 21
abbrev N_names_of : List Str := ["order", "riders", "name"]
theorem sc_names_of : FnScope N_names_of ["order", "riders"] (defScope s_names_of) := ⟨rfl, rfl, rfl, by decide +kernel, rfl, by decide +kernel, by decide +kernel⟩
def d_names_of : He.DefD := ⟨("names_of", none), "names_of", "names_of", defArgs s_names_of, defBody s_names_of, defScope s_names_of, [], []⟩
abbrev s_first_memory : Stmt := top 22
abbrev N_first_memory : List Str := ["rule", "name"]
theorem sc_first_memory : FnScope N_first_memory ["rule"] (defScope s_first_memory) := ⟨rfl, rfl, rfl, by decide +kernel, rfl, by decide +kernel, by decide +kernel⟩
def d_first_memory : He.DefD := ⟨("first_memory", none), "first_memory", "first_memory", defArgs s_first_memory, defBody s_first_memory, defScope s_first_memory, [], []⟩
abbrev s_least_driver : Stmt := top 23
abbrev N_least_driver : List Str := ["rule", "held", "names", "grain", "name", "parts", "counts"]
theorem sc_least_driver : FnScope N_least_driver ["rule", "held", "names"] (defScope s_least_driver) := ⟨rfl, rfl, rfl, by decide +kernel, rfl, by decide +kernel, by decide +kernel⟩
def d_least_driver : He.DefD := ⟨("least_driver", none), "least_driver", "least_driver", defArgs s_least_driver, defBody s_least_driver, defScope s_least_driver, [], []⟩
abbrev s_driver_by : Stmt := top 24
abbrev N_driver_by : List Str := ["rule", "memory", "riders", "names", "gone", "same", "many"]
theorem sc_driver_by : FnScope N_driver_by ["rule", "memory", "riders"] (defScope s_driver_by) := ⟨rfl, rfl, rfl, by decide +kernel, rfl, by decide +kernel, by decide +kernel⟩
def d_driver_by : He.DefD := ⟨("driver_by", none), "driver_by", "driver_by", defArgs s_driver_by, defBody s_driver_by, defScope s_driver_by, [], []⟩
abbrev s_parts_behind : Stmt := top 25
abbrev N_parts_behind : List Str := ["order", "held", "riders", "driver", "behind", "name", "parts", "fare", "wage"]
theorem sc_parts_behind : FnScope N_parts_behind ["order", "held", "riders", "driver"] (defScope s_parts_behind) := ⟨rfl, rfl, rfl, by decide +kernel, rfl, by decide +kernel, by decide +kernel⟩
def d_parts_behind : He.DefD := ⟨("parts_behind", none), "parts_behind", "parts_behind", defArgs s_parts_behind, defBody s_parts_behind, defScope s_parts_behind, [], []⟩
abbrev s_line_behind : Stmt := top 26
abbrev N_line_behind : List Str := ["line", "riders", "driver", "name"]
theorem sc_line_behind : FnScope N_line_behind ["line", "riders", "driver"] (defScope s_line_behind) := ⟨rfl, rfl, rfl, by decide +kernel, rfl, by decide +kernel, by decide +kernel⟩
def d_line_behind : He.DefD := ⟨("line_behind", none), "line_behind", "line_behind", defArgs s_line_behind, defBody s_line_behind, defScope s_line_behind, [], []⟩
abbrev s_rounds_behind : Stmt := top 27
abbrev N_rounds_behind : List Str := ["order", "rounds", "riders", "names", "gone", "same", "many"]
theorem sc_rounds_behind : FnScope N_rounds_behind ["order", "rounds", "riders"] (defScope s_rounds_behind) := ⟨rfl, rfl, rfl, by decide +kernel, rfl, by decide +kernel, by decide +kernel⟩
def d_rounds_behind : He.DefD := ⟨("rounds_behind", none), "rounds_behind", "rounds_behind", defArgs s_rounds_behind, defBody s_rounds_behind, defScope s_rounds_behind, [], []⟩
abbrev s_memory_behind : Stmt := top 28
abbrev N_memory_behind : List Str := ["rule", "memory", "riders", "driver"]
theorem sc_memory_behind : FnScope N_memory_behind ["rule", "memory", "riders"] (defScope s_memory_behind) := ⟨rfl, rfl, rfl, by decide +kernel, rfl, by decide +kernel, by decide +kernel⟩
def d_memory_behind : He.DefD := ⟨("memory_behind", none), "memory_behind", "memory_behind", defArgs s_memory_behind, defBody s_memory_behind, defScope s_memory_behind, [], []⟩
abbrev s_Turns_init : Stmt := inClass (top 29) 0
abbrev N_Turns_init : List Str := ["self", "rule", "name"]
theorem sc_Turns_init : FnScope N_Turns_init ["self", "rule"] (defScope s_Turns_init) := ⟨rfl, rfl, rfl, by decide +kernel, rfl, by decide +kernel, by decide +kernel⟩
def d_Turns_init : He.DefD := ⟨("Turns", some "__init__"), "__init__", "Turns.__init__", defArgs s_Turns_init, defBody s_Turns_init, defScope s_Turns_init, [], []⟩
abbrev s_Turns_eq : Stmt := inClass (top 29) 1
abbrev N_Turns_eq : List Str := ["self", "other"]
theorem sc_Turns_eq : FnScope N_Turns_eq ["self", "other"] (defScope s_Turns_eq) := ⟨rfl, rfl, rfl, by decide +kernel, rfl, by decide +kernel, by decide +kernel⟩
def d_Turns_eq : He.DefD := ⟨("Turns", some "__eq__"), "__eq__", "Turns.__eq__", defArgs s_Turns_eq, defBody s_Turns_eq, defScope s_Turns_eq, [], []⟩
abbrev s_Turns_len : Stmt := inClass (top 29) 2
abbrev N_Turns_len : List Str := ["self"]
theorem sc_Turns_len : FnScope N_Turns_len ["self"] (defScope s_Turns_len) := ⟨rfl, rfl, rfl, by decide +kernel, rfl, by decide +kernel, by decide +kernel⟩
def d_Turns_len : He.DefD := ⟨("Turns", some "__len__"), "__len__", "Turns.__len__", defArgs s_Turns_len, defBody s_Turns_len, defScope s_Turns_len, [], []⟩
abbrev s_Turns_check_riders : Stmt := inClass (top 29) 3
abbrev N_Turns_check_riders : List Str := ["self", "riders", "at", "name"]
theorem sc_Turns_check_riders : FnScope N_Turns_check_riders ["self", "riders"] (defScope s_Turns_check_riders) := ⟨rfl, rfl, rfl, by decide +kernel, rfl, by decide +kernel, by decide +kernel⟩
def d_Turns_check_riders : He.DefD := ⟨("Turns", some "check_riders"), "check_riders", "Turns.check_riders", defArgs s_Turns_check_riders, defBody s_Turns_check_riders, defScope s_Turns_check_riders, [], []⟩
abbrev s_Turns_who : Stmt := inClass (top 29) 4
abbrev N_Turns_who : List Str := ["self", "riders"]
theorem sc_Turns_who : FnScope N_Turns_who ["self", "riders"] (defScope s_Turns_who) := ⟨rfl, rfl, rfl, by decide +kernel, rfl, by decide +kernel, by decide +kernel⟩
def d_Turns_who : He.DefD := ⟨("Turns", some "who"), "who", "Turns.who", defArgs s_Turns_who, defBody s_Turns_who, defScope s_Turns_who, [], []⟩
abbrev s_Turns_ride : Stmt := inClass (top 29) 5
abbrev N_Turns_ride : List Str := ["self", "riders", "driver"]
theorem sc_Turns_ride : FnScope N_Turns_ride ["self", "riders"] (defScope s_Turns_ride) := ⟨rfl, rfl, rfl, by decide +kernel, rfl, by decide +kernel, by decide +kernel⟩
def d_Turns_ride : He.DefD := ⟨("Turns", some "ride"), "ride", "Turns.ride", defArgs s_Turns_ride, defBody s_Turns_ride, defScope s_Turns_ride, [], []⟩
abbrev s_Turns_stands : Stmt := inClass (top 29) 6
abbrev N_Turns_stands : List Str := ["self", "name", "parts"]
theorem sc_Turns_stands : FnScope N_Turns_stands ["self"] (defScope s_Turns_stands) := ⟨rfl, rfl, rfl, by decide +kernel, rfl, by decide +kernel, by decide +kernel⟩
def d_Turns_stands : He.DefD := ⟨("Turns", some "stands"), "stands", "Turns.stands", defArgs s_Turns_stands, defBody s_Turns_stands, defScope s_Turns_stands, [], []⟩
abbrev s_Turns_drives : Stmt := inClass (top 29) 7
abbrev N_Turns_drives : List Str := ["self", "name"]
theorem sc_Turns_drives : FnScope N_Turns_drives ["self"] (defScope s_Turns_drives) := ⟨rfl, rfl, rfl, by decide +kernel, rfl, by decide +kernel, by decide +kernel⟩
def d_Turns_drives : He.DefD := ⟨("Turns", some "drives"), "drives", "Turns.drives", defArgs s_Turns_drives, defBody s_Turns_drives, defScope s_Turns_drives, [], []⟩
abbrev s_Turns_memory : Stmt := inClass (top 29) 8
abbrev N_Turns_memory : List Str := ["self", "parts"]
theorem sc_Turns_memory : FnScope N_Turns_memory ["self"] (defScope s_Turns_memory) := ⟨rfl, rfl, rfl, by decide +kernel, rfl, by decide +kernel, by decide +kernel⟩
def d_Turns_memory : He.DefD := ⟨("Turns", some "memory"), "memory", "Turns.memory", defArgs s_Turns_memory, defBody s_Turns_memory, defScope s_Turns_memory, [], []⟩
abbrev s_l_held : Stmt := top 31
abbrev N_l_held : List Str := ["_law_script"]
theorem sc_l_held : FnScope N_l_held ["_law_script"] (defScope s_l_held) := ⟨rfl, rfl, rfl, by decide +kernel, rfl, by decide +kernel, by decide +kernel⟩
def d_l_held : He.DefD := ⟨("_law_held", none), "_law_held", "_law_held", defArgs s_l_held, defBody s_l_held, defScope s_l_held, [], []⟩
abbrev s_l_draw : Stmt := top 32
abbrev N_l_draw : List Str := ["_law_held_here", "_law_many", "_law_found", "_law_at", "_law_cell", "_law_number"]
theorem sc_l_draw : FnScope N_l_draw ["_law_held_here", "_law_many"] (defScope s_l_draw) := ⟨rfl, rfl, rfl, by decide +kernel, rfl, by decide +kernel, by decide +kernel⟩
def d_l_draw : He.DefD := ⟨("_law_draw", none), "_law_draw", "_law_draw", defArgs s_l_draw, defBody s_l_draw, defScope s_l_draw, [], []⟩
abbrev s_l_names : Stmt := top 33
abbrev N_l_names : List Str := ["_law_held_here", "_law_many", "_law_letters", "_law_size", "_law_k", "_law_base", "_law_at", "_law_begin", "_law_step", "_law_lot", "_law_found", "_law_tail"]
theorem sc_l_names : FnScope N_l_names ["_law_held_here", "_law_many"] (defScope s_l_names) := ⟨rfl, rfl, rfl, by decide +kernel, rfl, by decide +kernel, by decide +kernel⟩
def d_l_names : He.DefD := ⟨("_law_names", none), "_law_names", "_law_names", defArgs s_l_names, defBody s_l_names, defScope s_l_names, [], []⟩
abbrev s_l_low : Stmt := top 34
abbrev N_l_low : List Str := ["_law_top", "_law_bottom", "_law_one", "_law_other"]
theorem sc_l_low : FnScope N_l_low ["_law_top", "_law_bottom"] (defScope s_l_low) := ⟨rfl, rfl, rfl, by decide +kernel, rfl, by decide +kernel, by decide +kernel⟩
def d_l_low : He.DefD := ⟨("_law_low", none), "_law_low", "_law_low", defArgs s_l_low, defBody s_l_low, defScope s_l_low, [], []⟩
abbrev s_l_add : Stmt := top 35
abbrev N_l_add : List Str := ["_law_one", "_law_other"]
theorem sc_l_add : FnScope N_l_add ["_law_one", "_law_other"] (defScope s_l_add) := ⟨rfl, rfl, rfl, by decide +kernel, rfl, by decide +kernel, by decide +kernel⟩
def d_l_add : He.DefD := ⟨("_law_add", none), "_law_add", "_law_add", defArgs s_l_add, defBody s_l_add, defScope s_l_add, [], []⟩
abbrev s_l_pair : Stmt := top 36
abbrev N_l_pair : List Str := ["_law_share", "_law_part"]
theorem sc_l_pair : FnScope N_l_pair ["_law_share"] (defScope s_l_pair) := ⟨rfl, rfl, rfl, by decide +kernel, rfl, by decide +kernel, by decide +kernel⟩
def d_l_pair : He.DefD := ⟨("_law_pair", none), "_law_pair", "_law_pair", defArgs s_l_pair, defBody s_l_pair, defScope s_l_pair, [], []⟩
abbrev s_l_day : Stmt := top 37
abbrev N_l_day : List Str := ["_law_held_here", "_law_order", "_law_many", "_law_left", "_law_found", "_law_turn"]
theorem sc_l_day : FnScope N_l_day ["_law_held_here", "_law_order"] (defScope s_l_day) := ⟨rfl, rfl, rfl, by decide +kernel, rfl, by decide +kernel, by decide +kernel⟩
def d_l_day : He.DefD := ⟨("_law_day", none), "_law_day", "_law_day", defArgs s_l_day, defBody s_l_day, defScope s_l_day, [], []⟩
abbrev s_l_stands_right : Stmt := top 38
abbrev N_l_stands_right : List Str := ["_law_turns", "_law_order", "_law_due", "_law_found", "_law_name"]
theorem sc_l_stands_right : FnScope N_l_stands_right ["_law_turns", "_law_order", "_law_due"] (defScope s_l_stands_right) := ⟨rfl, rfl, rfl, by decide +kernel, rfl, by decide +kernel, by decide +kernel⟩
def d_l_stands_right : He.DefD := ⟨("_law_stands_right", none), "_law_stands_right", "_law_stands_right", defArgs s_l_stands_right, defBody s_l_stands_right, defScope s_l_stands_right, [], []⟩
abbrev s_l_gone : Stmt := top 39
abbrev N_l_gone : List Str := ["_law_due", "_law_riders", "_law_driver", "_law_behind", "_law_name"]
theorem sc_l_gone : FnScope N_l_gone ["_law_due", "_law_riders", "_law_driver"] (defScope s_l_gone) := ⟨rfl, rfl, rfl, by decide +kernel, rfl, by decide +kernel, by decide +kernel⟩
def d_l_gone : He.DefD := ⟨("_law_gone", none), "_law_gone", "_law_gone", defArgs s_l_gone, defBody s_l_gone, defScope s_l_gone, [], []⟩
abbrev s_l_memory : Stmt := top 40
abbrev N_l_memory : List Str := ["_law_order", "_law_rode", "_law_found", "_law_some", "_law_row"]
theorem sc_l_memory : FnScope N_l_memory ["_law_order", "_law_rode"] (defScope s_l_memory) := ⟨rfl, rfl, rfl, by decide +kernel, rfl, by decide +kernel, by decide +kernel⟩
def d_l_memory : He.DefD := ⟨("_law_memory", none), "_law_memory", "_law_memory", defArgs s_l_memory, defBody s_l_memory, defScope s_l_memory, [], []⟩
abbrev s_law : Stmt := top 41
abbrev N_law : List Str := ["_law_script", "_law_held_here", "_law_order", "_law_turns", "_law_rode", "_law_drivers", "_law_due", "_law_some", "_law_turn", "_law_riders", "_law_names_here", "_law_driver", "_law_day_here", "_law_others", "_law_handed", "_law_k", "_law_name"]
theorem sc_law : FnScope N_law ["_law_script"] (defScope s_law) := ⟨rfl, rfl, rfl, by decide +kernel, rfl, by decide +kernel, by decide +kernel⟩
def d_law : He.DefD := ⟨("law", none), "law", "law", defArgs s_law, defBody s_law, defScope s_law, [], []⟩
def fn : List He.DefD := [d__wall, d_NoKind_init, d_Nought_init, d_NoName_init, d_NoRule_init, d_is_whole, d_is_between, d_is_name, d_is_order, d_is_rule, d_common_part, d_Share_init, d_Share_eq, d_Share_str, d_Share_repr, d_Share_plus, d_Share_less, d_Share_times, d_Share_over, d_Share_below, d_Share_whole, d_names_of, d_first_memory, d_least_driver, d_driver_by, d_parts_behind, d_line_behind, d_rounds_behind, d_memory_behind, d_Turns_init, d_Turns_eq, d_Turns_len, d_Turns_check_riders, d_Turns_who, d_Turns_ride, d_Turns_stands, d_Turns_drives, d_Turns_memory, d_l_held, d_l_draw, d_l_names, d_l_low, d_l_add, d_l_pair, d_l_day, d_l_stands_right, d_l_gone, d_l_memory, d_law]
end K30
set_option Elab.async false
set_option linter.all false
set_option maxRecDepth 100000
set_option maxHeartbeats 4000000
/-! GX: own exceptions over any built-in base, whose own __init__ calls the base's and stores a field. -/
namespace GX
open PySem PySem.Spec PyProof.Rows L2

/-- what the written part tells of the class -/
structure Gx (K : PySem.W.Frag) (C : Addr) (bmB : List Value) (nid : String) : Prop where
  over : PySem.W.excOver K C bmB = true
  made : PySem.W.excInitIn K C bmB nid = true
  hasd : ∃ cd, PySem.W.clsIn K C = some cd ∧ cd.hasDict = true
  sets : PySem.W.findIn K (.ref C) "__setattr__" = some (some (.builtin "object.__setattr__"))
  base : PySem.W.subIn K (.ref C) (.type "BaseException") = some true
  typ : PySem.W.typeIn K (.ref C) = some (.type "type")
  keep : PySem.W.keepIn K (.ref C) = true

section
open Builtin Builtin.ObjectAttr
variable {prog : Program} {w : World} {A : Around} {R : Result → Shared → Prop} {hp : Heap} {g : Array GenState} {d : Drawn} {t : Nat} {os : OsState} {B : String} {bmB : List Value}
theorem first_store {K : PySem.W.Frag} {name : Str} {tk : Tok} {v : Value} {x C : Addr} {fv : Array Value} {cd : ClassData} (SF : StoreFacts B bmB "object.__setattr__" "object")
    (X : K.In hp) (hx : hp.get? x = some { cls := .ref C, data := .fields fv }) (ho : PySem.W.excOver K C bmB = true) (hc : PySem.W.clsIn K C = some cd) (hd : cd.hasDict = true)
    (hf : PySem.W.findIn K (.ref C) name = some none)
    (post : ∀ h' tk' dx, (∀ b o, b ≠ x → hp.get? b = some o → h'.get? b = some o) → hp.objs.size ≤ dx → dx ≠ x →
      h'.get? x = some { cls := .ref C, dict := some dx, data := .fields fv } → h'.Ns1 dx (fun y => if y = name then some v else none) → R (.ok (.ret .none)) ⟨h', g, d, tk', os⟩) :
    codeAny (model prog w) A (.call (.builtin "object.__setattr__") ⟨[.ref x, .str name tk, v], []⟩) R ⟨hp, g, d, t, os⟩ := by
  have inst : PySem.W.InstAt hp x { cls := .ref C, data := .fields fv } C none := ⟨hx, rfl, rfl, trivial⟩
  have far : x ≠ hp.objs.size := Nat.ne_of_lt (Heap.lt_size hx)
  have lc : PySem.W.Looks (model prog w) hp (classData C) cd := PySem.W.looks_clsIn X hc
  refine PySem.W.osa_openX (r := none) SF X inst ho (by unfold PySem.W.takerIn; rw [hf]; rfl) fun b => ?_
  dsimp only
  obtain ⟨n1, n2, n3, n4, n5, n6, n7, n8, n9, n10, n11⟩ := cd
  dsimp only at hd
  subst hd
  unfold storeInOwnDict ownDictForStores
  repeat (first | with_reducible refine PySem.HandSPX.store_in_new ?_ ?_ | with_reducible refine wpAny_loadPart_at hx ?_ | with_reducible refine lc.at ?_ | wp_step)
  · exact ⟨_, #[], _, (Heap.get?_update_ne _ _ _ _ far.symm).trans (Heap.get?_push_at rfl rfl), rfl, fun e he => absurd he (by simp), fun _ => rfl⟩
  · intro h' tk' hn hs
    have hx1 : (hp.push { cls := .type "dict", data := .dict #[] }).get? x = some { cls := .ref C, data := .fields fv } := Heap.get?_push_of_some _ hx
    refine post h' tk' hp.objs.size (fun b o hb hob => ?_) (Nat.le_refl _) far.symm ?_ hn
    · have e1 := hs.2 b (Nat.ne_of_lt (Heap.lt_size hob))
      rw [e1, Heap.get?_update_ne _ _ _ _ hb]
      exact Heap.get?_push_of_some _ hob
    · rw [hs.2 x far]
      exact Heap.get?_update_self _ hx1 rfl
end

section
variable {X : Cx} {pins : List (Addr × Obj)} {σ : L2.St} {H : Hp} {s : Shared} {a C dx : Addr} {f : Str} {y : V} {u : Value} {Q : Unit → Shared → Prop} {E : Value → Shared → Prop} {A : Around} {B : String} {bmB : List Value} {nid iid : String}
/-- self.f = y, the first store -/
theorem put_first (SF : StoreFacts B bmB "object.__setattr__" "object") (T : Gx X.K C bmB nid) (I : Inv X pins σ H s) (e : H a = some (exo a C none)) (hno : PySem.W.findIn X.K (.ref C) f = some none) (ry : RelV y u)
    (post : ∀ dx s', H dx = none → dx ≠ a → Inv X pins σ (upd (upd H dx (exd dx [(f, y)])) a (exo a C (some dx))) s' → Q () s') : wpAny (model X.prog X.w) A (setAttr (.ref a) f u) Q E s := by
  obtain ⟨cd, hcd, hdd⟩ := T.hasd
  obtain ⟨t1, at1⟩ := exo_at I.hok e
  obtain ⟨hp, g, d, t, os⟩ := s
  refine PySem.W.set_plain I.kIn (ox := { cls := .ref C, dict := none, data := .fields #[.ref t1, .none, .none, .none, .bool false, .none] }) (od := none) ⟨at1, rfl, rfl, trivial⟩ T.sets ?_
  refine first_store SF I.kIn at1 T.over hcd hdd hno (fun h' tk' dx kp dn dne hx hn => ?_)
  have fresh : H dx = none := I.hok.fresh dn
  have old : ∀ {b : Addr} {o : Obj}, hp.get? b = some o → b ≠ dx := fun {b o} q => Nat.ne_of_lt (Nat.lt_of_lt_of_le (Heap.lt_size q) dn)
  have other : ∀ {b : Addr}, H b = none → b ≠ a := fun {b} n z => by
    rw [z, e] at n
    cases n
  have un : Un X.fs [] H (upd (upd H dx (exd dx [(f, y)])) a (exo a C (some dx))) hp h' := {
    keep := fun b o q n _ _ => kp b o (other n) q
    slot := fun b o q n _ _ => ⟨o.slots, kp b o (other n) q⟩
    free := fun b o q n _ => by rw [upd_ne (other n), upd_ne (old q)]; exact n
    there := fun b o q _ => by
      by_cases hb : b = a
      · exact ⟨_, hb ▸ hx⟩
      · exact ⟨o, kp b o hb q⟩
    tups := fun b xs q => by rw [upd_ne (at_ne e q exo_tup), upd_ne (ne_of_none q fresh)]; exact q
    frzs := fun b o v q => by rw [upd_ne (at_ne e q exo_frz), upd_ne (ne_of_none q fresh)]; exact q
    tbls := fun b ps q => ⟨#[], by rw [upd_ne (at_ne e q exo_tbl), upd_ne (ne_of_none q fresh), q]; simp⟩ }
  refine post dx _ fresh dne (I.un (t' := tk') un fun b o q => ?_)
  by_cases hb : b = a
  · subst hb
    rw [upd_same] at q
    cases q
    exact exo_ok hx
  · rw [upd_ne hb] at q
    by_cases hd : b = dx
    · subst hd
      rw [upd_same] at q
      cases q
      exact exd_ok hn (relO_put (fs := []) ry fun g => True.intro)
    · rw [upd_ne hd] at q
      refine (I.hok b o q).stay (fun c v hc z => kp c v ?_ z) (fun c hc => ?_) (fun c xs hc => ?_)
      · rcases hc with hc | hc
        · exact hc ▸ hb
        · exact at_ne e hc exo_own
      · rw [upd_ne (at_ne e hc exo_own), upd_ne (ne_of_none hc fresh)]; exact hc
      · rw [upd_ne (at_ne e hc exo_tup), upd_ne (ne_of_none hc fresh)]; exact hc
/-- Base.__init__(self, ..) -/
theorem base_init {us : List Value} {Q : Value → Shared → Prop} (FB : ExcBaseFacts B nid iid bmB) (T : Gx X.K C bmB nid) (I : Inv X pins σ H s) (e : H a = some (exo a C none)) (hl : us.length ≤ sizeLine) (post : ∀ s', Inv X pins σ H s' → Q .none s') :
    wpAny (model X.prog X.w) A (call (.builtin iid) (.ref a :: us)) Q E s := by
  obtain ⟨nm, N, qn, bs, bm, hdct, sn, sub, ab, col, dd, k0, k1, k2, k3, k5, hC, hT⟩ := PySem.W.excInit_of I.kIn T.made
  obtain ⟨t1, at1⟩ := exo_at I.hok e
  obtain ⟨hp, g, d, t, os⟩ := s
  refine wpAny_call (PySem.HandSPX.init_base FB hT hC at1 hl fun h' t2 kp hx => ?_)
  have J := I.write (t' := t) (x := a) (e := a) (o := exo a C none) (by rw [e]; exact True.intro) (.inl rfl) kp ⟨_, hx⟩ (exo_ok hx)
  have same : upd H a (exo a C none) = H := funext fun b => by
    by_cases hb : b = a
    · rw [hb, upd_same, e]
    · rw [upd_ne hb]
  rw [same] at J
  exact post _ J
end

/-! ### readings and rules -/
/-- Base.__init__(self, ..) -/
def tBi (K : PySem.W.Frag) (bmB : List Value) (nid : String) (ta : TA) : TE := fun σ H Q => ta σ H fun vs H1 => ∃ (a C : Addr) (ws : List V), vs = .ref a :: ws ∧ ws.length ≤ 1000 ∧ Gx K C bmB nid ∧ H1 a = some (exo a C none) ∧ Q .non H1
/-- self.f = e, the first one -/
def tPf (K : PySem.W.Frag) (bmB : List Value) (nid : String) (f : Str) (to te : TE) : TS := fun D σ H => te σ H fun y H1 => to σ H1 fun x H2 => ∃ a C : Addr, x = .ref a ∧ Gx K C bmB nid ∧ PySem.W.findIn K (.ref C) f = some none ∧
  H2 a = some (exo a C none) ∧ ∀ dx, H2 dx = none → dx ≠ a → D.nx σ (upd (upd H2 dx (exd dx [(f, y)])) a (exo a C (some dx)))
section
variable {X : Cx} {o e : Expr} {es : List Expr} {to te : TE} {ta : TA} {f : Str} {p p' p1 p2 pos : Pos} {B nid iid : String} {bmB : List Value} {x : Str}
theorem pe_bi {pl : Sem Bool} (FB : ExcBaseFacts B nid iid bmB) (hg : Gl X x) (hm : X.mg x = none) (hv : bootBuiltins x = some (.type B)) (ty : typeOf (.type B) = pure (.type "type"))
    (vV : PySem.W.findCls X.K (.type B) (.type "type") "__init__" = some (.val (.builtin iid))) (hb : PySem.W.handedIn (.builtin iid) = true) (hst : Manifest.isStub B = false) (ha : PA X (e :: es) ta)
    (hc : eval (.Call (.Attribute (.Name x p1) "__init__" p2) (e :: es) [] pos) X.env = (do
      let ov ← eval (.Name x p1) X.env
      standAt p2.atName
      let (f, first) ← holding [ov] (getMethod ov "__init__" pl)
      callWith pos f first (backTo pos (starEach (e :: es) X.env)) (backToKw pos (keywordEach [] X.env))) := by rfl)
    (hn : x ≠ "__name__" := by decide) (hd : (x == ("__debug__" : Str)) = false := by decide)
    (he : starEach (e :: es) X.env = (false, eval e X.env) :: starEach es X.env := by rfl) (hpl : (backTo pos (starEach es X.env)).any (·.1) = false := by rfl) :
    PE X (.Call (.Attribute (.Name x p1) "__init__" p2) (e :: es) [] pos) (tBi X.K bmB nid ta) := by
  refine ⟨fun pins s σ H Q I h => ?_⟩
  refine PySem.W.methodCall_KW (ld_blt I hg hm hv ?_ hn hd) hc
  obtain ⟨m, fr⟩ := I.fr
  refine PySem.W.method_type fr I.ok.mod.kin ty hst vV hb ?_
  show wpAny _ _ (callWith pos (Value.builtin iid) [] (backTo pos (starEach (e :: es) X.env)) []) _ _ _
  refine PyProof.Rows.callWith_method1 (thn (ha.run pos pins _ σ H _ (I.tok _) h) fun us s1 hh => ?_) he hpl
  obtain ⟨vs, H1, I1, r1, a, C, ws, ev, hl, T, ea, q⟩ := hh
  subst ev
  cases r1 with
  | @cons _ u0 _ ur ra rw' =>
    obtain rfl : u0 = Value.ref a := ra
    have hlen : ur.length ≤ sizeLine := by
      have := Paired.length rw'
      rw [sizeLine_eq]
      omega
    exact base_init FB T I1 ea hlen fun s' J => ⟨.non, H1, J, rfl, q⟩
theorem ps_pf (SF : StoreFacts B bmB "object.__setattr__" "object") (ho : PE X o to) (he : PE X e te) (hs : swapsWith e (some (.Attribute o f p')) pos.line X.env = pure false := by rfl) : PS X (.Assign [.Attribute o f p'] e pos) (tPf X.K bmB nid f to te) := by
  refine ⟨fun pins s σ H D I h => ?_⟩
  refine plainObj_wpAny_Assign_Attribute (thn (he.run pins s σ H _ I h) fun v s1 h1 => ?_) hs
  obtain ⟨y, H1, I1, r1, q1⟩ := h1
  refine thn (ho.run pins s1 σ H1 _ I1 q1) fun u s2 h2 => ?_
  obtain ⟨z, H2, I2, r2, a, C, ex, T, hno, ea, q⟩ := h2
  subst ex
  obtain rfl : u = Value.ref a := r2
  exact put_first SF T I2 ea hno r1 fun dx s' n ne J => ⟨σ, _, J, q dx n ne⟩
/-- C(e, ..) as what is raised, C's own __init__ keeping sp -/
theorem pmk_gx {CX : CXT} {C fI : Addr} {k : Nat} {fd : FuncData} {ps : List Str} {sp : Sp} {ds : List Value} {dvs : List V} (FB : ExcBaseFacts B nid iid bmB) (T : Gx X.K C bmB nid) (iC : PySem.W.findIn X.K (.ref C) "__init__" = some (some (.ref fI)))
    (tI : PySem.W.typeIn X.K (.ref fI) = some (.type "function"))
    (F1 : FnOk X.prog X.w X.K X.mg X.base CX k fI fd ps sp) (hr : Room (k + 1) X.A) (hb : Binds X.K fd ps ds) (hd : Vals dvs ds) (hx : Passes CX X (fun _ _ _ => False)) (hg : Gl X x) (hm : X.mg x = some (.ref C)) (ha : PA X (e :: es) ta)
    (hdb : (x == ("__debug__" : Str)) = false := by decide) (he : starEach (e :: es) X.env = (false, eval e X.env) :: starEach es X.env := by rfl) (hpl : (backTo pos (starEach es X.env)).any (·.1) = false := by rfl) :
    PMk X (.Call (.Name x p) (e :: es) [] pos) (tMkO C sp dvs ta) := by
  intro pins s σ H Q I h
  refine wpAny_Call_Name_kw (ld_glob I hg hm ?_ hdb)
  refine PySem.W.callWith_K (h₀ := X.base) I.ok.mod.kin T.keep (thn (ha.run pos pins s σ H _ I h) fun us s1 hh => ?_) he hpl
  obtain ⟨vs, H1, I1, r1, hz, q1⟩ := hh
  refine ⟨I1.kIn, ?_⟩
  show wpAny _ _ (call (.ref C) us) _ _ _
  obtain ⟨nm, N, qn, bs, bm, hdct, sn, sub, ab, col, dd, k0, k1, k2, k3, k5, hC, hT⟩ := PySem.W.excInit_of I1.kIn T.made
  obtain ⟨hp, g, dr, tk, os⟩ := s1
  have big : hp.objs.size ≤ hp.objs.size + 1 := Nat.le_succ _
  have hq := q1 (hp.objs.size + 1) (I1.hok.fresh big)
  have kk : ∀ b o, hp.get? b = some o → ((hp.push (PySem.W.kdv_tup us)).push (PySem.HandSPX.excO C hp.objs.size)).get? b = some o := fun b o z =>
    Heap.get?_push_of_some _ (Heap.get?_push_of_some _ z)
  have there : ((hp.push (PySem.W.kdv_tup us)).push (PySem.HandSPX.excO C hp.objs.size)).get? (hp.objs.size + 1) = some (PySem.HandSPX.excO C hp.objs.size) := by heap_get
  have I2 := I1.laid (t' := tk) (a := hp.objs.size + 1) (o := exo (hp.objs.size + 1) C none) (h' := (hp.push (PySem.W.kdv_tup us)).push (PySem.HandSPX.excO C hp.objs.size)) kk big (exo_ok there)
  have r2 : Vals (V.ref (hp.objs.size + 1) :: (vs ++ dvs)) (Value.ref (hp.objs.size + 1) :: (us ++ ds)) := .cons rfl (r1.append hd)
  have hl : (Value.ref (hp.objs.size + 1) :: us ++ ds).length = ps.length := by
    have e1 := r2.length
    rw [F1.len _ _ _ _ hq] at e1
    exact e1.symm
  have few : us.length ≤ sizeLine := by
    have := Paired.length r1
    rw [sizeLine_eq]
    omega
  refine wpAny_call (PySem.HandSPX.call_own FB hT hC (PySem.W.looks_findIn I1.kIn iC) (fun self => PySem.W.bind_fn I1.kIn self tI) few (codeAny_mono
    (F1.run _ X.stack _ _ ⟨Value.ref (hp.objs.size + 1) :: us, []⟩ (Value.ref (hp.objs.size + 1) :: (us ++ ds)) _ _ (fun _ _ _ => False) (hr.make C us []) (I2.env0.make C us []) (hb _ (Value.ref (hp.objs.size + 1) :: us) I2.kIn hl) r2 hq) fun r s' hq' => ?_))
  cases r with
  | error er => exact hx pins σ _ _ er s' I2 hq'
  | ok fl =>
    cases fl with
    | ret u =>
      obtain ⟨v, H2, os2, bare2, un2, hok2, rv, ev, d, fs, ea, ed, hd1, q2⟩ := hq'
      subst ev
      obtain ⟨h2, g2, d2, t2, os'⟩ := s'
      exact ⟨rv, mk_end (raises_own T.base T.typ) I1 big kk un2 hok2 os2 bare2 ea ed hd1 q2⟩
    | next => exact False.elim hq'
    | brk => exact False.elim hq'
    | cont => exact False.elim hq'
end
/-! ### the head's look at such a class -/
def hasDB (K : PySem.W.Frag) (C : Addr) : Bool := match PySem.W.clsIn K C with
  | some cd => cd.hasDict
  | none => false
/-- Base.__init__, read off the class Base -/
def vvB (K : PySem.W.Frag) (B iid : String) : Bool := match PySem.W.findCls K (.type B) (.type "type") "__init__" with
  | some (.val (.builtin n)) => n == iid
  | _ => false
theorem vvB_ok {K : PySem.W.Frag} {B iid : String} (h : vvB K B iid = true) : PySem.W.findCls K (.type B) (.type "type") "__init__" = some (.val (.builtin iid)) := by
  unfold vvB at h
  split at h
  · rename_i n e
    rw [e, eq_of_beq h]
  · cases h
/-- what isinstance asks of an own class -/
def isB (K : PySem.W.Frag) (C : Addr) : Bool := He.eqO (PySem.W.findIn K (.ref C) "__class__") (some (some (.builtin "object.__class__"))) && (He.eqO (PySem.W.specialIn K (.builtin "object.__class__") "__get__") (some (some (.builtin "getset_descriptor.__get__"))) &&
  (decide (PySem.W.takesIn K (.builtin "object.__class__") = some true) && decide (PySem.W.mroIn K C (.type "object") = some true)))
def gxB (K : PySem.W.Frag) (C : Addr) (bmB : List Value) (nid : String) : Bool := PySem.W.excOver K C bmB && (PySem.W.excInitIn K C bmB nid && (hasDB K C &&
  (He.eqO (PySem.W.findIn K (.ref C) "__setattr__") (some (some (.builtin "object.__setattr__"))) && (decide (PySem.W.subIn K (.ref C) (.type "BaseException") = some true) &&
  (decide (PySem.W.typeIn K (.ref C) = some (.type "type")) && PySem.W.keepIn K (.ref C))))))
theorem gxB_ok {K : PySem.W.Frag} {C : Addr} {bmB : List Value} {nid : String} (h : gxB K C bmB nid = true) : Gx K C bmB nid := by
  unfold gxB at h
  simp only [Bool.and_eq_true, decide_eq_true_eq] at h
  obtain ⟨h1, h2, h3, h4, h5, h6, h7⟩ := h
  refine ⟨h1, h2, ?_, He.eqO_ok h4, h5, h6, h7⟩
  unfold hasDB at h3
  split at h3
  · rename_i cd e
    exact ⟨cd, e, h3⟩
  · cases h3
end GX
set_option linter.all false
namespace KM
/-- the signed common part -/
def sg (t b : Int) : Int := if b < 0 then -(Int.gcd t b : Int) else (Int.gcd t b : Int)
/-- a fraction in lowest terms -/
def low (t b : Int) : Int × Int := (t.fdiv (sg t b), b.fdiv (sg t b))
theorem gcd_pos {t b : Int} (h : b ≠ 0) : 0 < Int.gcd t b := Int.gcd_pos_of_ne_zero_right t h
theorem sg_ne {t b : Int} (h : b ≠ 0) : sg t b ≠ 0 := by
  have := gcd_pos (t := t) h
  unfold sg
  split <;> omega
theorem sg_dvd_left (t b : Int) : sg t b ∣ t := by
  unfold sg
  split
  · exact Int.neg_dvd.mpr (Int.gcd_dvd_left ..)
  · exact Int.gcd_dvd_left ..
theorem sg_dvd_right (t b : Int) : sg t b ∣ b := by
  unfold sg
  split
  · exact Int.neg_dvd.mpr (Int.gcd_dvd_right ..)
  · exact Int.gcd_dvd_right ..
theorem low_top {t b : Int} : sg t b * (low t b).1 = t := by
  show sg t b * t.fdiv (sg t b) = t
  rw [Int.fdiv_eq_ediv_of_dvd (sg_dvd_left t b)]
  exact Int.mul_ediv_cancel' (sg_dvd_left t b)
theorem low_bot {t b : Int} : sg t b * (low t b).2 = b := by
  show sg t b * b.fdiv (sg t b) = b
  rw [Int.fdiv_eq_ediv_of_dvd (sg_dvd_right t b)]
  exact Int.mul_ediv_cancel' (sg_dvd_right t b)
theorem sg_abs (t b : Int) : (sg t b).natAbs = Int.gcd t b := by
  unfold sg
  split <;> simp
theorem low_pos {t b : Int} (h : b ≠ 0) : 0 < (low t b).2 := by
  have e := low_bot (t := t) (b := b)
  have g := gcd_pos (t := t) h
  by_cases hb : b < 0
  · have hs : sg t b < 0 := by unfold sg; rw [if_pos hb]; omega
    refine Int.lt_of_not_ge fun hc => ?_
    have := Int.mul_nonneg_of_nonpos_of_nonpos (Int.le_of_lt hs) hc
    omega
  · have hs : 0 < sg t b := by unfold sg; rw [if_neg hb]; omega
    refine Int.lt_of_not_ge fun hc => ?_
    have := Int.mul_nonpos_of_nonneg_of_nonpos (Int.le_of_lt hs) hc
    omega
theorem low_cop {t b : Int} (h : b ≠ 0) : Int.gcd (low t b).1 (low t b).2 = 1 := by
  have e : Int.gcd (sg t b * (low t b).1) (sg t b * (low t b).2) = (sg t b).natAbs * Int.gcd (low t b).1 (low t b).2 := Int.gcd_mul_left ..
  rw [low_top, low_bot, sg_abs] at e
  have g := gcd_pos (t := t) h
  have : Int.gcd t b * Int.gcd (low t b).1 (low t b).2 = Int.gcd t b * 1 := by omega
  exact Nat.eq_of_mul_eq_mul_left g this
theorem low_id {t b : Int} (hb : 0 < b) (h : Int.gcd t b = 1) : low t b = (t, b) := by
  have e : sg t b = 1 := by unfold sg; rw [if_neg (by omega), h]; rfl
  unfold low
  rw [e]
  simp
theorem low_low {t b : Int} (h : b ≠ 0) : low (low t b).1 (low t b).2 = low t b := low_id (low_pos h) (low_cop h)
/-- the bottom stays: nothing is taken out -/
theorem low_same {t b : Int} (hb : 0 < b) (h : (low t b).2 = b) : low t b = (t, b) := by
  have e := low_bot (t := t) (b := b)
  rw [h] at e
  have e1 : sg t b * b = 1 * b := by omega
  have e2 := Int.eq_of_mul_eq_mul_right (Int.ne_of_gt hb) e1
  have e3 := low_top (t := t) (b := b)
  rw [e2] at e3
  refine Prod.ext ?_ h
  show (low t b).1 = t
  omega
theorem dvd_le {x y : Int} (h : x * y ≠ 0) : y.natAbs ≤ (x * y).natAbs := by
  rw [Int.natAbs_mul]
  have : x ≠ 0 := fun z => h (by rw [z, Int.zero_mul])
  exact Nat.le_mul_of_pos_left _ (by omega)
theorem low_top_le {t b : Int} (h : b ≠ 0) : (low t b).1.natAbs ≤ t.natAbs := by
  by_cases ht : t = 0
  · subst ht
    have e := low_top (t := 0) (b := b)
    rcases Int.mul_eq_zero.mp e with z | z
    · exact absurd z (sg_ne h)
    · rw [z]; exact Nat.le_refl _
  · have e := low_top (t := t) (b := b)
    have := dvd_le (x := sg t b) (y := (low t b).1) (by omega)
    rw [e] at this
    exact this
theorem low_bot_le {t b : Int} (h : b ≠ 0) : (low t b).2.natAbs ≤ b.natAbs := by
  have e := low_bot (t := t) (b := b)
  have := dvd_le (x := sg t b) (y := (low t b).2) (by omega)
  rw [e] at this
  exact this
theorem sg_le {t b : Int} (h : b ≠ 0) : (sg t b).natAbs ≤ b.natAbs := by
  have e := low_bot (t := t) (b := b)
  have := dvd_le (x := (low t b).2) (y := sg t b) (by rw [Int.mul_comm]; omega)
  rw [Int.mul_comm, e] at this
  exact this
/-- Euclid's turn over whole numbers from 0 on -/
theorem gcd_turn {a b : Int} (ha : 0 ≤ a) (hb : 0 < b) : Int.gcd b (a % b) = Int.gcd a b := by
  obtain ⟨m, rfl⟩ := Int.eq_ofNat_of_zero_le ha
  obtain ⟨n, rfl⟩ := Int.eq_ofNat_of_zero_le (Int.le_of_lt hb)
  show Nat.gcd (Int.natAbs (n : Int)) (Int.natAbs ((m : Int) % (n : Int))) = Nat.gcd (Int.natAbs (m : Int)) (Int.natAbs (n : Int))
  rw [← Int.natCast_emod, Int.natAbs_natCast, Int.natAbs_natCast, Int.natAbs_natCast, Nat.gcd_comm n, Nat.gcd_comm m n]
  exact (Nat.gcd_rec n m).symm
theorem gcd_succ (a : Int) : Int.gcd a (a + 1) = 1 := by
  have : Int.gcd (a + 1) a = Int.gcd 1 a := by
    rw [Int.add_comm, Int.gcd_add_self_left]
  rw [Int.gcd_comm, this, Int.gcd_comm]
  simp
end KM
set_option Elab.async false
set_option linter.all false
set_option maxRecDepth 100000
set_option maxHeartbeats 4000000
namespace K30
open PySem PySem.Spec PyProof.Rows L2
/-- a def of the text -/
abbrev Dn (K : PySem.W.Frag) (d : He.DefD) (f : Addr) (fd : FuncData) : Prop := FunD K d.name d.qual d.params d.body d.scope (d.dvs K) (d.kws K) f fd
/-- what the module's names are -/
structure Bl (mg : Str → Option Value) : Prop where
  isi : mg "isinstance" = none
  int : mg "int" = none
  bool : mg "bool" = none
  abs : mg "abs" = none
  list : mg "list" = none
  range : mg "range" = none
  len : mg "len" = none
theorem op_fdW {X : Cx} : OpR X (binaryOp .FloorDiv) (rI (fun _ j => j ≠ 0 ∧ j.natAbs.log2 < 9000) fun i j => .int (i.fdiv j)) := opI fun _ _ _ _ _ _ _ hc q => floordiv_int hc.1 q (.inl (PyProof.noPylong_of_log2 hc.2))
/-- the fields of a Share -/
def shF (q : Int × Int) : List (Str × V) := putF "bottom" (.int q.2) (putF "top" (.int q.1) [])
theorem tb : ¬ (("top" : Str) = "bottom") := by decide +kernel
theorem shF_top (q : Int × Int) : (shF q).lookup ("top" : Str) = some (.int q.1) := by
  unfold shF
  rw [lookup_putF, if_neg tb, lookup_putF, if_pos rfl]
theorem shF_bot (q : Int × Int) : (shF q).lookup ("bottom" : Str) = some (.int q.2) := by
  unfold shF
  rw [lookup_putF, if_pos rfl]
theorem shF_no (q : Int × Int) {m : Str} (h1 : ¬ m = "bottom") (h2 : ¬ m = "top") : (shF q).lookup m = none := by
  unfold shF
  rw [lookup_putF, if_neg h1, lookup_putF, if_neg h2]
  all_goals rfl
/-- a Share stands at p -/
def Sh (C : Addr) (H : Hp) (p : Addr) (q : Int × Int) : Prop := ∃ dx, H p = some (.ins C dx (shF q))
/-- small enough, the bottom above nought -/
def Bd (n : Nat) (q : Int × Int) : Prop := q.1.natAbs < 2 ^ n ∧ 0 < q.2 ∧ q.2.natAbs < 2 ^ n
theorem Sh.keep {C : Addr} {H H' : Hp} {p : Addr} {q : Int × Int} (s : Same H H') (h : Sh C H p q) : Sh C H' p q := let ⟨dx, e⟩ := h; ⟨dx, s _ _ e⟩
theorem log_lt {j : Int} {n : Nat} (h : j.natAbs < 2 ^ n) (h0 : 0 < n) (h9 : n ≤ 9000) : j.natAbs.log2 < 9000 := Nat.lt_of_lt_of_le (PySem.Flt.log2_lt_of h0 h) h9
/-- what is known of the class -/
structure Cl (K : PySem.W.Frag) (mg : Str → Option Value) (C : Addr) : Prop where
  cl : Cls K C
  nt : NoAttr K C "top"
  nb : NoAttr K C "bottom"
  g : mg "Share" = some (.ref C)
section
variable {P : Program} {w : World} {K : PySem.W.Frag} {mg : Str → Option Value} {base : Heap} {f C : Addr} {fd : FuncData}

def spWhole : Sp := fun vs H Q _ => ∃ n : Int, vs = [.int n] ∧ Q (.bl true) H
theorem ok_whole (F : Dn K d_is_whole f fd) (b : Bl mg) : FnOk P w K mg base CX0 1 f fd ["thing"] spWhole := by
  refine F.ok sc_is_whole (fun vs H Q E h => ?_) (fun cdv A outer s H vs Q E hr h => ?_)
  · obtain ⟨n, rfl, _⟩ := h
    rfl
  · obtain ⟨n, rfl, hQ⟩ := h
    refine ⟨_, PSs.nox (pss_one (ps_ret (pe_and
      (pe_callB call_isi rfl b.isi boot_isinstance (pa_cons (pv 0) (pa_cons (pe_bltn (v := .ty "int") rfl b.int boot_int rfl) pa_nil)))
      (pe_one (pe_not (pe_callB call_isi rfl b.isi boot_isinstance (pa_cons (pv 0) (pa_cons (pe_bltn (v := .ty "bool") rfl b.bool boot_bool rfl) pa_nil)))))))), ?_⟩
    refine ⟨_, rfl, _, _, _, _, true, rfl, ClsV.ty _, TyX.base (TyOf.int n), kit_ty (by decide +kernel), true, rfl, ?_⟩
    refine iteT ?_
    exact ⟨_, rfl, _, _, _, _, false, rfl, ClsV.ty _, TyX.base (TyOf.int n), kit_ty (by decide +kernel), false, rfl, hQ⟩
def spGcd : Sp := fun vs H Q _ => ∃ x y : Int, vs = [.int x, .int y] ∧ Q (.int (Int.gcd x y : Int)) H
theorem abs_eq (x : Int) : (if x < 0 then -x else x) = (x.natAbs : Int) := by split <;> omega
theorem ok_gcd (F : Dn K d_common_part f fd) (b : Bl mg) : FnOk P w K mg base CX0 1 f fd ["one", "other"] spGcd := by
  refine F.ok sc_common_part (fun vs H Q E h => ?_) (fun cdv A outer s H vs Q E hr h => ?_)
  · obtain ⟨x, y, rfl, _⟩ := h
    rfl
  · obtain ⟨x, y, rfl, hQ⟩ := h
    refine ⟨_, PSs.nox (pss_cons (ps_set (i := 0) sc_common_part.nd rfl (.inl rfl) (pe_callB call_abs rfl b.abs boot_abs (pa_cons (pv 0) pa_nil)))
      (pss_cons (ps_set (i := 1) sc_common_part.nd rfl (.inl rfl) (pe_callB call_abs rfl b.abs boot_abs (pa_cons (pv 1) pa_nil)))
      (pss_cons (ps_while PassesOwn.never (pt_cmpR op_ne (pv 1) pe_int (nomark _)) (pss_one (ps_par (i := 0) (j := 1) rfl sc_common_part.nd rfl rfl (by decide) rfl rfl (pa_cons (pv 1) (pa_cons (pe_op op_mod (pv 0) (pv 1)) pa_nil)) rfl)))
      (pss_one (ps_ret (pv 0)))))), ?_⟩
    refine ⟨_, rfl, _, rfl, _, rfl, _, rfl, while_by (fun σ H2 => H2 = H ∧ ∃ a c : Int, σ = [some (.int a), some (.int c)] ∧ 0 ≤ a ∧ 0 ≤ c ∧ Int.gcd a c = Int.gcd x y)
      (fun σ _ => match σ with | [_, some (.int c)] => c.toNat | _ => 0) ⟨rfl, _, _, rfl, ?_, ?_, ?_⟩ ?_ ?_⟩
    · split <;> omega
    · split <;> omega
    · rw [abs_eq, abs_eq]
      rfl
    · rintro σ H2 ⟨rfl, a, c, rfl, ha, hc, hg⟩
      refine ⟨_, rfl, rfl, _, rfl, ?_⟩
      by_cases h0 : c = 0
      · subst h0
        refine iteNS rfl ?_
        refine ⟨_, rfl, ?_⟩
        have e : Int.gcd x y = a.natAbs := by rw [← hg]; simp
        have e2 : (Int.gcd x y : Int) = a := by omega
        rw [e2] at hQ
        exact hQ
      · have hne : (!decide (V.int c = V.int 0)) = true := by simp [h0]
        rw [hne]
        refine iteT ?_
        have hp : 0 < c := by omega
        refine ⟨_, rfl, _, rfl, _, rfl, _, _, rfl, rfl, hp, _, _, rfl, ⟨rfl, _, _, rfl, hc, Int.emod_nonneg _ h0, ?_⟩, ?_⟩
        · rw [KM.gcd_turn ha hp, hg]
        · show (a % c).toNat < c.toNat
          have h1 := Int.emod_nonneg a h0
          have h2 := Int.emod_lt_of_pos a hp
          omega
    · rintro σ H2 Q1 Q2 hm ⟨v, hv, h1, k, hk, q⟩
      exact ⟨v, hv, h1, k, hk, hm _ _ q⟩
end
end K30
set_option Elab.async false
set_option linter.all false
set_option maxRecDepth 100000
set_option maxHeartbeats 4000000
namespace K30
open PySem PySem.Spec PyProof.Rows L2
open C8 (Cal Mak Met pe_c pe_mk pe_mt pe_mt0)
section
variable {P : Program} {w : World} {K : PySem.W.Frag} {mg : Str → Option Value} {base : Heap} {f C : Addr} {fd : FuncData}
abbrev CalW (P : Program) (w : World) (K : PySem.W.Frag) (mg : Str → Option Value) (base : Heap) : Prop := Cal P w K mg base 1 "is_whole" spWhole []
abbrev CalG (P : Program) (w : World) (K : PySem.W.Frag) (mg : Str → Option Value) (base : Heap) : Prop := Cal P w K mg base 1 "common_part" spGcd []
/-- __init__: a Share in lowest terms -/
def spInit (C : Addr) : Sp := fun vs H Q _ => ∃ (p dx : Addr) (t b : Int) (n : Nat), vs = [.ref p, .int t, .int b] ∧ b ≠ 0 ∧ b.natAbs < 2 ^ n ∧ 0 < n ∧ n ≤ 9000 ∧ H p = some (.ins C dx []) ∧
  ∀ H', (∀ a o, a ≠ p → H a = some o → H' a = some o) → H' p = some (.ins C dx (shF (KM.low t b))) → Q .non H'
theorem ok_init (F : Dn K d_Share_init f fd) (cW : CalW P w K mg base) (cG : CalG P w K mg base) (T : Cl K mg C) : FnOk P w K mg base CX0 2 f fd ["self", "top", "bottom"] (spInit C) := by
  refine F.ok sc_Share_init (fun vs H Q E h => ?_) (fun cdv A outer s H vs Q E hr h => ?_)
  · obtain ⟨p, dx, t, b, n, rfl, _⟩ := h
    rfl
  · obtain ⟨p, dx, t, b, n, rfl, hb, hn, hn0, hn9, hp, hQ⟩ := h
    refine ⟨_, PSs.nox (pss_cons (ps_for PassesOwn.never rfl (pi_tup (pe_tup (pa_cons (pv 1) (pa_cons (pv 2) pa_nil)))) (pg_name (i := 3) sc_Share_init.nd rfl (.inl rfl))
        (pss_one (ps_if (pt_not (pt_val (pe_c cW hr (by decide) rfl (pa_cons (pv 3) pa_nil)))) pss_never pss_nil)))
      (pss_cons (ps_if (pt_cmpR op_eq (pv 2) pe_int (nomark _)) pss_never pss_nil)
      (pss_cons (ps_set (i := 4) sc_Share_init.nd rfl (.inl rfl) (pe_c cG hr (by decide) rfl (pa_cons (pv 1) (pa_cons (pv 2) pa_nil))))
      (pss_cons (ps_if (pt_cmpR op_lt (pv 2) pe_int (nomark _)) (pss_one (ps_set (i := 4) sc_Share_init.nd rfl (.inl rfl) (pe_un un_neg (pv 4)))) pss_nil)
      (pss_cons (ps_fld (pv 0) (pe_op op_fdW (pv 1) (pv 4)) rfl)
      (pss_one (ps_fld (pv 0) (pe_op op_fdW (pv 2) (pv 4)) rfl))))))), ?_⟩
    refine ⟨_, rfl, _, rfl, by show 2 ≤ sizeLine; decide, fun u hu => ?_⟩
    have npu : p ≠ u := ne_of_none hp hu
    refine ⟨u, rfl, ⟨_, SqT.of upd_same⟩, for_tup (K := K) (xs := [.int t, .int b]) (fun i σ H2 => H2 = upd H u (.tup [.int t, .int b]) ∧ ∃ v, σ = [some (.ref p), some (.int t), some (.int b), v, none])
      ⟨rfl, none, rfl⟩ (fun i σ H2 _ h => by rw [h.1]; exact SqT.of upd_same) ?_ ?_⟩
    · rintro i y σ H2 hi ⟨rfl, v, rfl⟩
      have hy : ∃ n : Int, y = .int n := by
        match i, hi with
        | 0, e => exact ⟨t, (Option.some.inj e).symm⟩
        | 1, e => exact ⟨b, (Option.some.inj e).symm⟩
      obtain ⟨n, rfl⟩ := hy
      refine ⟨_, rfl, n, rfl, true, rfl, ?_⟩
      refine iteF ?_
      exact ⟨rfl, _, rfl⟩
    · rintro σ H2 ⟨rfl, v, rfl⟩
      refine ⟨_, rfl, rfl, _, rfl, ?_⟩
      have hb0 : decide (V.int b = V.int 0) = false := by simp [hb]
      rw [hb0]
      refine iteF ?_
      refine ⟨_, rfl, _, rfl, t, b, rfl, ?_⟩
      refine ⟨_, rfl, _, _, rfl, rfl, _, rfl, ?_⟩
      have hs9 : (KM.sg t b).natAbs.log2 < 9000 := log_lt (Nat.lt_of_le_of_lt (KM.sg_le hb) hn) hn0 hn9
      have fin : ∀ c : Int, c = KM.sg t b → ∀ v, tSeq (sFld K (tVar 0) (tOp (rI (fun _ j => j ≠ 0 ∧ j.natAbs.log2 < 9000) fun i j => .int (i.fdiv j)) (tVar 1) (tVar 4)) "top") (sFld K (tVar 0) (tOp (rI (fun _ j => j ≠ 0 ∧ j.natAbs.log2 < 9000) fun i j => .int (i.fdiv j)) (tVar 2) (tVar 4)) "bottom")
          { nx := fun _ H' => Q .non H', rt := Q } [some (.ref p), some (.int t), some (.int b), v, some (.int c)] (upd H u (.tup [.int t, .int b])) := by
        rintro c rfl v
        refine ⟨_, rfl, _, rfl, _, _, rfl, rfl, ⟨KM.sg_ne hb, hs9⟩, _, rfl, p, C, dx, _, rfl, (by rw [upd_ne npu]; exact hp), T.cl, T.nt, (by show 0 < 1000; decide), ?_⟩
        refine ⟨_, rfl, _, rfl, _, _, rfl, rfl, ⟨KM.sg_ne hb, hs9⟩, _, rfl, p, C, dx, _, rfl, upd_same, T.cl, T.nb, (by show 1 < 1000; decide), ?_⟩
        refine hQ _ (fun a o ha e => ?_) upd_same
        rw [upd_ne ha, upd_ne ha, upd_ne (ne_of_none e hu)]
        exact e
      refine ite2 (fun h => ?_) (fun h => ?_)
      · have h' : b < 0 := of_decide_eq_true h
        refine ⟨_, rfl, _, rfl, ?_⟩
        exact fin _ (by unfold KM.sg; rw [if_pos h']) _
      · have h' : ¬ b < 0 := fun z => h (decide_eq_true z)
        exact fin _ (by unfold KM.sg; rw [if_neg h']) _
end
end K30
set_option Elab.async false
set_option linter.all false
set_option maxRecDepth 100000
set_option maxHeartbeats 4000000
namespace K30
open PySem PySem.Spec PyProof.Rows L2
open C8 (Cal Mak Met pe_c pe_mk pe_mt pe_mt0)
section
variable {P : Program} {w : World} {K : PySem.W.Frag} {mg : Str → Option Value} {base : Heap} {f C : Addr} {fd : FuncData}
abbrev MakS (P : Program) (w : World) (K : PySem.W.Frag) (mg : Str → Option Value) (base : Heap) (C : Addr) : Prop := Mak P w K mg base 2 "Share" C (spInit C) []
/-- Share(t, b): what is left to show -/
theorem mk_at {H1 : Hp} {t b : Int} {n : Nat} {Q : VK} (hb : b ≠ 0) (hn : b.natAbs < 2 ^ n) (hn0 : 0 < n) (hn9 : n ≤ 9000)
    (hQ : ∀ r H', Same H1 H' → H1 r = none → Sh C H' r (KM.low t b) → Q (.ref r) H') :
    ∀ x dx, H1 x = none → H1 dx = none → dx ≠ x → spInit C (.ref x :: ([V.int t, V.int b] ++ [])) (upd (upd H1 dx (.own x)) x (.ins C dx [])) (fun v H2 => v = .non ∧ Q (.ref x) H2) E0 := by
  intro x dx nx nd ne
  refine ⟨x, dx, t, b, n, rfl, hb, hn, hn0, hn9, upd_same, fun H' kp hp => ⟨rfl, hQ x H' (fun a o e => ?_) nx ⟨dx, hp⟩⟩⟩
  refine kp a o (ne_of_none e nx) ?_
  rw [upd_ne (ne_of_none e nx), upd_ne (ne_of_none e nd)]
  exact e
theorem mul_pos_ne {a b : Int} (ha : 0 < a) (hb : 0 < b) : a * b ≠ 0 := fun z => by
  have := Int.mul_pos ha hb
  omega
def two (n : Nat) (a b : Int × Int) : Prop := Bd n a ∧ Bd n b ∧ 0 < n ∧ n ≤ 4000
end
end K30
set_option Elab.async false
set_option linter.all false
set_option maxRecDepth 100000
set_option maxHeartbeats 4000000
namespace K30
open PySem PySem.Spec PyProof.Rows L2
open C8 (Cal Mak Met pe_c pe_mk pe_mt pe_mt0)
/-- the held dict's pairs -/
def hd0 (l : Addr) (n m : Int) : List (Key × V) := [(Sum.inr "cells", .ref l), (Sum.inr "at", .int n), (Sum.inr "left", .int m)]
theorem hd_cells (l : Addr) (n m : Int) : valV (hd0 l n m) (Sum.inr "cells") = some (.ref l) := valV_pos rfl
theorem k1 : ¬ (("cells" : Str) = "at") := by decide +kernel
theorem k2 : ¬ (("cells" : Str) = "left") := by decide +kernel
theorem k3 : ¬ (("at" : Str) = "left") := by decide +kernel
theorem k1' : ¬ (("at" : Str) = "cells") := by decide +kernel
theorem k3' : ¬ (("left" : Str) = "at") := by decide +kernel
theorem inr_ne {x y : Str} (h : ¬ x = y) : ¬ ((Sum.inr x : Key) = Sum.inr y) := fun z => h (Sum.inr.inj z)
theorem hd_at (l : Addr) (n m : Int) : valV (hd0 l n m) (Sum.inr "at") = some (.int n) := (valV_neg (inr_ne k1)).trans (valV_pos rfl)
theorem hd_left (l : Addr) (n m : Int) : valV (hd0 l n m) (Sum.inr "left") = some (.int m) := (valV_neg (inr_ne k2)).trans ((valV_neg (inr_ne k3)).trans (valV_pos rfl))
theorem put_at (l : Addr) (n m k : Int) : putK (hd0 l n m) (Sum.inr "at") (.int k) = hd0 l k m := by
  unfold putK hd0
  simp [k1, k3']
theorem put_left (l : Addr) (n m k : Int) : putK (hd0 l n m) (Sum.inr "left") (.int k) = hd0 l n k := by
  unfold putK hd0
  simp [k2, k3]
theorem hd_merge (l : Addr) (n m : Int) : mergeK [] (hd0 l n m) = hd0 l n m := by
  simp [mergeK, hd0, putK, k1, k2, k3]
/-- the held dict at h, good for c draws more -/
def Held (H : Hp) (h : Addr) (c : Nat) : Prop := ∃ (l : Addr) (ns : List Int) (n m : Int), H h = some (.dK (hd0 l n m)) ∧ H l = some (.lst (ns.map V.int)) ∧ 0 ≤ n ∧ n + c ≤ 1000000000
theorem Held.weak {H : Hp} {h : Addr} {c c' : Nat} (hc : c' ≤ c) (x : Held H h c) : Held H h c' := by
  obtain ⟨l, ns, n, m, h1, h2, h3, h4⟩ := x
  exact ⟨l, ns, n, m, h1, h2, h3, by omega⟩
/-- all but h is kept -/
def Kp (h : Addr) (H H' : Hp) : Prop := (∀ b o, H b = some o → b ≠ h → H' b = some o) ∧ ∀ l n m, H h = some (.dK (hd0 l n m)) → ∃ n' m', H' h = some (.dK (hd0 l n' m'))
theorem Kp.refl (h : Addr) (H : Hp) : Kp h H H := ⟨fun _ _ e _ => e, fun _ n m e => ⟨n, m, e⟩⟩
theorem Kp.trans {h : Addr} {H H1 H2 : Hp} (a : Kp h H H1) (b : Kp h H1 H2) : Kp h H H2 := ⟨fun c o e n => b.1 c o (a.1 c o e n) n, fun l n m e => let ⟨n', m', e'⟩ := a.2 l n m e; b.2 l n' m' e'⟩
theorem Kp.same {h : Addr} {H H1 : Hp} (a : Same H H1) : Kp h H H1 := ⟨fun c o e _ => a c o e, fun _ n m e => ⟨n, m, a _ _ e⟩⟩
theorem hd_inj {l l' : Addr} {n m n' m' : Int} (h : HO.dK (hd0 l n m) = HO.dK (hd0 l' n' m')) : l = l' := by
  injection h with h
  injection h with h _
  injection h with _ h
  injection h
/-- the held dict put anew -/
theorem Kp.put {h l : Addr} {H : Hp} {n m : Int} (n' m' : Int) (e : H h = some (.dK (hd0 l n m))) : Kp h H (upd H h (.dK (hd0 l n' m'))) := by
  refine ⟨fun c o z ne => by rw [upd_ne ne]; exact z, fun l' n1 m1 z => ⟨n', m', ?_⟩⟩
  rw [upd_same, hd_inj (Option.some.inj (z.symm.trans e))]
theorem Held.same {H H' : Hp} {h : Addr} {c : Nat} (s : Same H H') (x : Held H h c) : Held H' h c := by
  obtain ⟨l, ns, n, m, h1, h2, h3, h4⟩ := x
  exact ⟨l, ns, n, m, s _ _ h1, s _ _ h2, h3, h4⟩
theorem same_new {H : Hp} {p : Addr} {o : HO} (h : H p = none) : Same H (upd H p o) := fun a u e => by
  rw [upd_ne (ne_of_none e h)]
  exact e
theorem dpInts {K : PySem.W.Frag} {H : Hp} : ∀ ns : List Int, DpAll K H (ns.map V.int) (ns.map PyData.int)
  | [] => .nil
  | n :: ns => .cons (.int n) (dpInts ns)
section
variable {P : Program} {w : World} {K : PySem.W.Frag} {mg : Str → Option Value} {base : Heap} {f C : Addr} {fd : FuncData}
def spHeld (K : PySem.W.Frag) : Sp := fun vs H Q _ => ∃ (a : Addr) (ns : List Int), vs = [.ref a] ∧ SqL K H a (ns.map V.int) ∧ ns.length ≤ 63 ∧ ∀ h H', Same H H' → H h = none → Held H' h 900000000 → Q (.ref h) H'
theorem ok_held (F : Dn K d_l_held f fd) (b : Bl mg) : FnOk P w K mg base CX0 1 f fd ["_law_script"] (spHeld K) := by
  refine F.ok sc_l_held (fun vs H Q E h => ?_) (fun cdv A outer s H vs Q E hr h => ?_)
  · obtain ⟨a, ns, rfl, _⟩ := h
    rfl
  · obtain ⟨a, ns, rfl, hS, hlen, hQ⟩ := h
    refine ⟨_, PSs.nox (pss_one (ps_ret (pe_disp (pps_cons pe_str (pe_callTy call_list_of rfl b.list boot_list (pa_cons (pe_slice sl_list (pv 0) po_none (po_some pe_int)) pa_nil)) (pps_cons pe_str pe_int (pps_cons pe_str pe_int pps_nil))) rfl rfl (by simp) (by decide)))), ?_⟩
    intro h hh
    have sS : SqL K (upd H h (.dK [])) a (ns.map V.int) := (same_new hh).seq hS
    refine ⟨_, rfl, 63, rfl, a, _, rfl, sS, fun p hp => ⟨p, _, rfl, Or.inl (SqL.of upd_same), fun l hl => ?_⟩⟩
    have nhp : h ≠ p := ne_of_none upd_same hp
    have nhl : h ≠ l := ne_of_none (by rw [upd_ne nhp]; exact upd_same) hl
    refine ⟨by rw [upd_ne nhl, upd_ne nhp, upd_same], hd0 l 0 0, rfl, by show 3 ≤ 15; decide, ?_⟩
    have e : cutV (ns.map V.int) none (some 63) = (ns.take 63).map V.int := by
      unfold cutV
      simp [HT.sIx, List.map_take]
    refine hQ h _ (fun c o z => ?_) hh ⟨l, ns.take 63, 0, 0, ?_, ?_, by decide, by decide⟩
    · have z1 : c ≠ h := ne_of_none z hh
      have z2 : (upd H h (.dK [])) c = some o := by rw [upd_ne z1]; exact z
      have z3 : c ≠ p := ne_of_none z2 hp
      have z4 : c ≠ l := ne_of_none (by rw [upd_ne z3]; exact z2) hl
      rw [upd_ne z1, upd_ne z4, upd_ne z3]
      exact z2
    · rw [upd_same, hd_merge]
    · rw [upd_ne nhl.symm, upd_same, ← e]

def spDraw : Sp := fun vs H Q _ => ∃ (h : Addr) (c : Nat) (k : Int), vs = [.ref h, .int k] ∧ Held H h (c + 1) ∧ 0 < k ∧ k < 1073741824 ∧
  ∀ r H', 0 ≤ r → r < k → Held H' h c → Kp h H H' → Q (.int r) H'
theorem cb_l {i j : Int} (h1 : -(2 ^ 64) < i) (h2 : i < 2 ^ 64) : CMul i j := .inl ⟨h1, h2⟩
theorem cb_r {i j : Int} (h1 : -(2 ^ 64) < j) (h2 : j < 2 ^ 64) : CMul i j := .inr ⟨h1, h2⟩
theorem ok_draw (F : Dn K d_l_draw f fd) (b : Bl mg) : FnOk P w K mg base CX0 1 f fd ["_law_held_here", "_law_many"] spDraw := by
  refine F.ok sc_l_draw (fun vs H Q E h => ?_) (fun cdv A outer s H vs Q E hr h => ?_)
  · obtain ⟨h, c, k, rfl, _⟩ := h
    rfl
  · obtain ⟨h, c, k, rfl, ⟨l, ns, n, m, hh, hl, hn, hc⟩, hk0, hk1, hQ⟩ := h
    have hu := hu_of hr
    have hu64 : (A.deeper (envOfC d_l_draw.qual d_l_draw.scope s.heap.objs.size f cdv)).units + 64 < cLine := by have := hr.un; omega
    have nlh : l ≠ h := ne_of hl hh (by intro z; cases z)
    refine ⟨_, PSs.nox (pss_cons (ps_if (pt_cmpR op_gt (pe_dget hu (pv 0) pe_str (fun _ _ => rfl)) pe_int (nomark _))
         (pss_cons (ps_set (i := 2) sc_l_draw.nd rfl (.inl rfl) (pe_op op_mod (pe_dget hu (pv 0) pe_str (fun _ _ => rfl)) (pv 1)))
         (pss_cons (ps_dput hu (pv 0) pe_str (pe_op op_fdiv (pe_dget hu (pv 0) pe_str (fun _ _ => rfl)) (pv 1)) rfl)
         (pss_one (ps_ret (pv 2))))) pss_nil)
      (pss_cons (ps_set (i := 3) sc_l_draw.nd rfl (.inl rfl) (pe_dget hu (pv 0) pe_str (fun _ _ => rfl)))
      (pss_cons (ps_dput hu (pv 0) pe_str (pe_op op_add (pv 3) pe_int) rfl)
      (C8.pss_cut (ps_set (i := 4) sc_l_draw.nd rfl (.inl rfl) (pe_ifExp (pt_cmpR (op_neD hu64) (pe_dget hu (pv 0) pe_str (fun _ _ => rfl)) (pe_lst pa_nil) (nomark _))
        (pe_ix ix_list (pe_dget hu (pv 0) pe_str (fun _ _ => rfl)) (pe_op op_mod (pv 3) (pe_callB call_len_seq rfl b.len boot_len (pa_cons (pe_dget hu (pv 0) pe_str (fun _ _ => rfl)) pa_nil))) (fun _ _ => rfl)) pe_int))
      (pss_cons (ps_if (PW.pt (pw_and (pt_cmpR op_ge (pv 4) (pe_op op_pow pe_int pe_int) (nomark _)) (pw_and1 (pt_cmpR op_lt (pv 3) (pe_callB call_len_seq rfl b.len boot_len (pa_cons (pe_dget hu (pv 0) pe_str (fun _ _ => rfl)) pa_nil)) (nomark _)))))
         (pss_cons (ps_dput hu (pv 0) pe_str (pe_op op_fdiv (pe_op op_sub (pv 4) (pe_op op_pow pe_int pe_int)) (pv 1)) rfl)
         (pss_one (ps_ret (pe_op op_mod (pe_op op_sub (pv 4) (pe_op op_pow pe_int pe_int)) (pv 1))))) pss_nil)
      (pss_cons (ps_set (i := 5) sc_l_draw.nd rfl (.inl rfl) (pe_op op_mod (pe_op op_add (pe_op op_add (pe_op op_add (pe_op op_mul (pe_op op_mod (pv 4) pe_int) pe_int) (pe_op op_mul (pe_op op_mul pe_int (pv 3)) (pv 3))) (pe_op op_mul pe_int (pv 3))) pe_int) pe_int))
      (pss_cons (ps_set (i := 5) sc_l_draw.nd rfl (.inl rfl) (pe_op op_mod (pe_op op_add (pe_op op_add (pe_op op_mul (pv 5) pe_int) (pe_op op_fdiv (pv 5) pe_int)) pe_int) pe_int))
      (pss_one (ps_ret (pe_op op_mod (pe_op op_fdiv (pv 5) pe_int) (pv 1))))))))))), ?_⟩
    have cM : ∀ x y : Int, 0 < y → (0 ≤ x % y ∧ x % y < y) := fun x y hy => ⟨Int.emod_nonneg _ (by omega), Int.emod_lt_of_pos _ hy⟩
    refine ⟨_, rfl, h, _, rfl, hd_left l n m ▸ DGet.k (k := Sum.inr "left") hh, _, _, rfl, rfl, _, rfl, ?_⟩
    refine ite2 (fun h1 => ?_) (fun h1 => ?_)
    · refine ⟨_, rfl, h, _, rfl, hd_left l n m ▸ DGet.k (k := Sum.inr "left") hh, _, rfl, _, _, rfl, rfl, hk0, ?_⟩
      refine ⟨_, rfl, h, _, rfl, hd_left l n m ▸ DGet.k (k := Sum.inr "left") hh, _, rfl, _, _, rfl, rfl, ⟨hk0, hk1⟩, _, rfl, h, _, rfl, DPut.k (k := Sum.inr "left") hh (by show 3 < sizeLine; decide), ?_⟩
      refine ⟨_, rfl, hQ _ _ (cM _ _ hk0).1 (cM _ _ hk0).2 ⟨l, ns, n, m / k, ?_, ?_, hn, by omega⟩ ?_⟩
      · rw [upd_same, put_left]
      · rw [upd_ne nlh]; exact hl
      · rw [put_left]; exact Kp.put _ _ hh
    · refine ⟨_, rfl, h, _, rfl, hd_at l n m ▸ DGet.k (k := Sum.inr "at") hh, ?_⟩
      refine ⟨_, rfl, _, _, rfl, rfl, _, rfl, h, _, rfl, DPut.k (k := Sum.inr "at") hh (by show 3 < sizeLine; decide), ?_⟩
      rw [put_at]
      have hh1 : (upd H h (.dK (hd0 l (n + 1) m))) h = some (.dK (hd0 l (n + 1) m)) := upd_same
      have hl1 : (upd H h (.dK (hd0 l (n + 1) m))) l = some (.lst (ns.map V.int)) := by rw [upd_ne nlh]; exact hl
      have kp1 : Kp h H (upd H h (.dK (hd0 l (n + 1) m))) := Kp.put _ _ hh
      refine ⟨fun σ' H' => ∃ (cell : Int), σ' = [some (.ref h), some (.int k), none, some (.int n), some (.int cell), none] ∧ H' h = some (.dK (hd0 l (n + 1) m)) ∧ H' l = some (.lst (ns.map V.int)) ∧ Kp h H H', ?_, ?_⟩
      · refine ⟨_, rfl, h, _, rfl, hd_cells l (n + 1) m ▸ DGet.k (k := Sum.inr "cells") hh1, (by show 0 ≤ sizeLine; decide), fun e he => ?_⟩
        have nhe : h ≠ e := ne_of_none hh1 he
        have nle : l ≠ e := ne_of_none hl1 he
        have hh2 : (upd (upd H h (.dK (hd0 l (n + 1) m))) e (.lst [])) h = some (.dK (hd0 l (n + 1) m)) := by rw [upd_ne nhe]; exact hh1
        have hl2 : (upd (upd H h (.dK (hd0 l (n + 1) m))) e (.lst [])) l = some (.lst (ns.map V.int)) := by rw [upd_ne nle]; exact hl1
        have kp2 : Kp h H (upd (upd H h (.dK (hd0 l (n + 1) m))) e (.lst [])) := kp1.trans (Kp.same (same_new he))
        refine ⟨.list (ns.map .int), .list [], Dp.lst (SqL.of hl2) (dpInts ns), Dp.lst (SqL.of upd_same) .nil, PySem.W.ke_shaped_ints ns, by decide, _, rfl, ?_⟩
        cases ns with
        | nil => exact iteF ⟨0, rfl, hh2, hl2, kp2⟩
        | cons z zs =>
          refine iteT ?_
          have hlen : (0 : Int) < (((z :: zs).map V.int).length : Int) := by simp
          refine ⟨_, rfl, h, _, rfl, hd_cells l (n + 1) m ▸ DGet.k (k := Sum.inr "cells") hh2, _, rfl, _, rfl, h, _, rfl, hd_cells l (n + 1) m ▸ DGet.k (k := Sum.inr "cells") hh2, l, _, rfl, Or.inl (SqL.of hl2), _, _, rfl, rfl, hlen, ?_⟩
          obtain ⟨q, hq⟩ := Int.eq_ofNat_of_zero_le (cM n _ hlen).1
          have hq2 := (cM n _ hlen).2
          rw [hq] at hq2
          have hq3 : q < (z :: zs).length := by rw [List.length_map] at hq2; omega
          refine ⟨l, _, _, .int ((z :: zs)[q]), rfl, rfl, SqL.of hl2, (by rw [hq]; exact atI_nat (by rw [List.getElem?_map, List.getElem?_eq_getElem hq3]; rfl)), ?_⟩
          exact ⟨_, rfl, hh2, hl2, kp2⟩
      · rintro σ' H' ⟨cell, rfl, hh2, hl2, kp2⟩
        have stay : ∀ m', Held (upd H' h (.dK (hd0 l (n + 1) m'))) h c := fun m' => ⟨l, ns, n + 1, m', upd_same, by rw [upd_ne nlh]; exact hl2, by omega, by omega⟩
        have stay0 : Held H' h c := ⟨l, ns, n + 1, m, hh2, hl2, by omega, by omega⟩
        have last : ∀ D : Ends, D.rt = Q → tSeq (tAsg (tOp (rI (fun _ j => 0 < j) fun i j => .int (i % j)) (tOp (rI0 fun i j => .int (i + j)) (tOp (rI0 fun i j => .int (i + j)) (tOp (rI0 fun i j => .int (i + j))
            (tOp (rI CMul fun i j => .int (i * j)) (tOp (rI (fun _ j => 0 < j) fun i j => .int (i % j)) (tVar 4) (tC (.int 2147483587))) (tC (.int 40692))) (tOp (rI CMul fun i j => .int (i * j)) (tOp (rI CMul fun i j => .int (i * j)) (tC (.int 7907)) (tVar 3)) (tVar 3)))
            (tOp (rI CMul fun i j => .int (i * j)) (tC (.int 104729)) (tVar 3))) (tC (.int 17))) (tC (.int 2147483629))) (gName 5))
          (tSeq (tAsg (tOp (rI (fun _ j => 0 < j) fun i j => .int (i % j)) (tOp (rI0 fun i j => .int (i + j)) (tOp (rI0 fun i j => .int (i + j)) (tOp (rI CMul fun i j => .int (i * j)) (tVar 5) (tC (.int 48271))) (tOp (rI CDiv fun i j => .int (i / j)) (tVar 5) (tC (.int 127)))) (tC (.int 31))) (tC (.int 2147483647))) (gName 5))
          (tRet (tOp (rI (fun _ j => 0 < j) fun i j => .int (i % j)) (tOp (rI CDiv fun i j => .int (i / j)) (tVar 5) (tC (.int 89))) (tVar 1)))) D [some (.ref h), some (.int k), none, some (.int n), some (.int cell), none] H' := by
          intro D hD
          refine ⟨_, rfl, _, _, rfl, rfl, (by decide : (0 : Int) < 2147483587), _, _, rfl, rfl, cb_r (by decide) (by decide), _, rfl, _, _, rfl, rfl, cb_l (by decide) (by decide), _, rfl, _, _, rfl, rfl, cb_r (by omega) (by omega), _, _, rfl, rfl, ?_⟩
          refine ⟨_, rfl, _, _, rfl, rfl, cb_l (by decide) (by decide), _, _, rfl, rfl, _, _, rfl, rfl, _, _, rfl, rfl, (by decide : (0 : Int) < 2147483629), ?_⟩
          refine ⟨_, rfl, _, _, rfl, rfl, cb_r (by decide) (by decide), _, rfl, _, _, rfl, rfl, ⟨by decide, by decide⟩, _, _, rfl, rfl, _, _, rfl, rfl, _, _, rfl, rfl, (by decide : (0 : Int) < 2147483647), ?_⟩
          refine ⟨_, rfl, _, _, rfl, rfl, ⟨by decide, by decide⟩, _, rfl, _, _, rfl, rfl, hk0, ?_⟩
          rw [hD]
          exact hQ _ _ (cM _ _ hk0).1 (cM _ _ hk0).2 stay0 kp2
        refine ⟨_, rfl, _, _, rfl, rfl, ⟨by decide, by decide, by decide⟩, _, _, rfl, rfl, _, rfl, ?_⟩
        refine ite2 (fun g1 => ?_) (fun g1 => iteF (last _ rfl))
        refine ⟨_, rfl, _, rfl, h, _, rfl, hd_cells l (n + 1) m ▸ DGet.k (k := Sum.inr "cells") hh2, l, _, rfl, Or.inl (SqL.of hl2), _, _, rfl, rfl, _, rfl, ?_⟩
        refine ite2 (fun g2 => ?_) (fun g2 => last _ rfl)
        refine ⟨_, rfl, _, _, rfl, rfl, ⟨by decide, by decide, by decide⟩, _, _, rfl, rfl, _, rfl, _, _, rfl, rfl, ⟨hk0, hk1⟩, _, rfl, h, _, rfl, DPut.k (k := Sum.inr "left") hh2 (by show 3 < sizeLine; decide), ?_⟩
        refine ⟨_, rfl, _, _, rfl, rfl, ⟨by decide, by decide, by decide⟩, _, _, rfl, rfl, _, rfl, _, _, rfl, rfl, hk0, ?_⟩
        rw [put_left]
        refine hQ _ _ (cM _ _ hk0).1 (cM _ _ hk0).2 (stay _) (kp2.trans (Kp.put _ _ hh2))
end
end K30
set_option linter.all false
namespace KM
/-- top and bottom of a rational number -/
def pr (r : Rat) : Int × Int := (r.num, (r.den : Int))
theorem pr_inj {r s : Rat} (h : pr r = pr s) : r = s := by
  have h1 : r.num = s.num := congrArg Prod.fst h
  have h2 : (r.den : Int) = (s.den : Int) := congrArg Prod.snd h
  rw [← Rat.num_divInt_den r, ← Rat.num_divInt_den s, h1, h2]
theorem den_ne (r : Rat) : (r.den : Int) ≠ 0 := by
  have := r.den_nz
  omega
theorem den_pos (r : Rat) : 0 < (r.den : Int) := by
  have := r.den_nz
  omega
theorem low_eq {t b : Int} (h : b ≠ 0) : low t b = pr (Rat.divInt t b) := by
  have hp := low_pos (t := t) h
  have hc := low_cop (t := t) h
  obtain ⟨d, hd⟩ := Int.eq_ofNat_of_zero_le (Int.le_of_lt hp)
  have hd0 : d ≠ 0 := by
    intro z
    rw [z] at hd
    omega
  have hcop : (low t b).1.natAbs.Coprime d := by
    have : Int.gcd (low t b).1 (low t b).2 = 1 := hc
    rw [hd] at this
    exact this
  have e1 : Rat.divInt (low t b).1 (d : Int) = Rat.divInt t b := by
    rw [Rat.divInt_eq_divInt_iff (by omega) h, ← hd]
    have h1 := low_top (t := t) (b := b)
    have h2 := low_bot (t := t) (b := b)
    calc (low t b).1 * b = (low t b).1 * (sg t b * (low t b).2) := by rw [h2]
      _ = sg t b * (low t b).1 * (low t b).2 := by rw [← Int.mul_assoc, Int.mul_comm (low t b).1]
      _ = t * (low t b).2 := by rw [h1]
  have e2 : ({ num := (low t b).1, den := d, den_nz := hd0, reduced := hcop } : Rat) = Rat.divInt t b := by rw [Rat.mk_eq_divInt, e1]
  rw [← e2]
  exact Prod.ext rfl hd
theorem pr_plus (r s : Rat) : low ((pr r).1 * (pr s).2 + (pr s).1 * (pr r).2) ((pr r).2 * (pr s).2) = pr (r + s) := by
  show low (r.num * s.den + s.num * r.den) (r.den * s.den) = _
  rw [low_eq (Int.mul_ne_zero (den_ne r) (den_ne s)), ← Rat.divInt_add_divInt _ _ (den_ne r) (den_ne s), Rat.num_divInt_den, Rat.num_divInt_den]
theorem pr_less (r s : Rat) : low ((pr r).1 * (pr s).2 - (pr s).1 * (pr r).2) ((pr r).2 * (pr s).2) = pr (r - s) := by
  show low (r.num * s.den - s.num * r.den) (r.den * s.den) = _
  rw [low_eq (Int.mul_ne_zero (den_ne r) (den_ne s)), ← Rat.divInt_sub_divInt _ _ (den_ne r) (den_ne s), Rat.num_divInt_den, Rat.num_divInt_den]
theorem pr_times (r : Rat) (k : Int) : low ((pr r).1 * k) (pr r).2 = pr (r * (Rat.divInt k 1)) := by
  show low (r.num * k) r.den = _
  have e : Rat.divInt (r.num * k) (r.den : Int) = Rat.divInt r.num r.den * Rat.divInt k 1 := by rw [Rat.divInt_mul_divInt, Int.mul_one]
  rw [low_eq (den_ne r), e, Rat.num_divInt_den]
theorem pr_over (r : Rat) {k : Int} (h : k ≠ 0) : low (pr r).1 ((pr r).2 * k) = pr (r * (Rat.divInt 1 k)) := by
  show low r.num (r.den * k) = _
  have e : Rat.divInt r.num (r.den * k : Int) = Rat.divInt r.num r.den * Rat.divInt 1 k := by rw [Rat.divInt_mul_divInt, Int.mul_one]
  rw [low_eq (Int.mul_ne_zero (den_ne r) h), e, Rat.num_divInt_den]
theorem inv_k {k : Int} (h : k ≠ 0) : Rat.divInt k 1 * Rat.divInt 1 k = 1 := by
  rw [Rat.divInt_mul_divInt, Int.mul_one, Int.one_mul]
  exact Rat.divInt_self' h
theorem pr_lt (r s : Rat) : ((pr r).1 * (pr s).2 < (pr s).1 * (pr r).2) ↔ r < s := (Rat.lt_iff r s).symm
theorem pr_bot (r : Rat) : 0 < (pr r).2 := den_pos r
theorem add_back (r s : Rat) : r + s - s = r := by
  rw [Rat.sub_eq_add_neg, Rat.add_assoc, Rat.add_neg_cancel, Rat.add_zero]
theorem sub_back (r s : Rat) : r - s + s = r := by
  rw [Rat.sub_eq_add_neg, Rat.add_assoc, Rat.neg_add_cancel, Rat.add_zero]
theorem mul_back (r : Rat) {k : Int} (h : k ≠ 0) : r * Rat.divInt k 1 * Rat.divInt 1 k = r := by
  rw [Rat.mul_assoc, inv_k h, Rat.mul_one]
theorem div_back (r : Rat) {k : Int} (h : k ≠ 0) : r * Rat.divInt 1 k * Rat.divInt k 1 = r := by
  rw [Rat.mul_assoc, Rat.mul_comm (Rat.divInt 1 k), inv_k h, Rat.mul_one]
/-- small -/
def Sz (n : Nat) (r : Rat) : Prop := r.num.natAbs < 2 ^ n ∧ r.den < 2 ^ n
theorem Sz.mono {n m : Nat} {r : Rat} (h : Sz n r) (hm : n ≤ m) : Sz m r := ⟨Nat.lt_of_lt_of_le h.1 (Nat.pow_le_pow_right (by decide) hm), Nat.lt_of_lt_of_le h.2 (Nat.pow_le_pow_right (by decide) hm)⟩
theorem sz_of_low {t b : Int} {n : Nat} (hb : b ≠ 0) (h1 : t.natAbs < 2 ^ n) (h2 : b.natAbs < 2 ^ n) : Sz n (Rat.divInt t b) := by
  have e := low_eq (t := t) hb
  have e1 : (low t b).1 = (Rat.divInt t b).num := congrArg Prod.fst e
  have e2 : (low t b).2 = ((Rat.divInt t b).den : Int) := congrArg Prod.snd e
  have l1 := low_top_le (t := t) hb
  have l2 := low_bot_le (t := t) hb
  constructor
  · rw [← e1]; omega
  · have : ((low t b).2).natAbs < 2 ^ n := by omega
    rw [e2] at this
    simpa using this
theorem two_lt {x y n m : Nat} (h1 : x < 2 ^ n) (h2 : y < 2 ^ m) : x * y < 2 ^ (n + m) := by
  rw [Nat.pow_add]
  exact Nat.mul_lt_mul'' h1 h2
theorem sz_sum {a b c d : Int} {n m : Nat} (h1 : a.natAbs < 2 ^ n) (h2 : d.natAbs < 2 ^ m) (h3 : c.natAbs < 2 ^ m) (h4 : b.natAbs < 2 ^ n) : (a * d + c * b).natAbs < 2 ^ (n + m + 1) ∧ (a * d - c * b).natAbs < 2 ^ (n + m + 1) := by
  have e1 : (a * d).natAbs < 2 ^ (n + m) := by rw [Int.natAbs_mul]; exact two_lt h1 h2
  have e2 : (c * b).natAbs < 2 ^ (n + m) := by rw [Int.natAbs_mul, Nat.add_comm]; exact two_lt h3 h4
  have e3 : 2 ^ (n + m + 1) = 2 * 2 ^ (n + m) := by rw [Nat.pow_succ, Nat.mul_comm]
  omega
theorem sz_plus {n m : Nat} {r s : Rat} (hr : Sz n r) (hs : Sz m s) : Sz (n + m + 1) (r + s) ∧ Sz (n + m + 1) (r - s) := by
  have d1 : ((r.den : Int)).natAbs < 2 ^ n := by simpa using hr.2
  have d2 : ((s.den : Int)).natAbs < 2 ^ m := by simpa using hs.2
  have hd : ((r.den : Int) * s.den).natAbs < 2 ^ (n + m + 1) := by
    have : ((r.den : Int) * s.den).natAbs < 2 ^ (n + m) := by rw [Int.natAbs_mul]; exact two_lt d1 d2
    exact Nat.lt_of_lt_of_le this (Nat.pow_le_pow_right (by decide) (by omega))
  have hn := sz_sum hr.1 d2 hs.1 d1
  have ne := Int.mul_ne_zero (den_ne r) (den_ne s)
  constructor
  · have := sz_of_low ne hn.1 hd
    rw [← Rat.divInt_add_divInt _ _ (den_ne r) (den_ne s), Rat.num_divInt_den, Rat.num_divInt_den] at this
    exact this
  · have := sz_of_low ne hn.2 hd
    rw [← Rat.divInt_sub_divInt _ _ (den_ne r) (den_ne s), Rat.num_divInt_den, Rat.num_divInt_den] at this
    exact this
theorem sz_times {n m : Nat} {r : Rat} {k : Int} (hr : Sz n r) (hk : k.natAbs < 2 ^ m) : Sz (n + m) (r * Rat.divInt k 1) := by
  have e : r * Rat.divInt k 1 = Rat.divInt (r.num * k) r.den := by
    have : Rat.divInt (r.num * k) (r.den : Int) = Rat.divInt r.num r.den * Rat.divInt k 1 := by rw [Rat.divInt_mul_divInt, Int.mul_one]
    rw [this, Rat.num_divInt_den]
  rw [e]
  refine sz_of_low (den_ne r) (by rw [Int.natAbs_mul]; exact two_lt hr.1 hk) ?_
  have d1 : ((r.den : Int)).natAbs < 2 ^ n := by simpa using hr.2
  exact Nat.lt_of_lt_of_le d1 (Nat.pow_le_pow_right (by decide) (by omega))
theorem sz_over {n m : Nat} {r : Rat} {k : Int} (hr : Sz n r) (h : k ≠ 0) (hk : k.natAbs < 2 ^ m) : Sz (n + m) (r * Rat.divInt 1 k) := by
  have e : r * Rat.divInt 1 k = Rat.divInt r.num (r.den * k) := by
    have : Rat.divInt r.num (r.den * k : Int) = Rat.divInt r.num r.den * Rat.divInt 1 k := by rw [Rat.divInt_mul_divInt, Int.mul_one]
    rw [this, Rat.num_divInt_den]
  rw [e]
  have d1 : ((r.den : Int)).natAbs < 2 ^ n := by simpa using hr.2
  refine sz_of_low (Int.mul_ne_zero (den_ne r) h) (Nat.lt_of_lt_of_le hr.1 (Nat.pow_le_pow_right (by decide) (by omega))) ?_
  rw [Int.natAbs_mul]
  exact two_lt d1 hk
end KM
set_option Elab.async false
set_option linter.all false
set_option maxRecDepth 100000
set_option maxHeartbeats 4000000
/-! KW: calls by keywords alone: f(k = v, ..), o.m(k = v, ..). -/
namespace KW
open PySem PySem.Spec PyProof.Rows L2
section
variable {X : Cx} {k j : Nat} {C f : Addr} {fd : FuncData} {ps ks : List Str} {sp : Sp} {x m : Str} {p pos apos : Pos} {o : Expr} {kws : List Keyword} {ta : TE} {tk : TA} {g : List Value → List Value → List Value} {gV : List V → List V → List V}
theorem pe_cK (F : FnOk X.prog X.w X.K X.mg X.base CX0 k f fd ps sp) (hr : Room k X.A) (hg : Gl X x) (hm : X.mg x = some (.ref f)) (hk : PySem.W.keepIn X.K (.ref f) = true) (hb : KBn X.K fd ps 0 ks g gV) (hkw : PK X kws tk)
    (hall : (backToKw pos (keywordEach kws X.env)).all (·.1.isSome) = true := by rfl) (hks : (backToKw pos (keywordEach kws X.env)).filterMap (·.1) = ks := by rfl) (hdb : (x == ("__debug__" : Str)) = false := by decide)
    (hpl : ((backTo pos (starEach [] X.env)).any (·.1) || (backToKw pos (keywordEach kws X.env)).any (·.1.isNone)) = false := by rfl) :
    PE X (.Call (.Name x p) [] kws pos) (fun σ H Q => tk σ H fun zs H1 => zs.length = ks.length ∧ sp (gV [] zs) H1 Q E0) := by
  refine ⟨fun pins s σ H Q I h => wpAny_Call_Name_kw (ld_glob I hg hm (PySem.W.callWith_KW0 (h₀ := X.base) I.ok.mod.kin hk hall ?_ hpl) hdb)⟩
  refine thn (hkw.run pos pins s σ H _ I h) fun ws s2 ⟨zs, H2, I2, rz, l2, q2⟩ => ⟨I2.kIn, ?_⟩
  rw [hks]
  exact run_fnN (us := []) (vs := []) F hr hb (fun _ _ _ _ _ _ _ h => False.elim h) I2 .nil rz rfl l2 q2
theorem pe_mtK {pl : Sem Bool} (he : PE X o ta) (c : Cls X.K C) (hm : Meth X.K C m f) (F : FnOk X.prog X.w X.K X.mg X.base CX0 k f fd ps sp) (hr : Room k X.A) (hb : KBn X.K fd ps 1 ks g gV) (hkw : PK X kws tk)
    (hall : (backToKw pos (keywordEach kws X.env)).all (·.1.isSome) = true := by rfl) (hks : (backToKw pos (keywordEach kws X.env)).filterMap (·.1) = ks := by rfl)
    (hpl : ((backTo pos (starEach [] X.env)).any (·.1) || (backToKw pos (keywordEach kws X.env)).any (·.1.isNone)) = false := by rfl)
    (ht : eval (.Call (.Attribute o m apos) [] kws pos) X.env = (do
      let ov ← eval o X.env
      standAt apos.atName
      let (f, first) ← holding [ov] (getMethod ov m pl)
      callWith pos f first (backTo pos (starEach [] X.env)) (backToKw pos (keywordEach kws X.env))) := by rfl) :
    PE X (.Call (.Attribute o m apos) [] kws pos) (fun σ H Q => ta σ H fun x H1 => ∃ a dx fs, x = .ref a ∧ H1 a = some (.ins C dx fs) ∧ fs.lookup m = none ∧ tk σ H1 fun zs H2 => zs.length = ks.length ∧ sp (gV [.ref a] zs) H2 Q E0) := by
  refine ⟨fun pins s σ H Q I h => ?_⟩
  refine PySem.W.methodCall_KW (pl := pl) (thn (he.run pins s σ H _ I h) fun u s1 ⟨x, H1, I1, rx, a, dx, fs, ex, ea, l, q⟩ => ?_) ht
  subst ex
  obtain rfl : u = Value.ref a := rx
  refine getmeth_ok I1 ea c hm l (PySem.W.callWith_KW0 (first := [.ref a]) (h₀ := X.base) I.ok.mod.kin hm.kp hall ?_ hpl)
  refine thn (hkw.run pos pins s1 σ H1 _ I1 q) fun ws s2 ⟨zs, H2, I2, rz, l2, q2⟩ => ⟨I2.kIn, ?_⟩
  rw [hks]
  exact run_fnN (us := [.ref a]) (vs := [.ref a]) F hr hb (fun _ _ _ _ _ _ _ h => False.elim h) I2 (.cons rfl .nil) rz rfl l2 q2
end
end KW
set_option Elab.async false
set_option linter.all false
set_option maxRecDepth 100000
set_option maxHeartbeats 4000000
namespace K30
open PySem PySem.Spec PyProof.Rows L2
open C8 (Cal Mak Met pe_c pe_mk pe_mt pe_mt0)
open KM (pr Sz)
/-- what isinstance asks of the class -/
structure IsC (K : PySem.W.Frag) (C : Addr) : Prop where
  ha : PySem.W.findIn K (.ref C) "__class__" = some (some (.builtin "object.__class__"))
  hn : PySem.W.specialIn K (.builtin "object.__class__") "__get__" = some (some (.builtin "getset_descriptor.__get__"))
  htk : PySem.W.takesIn K (.builtin "object.__class__") = some true
  hm : PySem.W.mroIn K C (.type "object") = some true
  kit : PySem.W.kitOne K (.ref C) (.ref C) = some true
theorem bd_of {n : Nat} {r : Rat} (h : Sz n r) : Bd n (pr r) := ⟨h.1, KM.den_pos r, by simpa [pr] using h.2⟩

section
variable {P : Program} {w : World} {K : PySem.W.Frag} {mg : Str → Option Value} {base : Heap} {f C : Addr} {fd : FuncData}
abbrev CalD (P : Program) (w : World) (K : PySem.W.Frag) (mg : Str → Option Value) (base : Heap) : Prop := Cal P w K mg base 1 "_law_draw" spDraw []
def tupP (q : Int × Int) : HO := .tup [.int q.1, .int q.2]
def spLow : Sp := fun vs H Q _ => ∃ (t b : Int) (n : Nat), vs = [.int t, .int b] ∧ b ≠ 0 ∧ b.natAbs < 2 ^ n ∧ 0 < n ∧ n ≤ 9000 ∧ ∀ r, H r = none → Q (.ref r) (upd H r (tupP (KM.low t b)))
theorem ok_low (F : Dn K d_l_low f fd) (b : Bl mg) : FnOk P w K mg base CX0 1 f fd ["_law_top", "_law_bottom"] spLow := by
  refine F.ok sc_l_low (fun vs H Q E h => ?_) (fun cdv A outer s H vs Q E hr h => ?_)
  · obtain ⟨t, b, n, rfl, _⟩ := h
    rfl
  · obtain ⟨x, y, n, rfl, hy, hn, hn0, hn9, hQ⟩ := h
    refine ⟨_, PSs.nox (pss_cons (ps_par (i := 2) (j := 3) rfl sc_l_low.nd rfl rfl (by decide) rfl rfl (pa_cons (pe_callB call_abs rfl b.abs boot_abs (pa_cons (pv 0) pa_nil)) (pa_cons (pe_callB call_abs rfl b.abs boot_abs (pa_cons (pv 1) pa_nil)) pa_nil)) rfl)
      (pss_cons (ps_while PassesOwn.never (pt_cmpR op_gt (pv 3) pe_int (nomark _)) (pss_one (ps_par (i := 2) (j := 3) rfl sc_l_low.nd rfl rfl (by decide) rfl rfl (pa_cons (pv 3) (pa_cons (pe_op op_mod (pv 2) (pv 3)) pa_nil)) rfl)))
      (C8.pss_cut (ps_if (pt_cmpR op_lt (pv 1) pe_int (nomark _)) (pss_one (ps_set (i := 2) sc_l_low.nd rfl (.inl rfl) (pe_op op_sub pe_int (pv 2)))) pss_nil)
      (pss_one (ps_ret (pe_tup (pa_cons (pe_op op_fdW (pv 0) (pv 2)) (pa_cons (pe_op op_fdW (pv 1) (pv 2)) pa_nil)))))))), ?_⟩
    refine ⟨_, rfl, _, rfl, _, rfl, _, rfl, _, _, rfl, while_by (fun σ H2 => H2 = H ∧ ∃ a c : Int, σ = [some (.int x), some (.int y), some (.int a), some (.int c)] ∧ 0 ≤ a ∧ 0 ≤ c ∧ Int.gcd a c = Int.gcd x y)
      (fun σ _ => match σ with | [_, _, _, some (.int c)] => c.toNat | _ => 0) ⟨rfl, _, _, rfl, ?_, ?_, ?_⟩ ?_ ?_⟩
    · split <;> omega
    · split <;> omega
    · rw [abs_eq, abs_eq]
      rfl
    · rintro σ H2 ⟨rfl, a, c, rfl, ha, hc, hg⟩
      refine ⟨_, rfl, _, _, rfl, rfl, _, rfl, ?_⟩
      refine ite2 (fun g => ?_) (fun g => ?_)
      · have hp : 0 < c := of_decide_eq_true g
        refine ⟨_, rfl, _, rfl, _, rfl, _, _, rfl, rfl, hp, _, _, rfl, ⟨rfl, _, _, rfl, hc, Int.emod_nonneg _ (by omega), ?_⟩, ?_⟩
        · rw [KM.gcd_turn ha hp, hg]
        · show (a % c).toNat < c.toNat
          have h1 := Int.emod_nonneg a (show c ≠ 0 by omega)
          have h2 := Int.emod_lt_of_pos a hp
          omega
      · have h0 : c = 0 := by
          have : ¬ 0 < c := fun z => g (decide_eq_true z)
          omega
        subst h0
        have e : Int.gcd x y = a.natAbs := by rw [← hg]; simp
        refine ⟨fun σ' H' => H' = H2 ∧ ∃ v, σ' = [some (.int x), some (.int y), some (.int (KM.sg x y)), v], ?_, ?_⟩
        · refine ⟨_, rfl, _, _, rfl, rfl, _, rfl, ?_⟩
          refine ite2 (fun g1 => ?_) (fun g1 => ?_)
          · refine ⟨_, rfl, _, _, rfl, rfl, rfl, some (.int 0), ?_⟩
            have e2 : KM.sg x y = 0 - a := by unfold KM.sg; rw [if_pos (of_decide_eq_true g1), e]; omega
            rw [e2]
            rfl
          · refine ⟨rfl, some (.int 0), ?_⟩
            have e2 : KM.sg x y = a := by unfold KM.sg; rw [if_neg (fun z => g1 (decide_eq_true z)), e]; omega
            rw [e2]
        · rintro σ' H' ⟨rfl, v, rfl⟩
          have hs9 : (KM.sg x y).natAbs.log2 < 9000 := log_lt (Nat.lt_of_le_of_lt (KM.sg_le hy) hn) hn0 hn9
          refine ⟨_, rfl, _, rfl, _, _, rfl, rfl, ⟨KM.sg_ne hy, hs9⟩, _, rfl, _, rfl, _, _, rfl, rfl, ⟨KM.sg_ne hy, hs9⟩, (by show 2 ≤ sizeLine; decide), fun r hr => hQ r hr⟩
    · rintro σ H2 Q1 Q2 hm ⟨v, hv, i, j, e1, e2, k, hk, q⟩
      exact ⟨v, hv, i, j, e1, e2, k, hk, hm _ _ q⟩
abbrev CalL (P : Program) (w : World) (K : PySem.W.Frag) (mg : Str → Option Value) (base : Heap) : Prop := Cal P w K mg base 1 "_law_low" spLow []
def spAdd : Sp := fun vs H Q _ => ∃ (p q : Addr) (a b : Int × Int) (n : Nat), vs = [.ref p, .ref q] ∧ H p = some (tupP a) ∧ H q = some (tupP b) ∧ two n a b ∧
  ∀ r, H r = none → Q (.ref r) (upd H r (tupP (KM.low (a.1 * b.2 + b.1 * a.2) (a.2 * b.2))))
theorem at0 {a b : V} : atI [a, b] 0 = some a := rfl
theorem at1 {a b : V} : atI [a, b] 1 = some b := rfl
theorem ok_add (F : Dn K d_l_add f fd) (cL : CalL P w K mg base) : FnOk P w K mg base CX0 2 f fd ["_law_one", "_law_other"] spAdd := by
  refine F.ok sc_l_add (fun vs H Q E h => ?_) (fun cdv A outer s H vs Q E hr h => ?_)
  · obtain ⟨p, q, a, b, n, rfl, _⟩ := h
    rfl
  · obtain ⟨p, q, a, b, n, rfl, hp, hq, ⟨ba, bb, hn0, hn9⟩, hQ⟩ := h
    refine ⟨_, PSs.nox (pss_one (ps_ret (pe_c cL hr (by decide) rfl (pa_cons (pe_op op_add (pe_op op_mulW (pe_ix ix_tup (pv 0) pe_int (fun _ _ => rfl)) (pe_ix ix_tup (pv 1) pe_int (fun _ _ => rfl))) (pe_op op_mulW (pe_ix ix_tup (pv 1) pe_int (fun _ _ => rfl)) (pe_ix ix_tup (pv 0) pe_int (fun _ _ => rfl))))
      (pa_cons (pe_op op_mulW (pe_ix ix_tup (pv 0) pe_int (fun _ _ => rfl)) (pe_ix ix_tup (pv 1) pe_int (fun _ _ => rfl))) pa_nil))))), ?_⟩
    refine ⟨_, rfl, p, _, _, _, rfl, rfl, SqT.of hp, at0, _, rfl, q, _, _, _, rfl, rfl, SqT.of hq, at1, _, _, rfl, rfl, wide_mul ba.1 bb.2.2 hn0 hn0 (by omega), ?_⟩
    refine ⟨_, rfl, q, _, _, _, rfl, rfl, SqT.of hq, at0, _, rfl, p, _, _, _, rfl, rfl, SqT.of hp, at1, _, _, rfl, rfl, wide_mul bb.1 ba.2.2 hn0 hn0 (by omega), _, _, rfl, rfl, ?_⟩
    refine ⟨_, rfl, p, _, _, _, rfl, rfl, SqT.of hp, at1, _, rfl, q, _, _, _, rfl, rfl, SqT.of hq, at1, _, _, rfl, rfl, wide_mul ba.2.2 bb.2.2 hn0 hn0 (by omega), ?_⟩
    exact ⟨_, _, n + n, rfl, mul_pos_ne ba.2.1 bb.2.1, wide_lt ba.2.2 bb.2.2, by omega, by omega, hQ⟩
def spPair (C : Addr) : Sp := fun vs H Q _ => ∃ (p : Addr) (q : Int × Int), vs = [.ref p] ∧ Sh C H p q ∧ ∀ r H', Same H H' → H r = none → H' r = some (tupP q) → Q (.ref r) H'
theorem ok_pair (F : Dn K d_l_pair f fd) (b : Bl mg) (T : Cl K mg C) (S : IsC K C) : FnOk P w K mg base CX0 1 f fd ["_law_share"] (spPair C) := by
  refine F.ok sc_l_pair (fun vs H Q E h => ?_) (fun cdv A outer s H vs Q E hr h => ?_)
  · obtain ⟨p, q, rfl, _⟩ := h
    rfl
  · obtain ⟨p, q, rfl, ⟨dp, hp⟩, hQ⟩ := h
    refine ⟨_, PSs.nox (pss_cons (ps_if (pt_not (pt_val (pe_callB call_isi rfl b.isi boot_isinstance (pa_cons (pv 0) (pa_cons (pe_glob (v := .ref C) rfl T.g rfl) pa_nil))))) pss_never pss_nil)
      (pss_cons (ps_for PassesOwn.never rfl (pi_tup (pe_tup (pa_cons (pe_fld (pv 0) rfl) (pa_cons (pe_fld (pv 0) rfl) pa_nil)))) (pg_name (i := 1) sc_l_pair.nd rfl (.inl rfl))
        (pss_one (ps_if (PW.pt (pw_or (pt_not (pt_val (pe_callB call_isi rfl b.isi boot_isinstance (pa_cons (pv 1) (pa_cons (pe_bltn (v := .ty "int") rfl b.int boot_int rfl) pa_nil)))))
          (pw_or1 (pt_val (pe_callB call_isi rfl b.isi boot_isinstance (pa_cons (pv 1) (pa_cons (pe_bltn (v := .ty "bool") rfl b.bool boot_bool rfl) pa_nil))))))) pss_never pss_nil)))
      (pss_one (ps_ret (pe_tup (pa_cons (pe_fld (pv 0) rfl) (pa_cons (pe_fld (pv 0) rfl) pa_nil))))))), ?_⟩
    refine ⟨_, rfl, _, _, _, _, true, rfl, ClsV.own C, TyX.base (TyOf.ins hp T.cl S.ha S.hn S.htk S.hm), S.kit, true, rfl, ?_⟩
    refine iteF ?_
    refine ⟨_, rfl, p, C, dp, _, _, rfl, hp, T.cl, T.nt, shF_top q, _, rfl, p, C, dp, _, _, rfl, hp, T.cl, T.nb, shF_bot q, by show 2 ≤ sizeLine; decide, fun u hu => ?_⟩
    have npu : p ≠ u := ne_of_none hp hu
    refine ⟨u, rfl, ⟨_, SqT.of upd_same⟩, for_tup (K := K) (xs := [.int q.1, .int q.2]) (fun i σ H2 => H2 = upd H u (.tup [.int q.1, .int q.2]) ∧ ∃ v, σ = [some (.ref p), v])
      ⟨rfl, none, rfl⟩ (fun i σ H2 _ h => by rw [h.1]; exact SqT.of upd_same) ?_ ?_⟩
    · rintro i y σ H2 hi ⟨rfl, v, rfl⟩
      have hy : ∃ n : Int, y = .int n := by
        match i, hi with
        | 0, e => exact ⟨_, (Option.some.inj e).symm⟩
        | 1, e => exact ⟨_, (Option.some.inj e).symm⟩
      obtain ⟨n, rfl⟩ := hy
      refine ⟨_, rfl, _, _, _, _, true, rfl, ClsV.ty _, TyX.base (TyOf.int n), kit_ty (by decide +kernel), true, rfl, ?_⟩
      refine iteF ?_
      refine ⟨_, rfl, _, _, _, _, false, rfl, ClsV.ty _, TyX.base (TyOf.int n), kit_ty (by decide +kernel), false, rfl, ?_⟩
      exact iteF ⟨rfl, _, rfl⟩
    · rintro σ H2 ⟨rfl, v, rfl⟩
      have hp2 : (upd H u (.tup [.int q.1, .int q.2])) p = some (.ins C dp (shF q)) := by rw [upd_ne npu]; exact hp
      refine ⟨_, rfl, p, C, dp, _, _, rfl, hp2, T.cl, T.nt, shF_top q, _, rfl, p, C, dp, _, _, rfl, hp2, T.cl, T.nb, shF_bot q, by show 2 ≤ sizeLine; decide, fun r hr => ?_⟩
      exact hQ r _ ((same_new hu).trans (same_new hr)) ((same_new hu).free hr) upd_same
abbrev MakS1 (P : Program) (w : World) (K : PySem.W.Frag) (mg : Str → Option Value) (base : Heap) (C : Addr) : Prop := Mak P w K mg base 2 "Share" C (spInit C) [.int 1]
theorem mk_in {C x dx : Addr} {H1 : Hp} {t b : Int} {n : Nat} {Qv : VK} {E : XK} (nx : H1 x = none) (nd : H1 dx = none) (hb : b ≠ 0) (hn : b.natAbs < 2 ^ n) (hn0 : 0 < n) (hn9 : n ≤ 9000)
    (hQ : ∀ H', Same H1 H' → Sh C H' x (pr (Rat.divInt t b)) → Qv .non H') : spInit C [.ref x, .int t, .int b] (upd (upd H1 dx (.own x)) x (.ins C dx [])) Qv E := by
  refine ⟨x, dx, t, b, n, rfl, hb, hn, hn0, hn9, upd_same, fun H' kp hp => hQ H' (fun a o e => ?_) ⟨dx, KM.low_eq hb ▸ hp⟩⟩
  refine kp a o (ne_of_none e nx) ?_
  rw [upd_ne (ne_of_none e nx), upd_ne (ne_of_none e nd)]
  exact e
end
end K30
set_option Elab.async false
set_option linter.all false
set_option maxRecDepth 100000
set_option maxHeartbeats 4000000
/-! NM: the names that a law draws: words by a base, a place, a spot and a way. -/
namespace NM
open PySem PySem.Spec
def ok (l : List Nat) : Prop := 1 ≤ l.length ∧ l.length ≤ 8 ∧ ∀ c ∈ l, 97 ≤ c ∧ c ≤ 122
def words : List (List Nat) := [[108, 97, 116, 101], [105, 110], [111, 117, 116], [114, 105, 100, 101], [104, 97, 110, 100], [108, 97, 99, 107], [121, 101, 115], [110, 111], [110, 97, 109, 101, 115], [103, 111, 110, 101], [116, 101, 120, 116], [112, 108, 97, 110], [117, 110, 100, 111], [117, 115, 117, 97, 108], [98, 97, 99, 107], [108, 101, 97, 118, 101]]
def lets : List Nat := (List.range 26).map (97 + ·)
def w0 (bs : List Nat) (at_ spot k : Nat) : List Nat := bs.take at_ ++ [97 + (spot + 5 * k) % 26] ++ bs.drop (at_ + 1)
def w1 (bs : List Nat) (at_ spot k : Nat) : List Nat := (w0 bs at_ spot k).take (bs.length - k % (bs.length - at_))
def w2 (spot k : Nat) : List Nat := (List.replicate 8 (97 + (spot + k / 8) % 26)).take (k % 8 + 1)
def w3 (spot k : Nat) : List Nat := words.getD ((spot + k) % 16) []
def word (bs : List Nat) (at_ spot way k : Nat) : List Nat := if way = 1 then w1 bs at_ spot k else if way = 2 then w2 spot k else if way = 3 then w3 spot k else w0 bs at_ spot k
theorem words_ok : ∀ i, i < 16 → ok (words.getD i []) := by
  have : ∀ i : Fin 16, 1 ≤ (words.getD i.1 []).length ∧ (words.getD i.1 []).length ≤ 8 ∧ (words.getD i.1 []).all (fun c => decide (97 ≤ c ∧ c ≤ 122)) = true := by decide +kernel
  intro i hi
  obtain ⟨h1, h2, h3⟩ := this ⟨i, hi⟩
  refine ⟨h1, h2, fun c hc => ?_⟩
  have := List.all_eq_true.mp h3 c hc
  exact of_decide_eq_true this
theorem words_inj : ∀ i j, i < 16 → j < 16 → words.getD i [] = words.getD j [] → i = j := by
  have : ∀ i j : Fin 16, words.getD i.1 [] = words.getD j.1 [] → i = j := by decide +kernel
  intro i j hi hj e
  exact congrArg Fin.val (this ⟨i, hi⟩ ⟨j, hj⟩ e)
section
variable {bs : List Nat} {at_ spot k : Nat}
theorem w0_len (h : at_ < bs.length) : (w0 bs at_ spot k).length = bs.length := by
  unfold w0
  simp only [List.length_append, List.length_take, List.length_drop, List.length_cons, List.length_nil]
  omega
theorem w0_at (h : at_ < bs.length) : (w0 bs at_ spot k)[at_]? = some (97 + (spot + 5 * k) % 26) := by
  unfold w0
  rw [List.append_assoc, List.getElem?_append_right (by rw [List.length_take]; omega), List.length_take, Nat.min_eq_left (by omega), Nat.sub_self]
  rfl
theorem w0_mem (hb : ∀ c ∈ bs, 97 ≤ c ∧ c ≤ 122) : ∀ c ∈ w0 bs at_ spot k, 97 ≤ c ∧ c ≤ 122 := by
  intro c hc
  unfold w0 at hc
  rcases List.mem_append.mp hc with hc | hc
  · rcases List.mem_append.mp hc with hc | hc
    · exact hb c (List.mem_of_mem_take hc)
    · rw [List.mem_singleton] at hc
      omega
  · exact hb c (List.mem_of_mem_drop hc)
theorem w1_len (h : at_ < bs.length) : at_ + 1 ≤ (w1 bs at_ spot k).length ∧ (w1 bs at_ spot k).length ≤ bs.length := by
  unfold w1
  rw [List.length_take, w0_len h]
  have := Nat.mod_lt k (show 0 < bs.length - at_ by omega)
  omega
theorem w1_at (h : at_ < bs.length) : (w1 bs at_ spot k)[at_]? = some (97 + (spot + 5 * k) % 26) := by
  have h1 := (w1_len (spot := spot) (k := k) h).1
  unfold w1 at h1 ⊢
  rw [List.length_take, w0_len h] at h1
  rw [List.getElem?_take_of_lt (by omega)]
  exact w0_at h
theorem spot_inj {i j : Nat} (hi : i < 16) (hj : j < 16) (e : 97 + (spot + 5 * i) % 26 = 97 + (spot + 5 * j) % 26) : i = j := by omega
theorem word_ok (hb0 : 1 ≤ bs.length) (hb8 : bs.length ≤ 8) (hb : ∀ c ∈ bs, 97 ≤ c ∧ c ≤ 122) (h : at_ < bs.length) (way : Nat) : ok (word bs at_ spot way k) := by
  unfold word
  split
  · have := w1_len (spot := spot) (k := k) h
    exact ⟨by omega, by omega, fun c hc => w0_mem hb c (List.mem_of_mem_take hc)⟩
  split
  · unfold w2
    refine ⟨by rw [List.length_take, List.length_replicate]; omega, by rw [List.length_take, List.length_replicate]; omega, fun c hc => ?_⟩
    have := List.eq_of_mem_replicate (List.mem_of_mem_take hc)
    omega
  split
  · exact words_ok _ (Nat.mod_lt _ (by decide))
  · exact ⟨by rw [w0_len h]; exact hb0, by rw [w0_len h]; exact hb8, w0_mem hb⟩
theorem word_inj (h : at_ < bs.length) (way : Nat) {i j : Nat} (hi : i < 16) (hj : j < 16) (e : word bs at_ spot way i = word bs at_ spot way j) : i = j := by
  unfold word at e
  split at e
  · have h1 := w1_at (spot := spot) (k := i) h
    rw [e, w1_at h] at h1
    exact (spot_inj hj hi (Option.some.inj h1)).symm
  split at e
  · unfold w2 at e
    have hl := congrArg List.length e
    rw [List.length_take, List.length_take, List.length_replicate, List.length_replicate] at hl
    have h0 : ((List.replicate 8 (97 + (spot + i / 8) % 26)).take (i % 8 + 1))[0]? = ((List.replicate 8 (97 + (spot + j / 8) % 26)).take (j % 8 + 1))[0]? := by rw [e]
    rw [List.getElem?_take_of_lt (by omega), List.getElem?_take_of_lt (by omega), List.getElem?_replicate, List.getElem?_replicate, if_pos (by decide), if_pos (by decide)] at h0
    have := Option.some.inj h0
    omega
  split at e
  · have := words_inj _ _ (Nat.mod_lt _ (by decide)) (Nat.mod_lt _ (by decide)) e
    omega
  · have h1 := w0_at (spot := spot) (k := i) h
    rw [e, w0_at h] at h1
    exact (spot_inj hj hi (Option.some.inj h1)).symm
/-- as many as are asked: unlike ones -/
theorem all_unlike (h : at_ < bs.length) (way n : Nat) (hn : n ≤ 16) : ((List.range n).map (word bs at_ spot way)).Pairwise (· ≠ ·) := by
  rw [List.pairwise_map]
  refine (List.pairwise_lt_range (n := n)).imp_of_mem fun {a b} ha hb hlt e => ?_
  have := word_inj h way (by have := List.mem_range.mp ha; omega) (by have := List.mem_range.mp hb; omega) e
  omega
end
end NM
set_option Elab.async false
set_option linter.all false
set_option maxRecDepth 100000
set_option maxHeartbeats 4000000
/-! NH: the names that a law with a held dict draws. -/
namespace NH
open PySem PySem.Spec
def word (bs : List Nat) (at_ begin_ step lot k : Nat) : List Nat := bs.take at_ ++ [97 + (begin_ + step * k) % 26] ++ (bs.drop at_).take (if lot = 0 then 8 else k % (bs.length - at_ + 1))
def steps : List Nat := [1, 3, 5, 7, 9, 11, 15, 17]
section
variable {bs : List Nat} {at_ begin_ step lot k : Nat}
theorem word_at (h : at_ ≤ bs.length) : (word bs at_ begin_ step lot k)[at_]? = some (97 + (begin_ + step * k) % 26) := by
  unfold word
  rw [List.append_assoc, List.getElem?_append_right (by rw [List.length_take]; omega), List.length_take, Nat.min_eq_left h, Nat.sub_self]
  rfl
theorem step_inj {i j : Nat} (hs : step ∈ steps) (hi : i < 13) (hj : j < 13) (e : 97 + (begin_ + step * i) % 26 = 97 + (begin_ + step * j) % 26) : i = j := by
  simp only [steps, List.mem_cons, List.not_mem_nil, or_false] at hs
  rcases hs with rfl | rfl | rfl | rfl | rfl | rfl | rfl | rfl <;> omega
theorem word_inj (h : at_ ≤ bs.length) (hs : step ∈ steps) {i j : Nat} (hi : i < 13) (hj : j < 13) (e : word bs at_ begin_ step lot i = word bs at_ begin_ step lot j) : i = j := by
  have h1 := word_at (begin_ := begin_) (step := step) (lot := lot) (k := i) h
  rw [e, word_at h] at h1
  exact (step_inj hs hj hi (Option.some.inj h1)).symm
theorem word_ok (h8 : bs.length ≤ 7) (hb : ∀ c ∈ bs, 97 ≤ c ∧ c ≤ 122) (h : at_ ≤ bs.length) : NM.ok (word bs at_ begin_ step lot k) := by
  unfold word
  refine ⟨?_, ?_, fun c hc => ?_⟩
  · simp only [List.length_append, List.length_take, List.length_drop, List.length_cons, List.length_nil]
    omega
  · simp only [List.length_append, List.length_take, List.length_drop, List.length_cons, List.length_nil]
    omega
  · rcases List.mem_append.mp hc with hc | hc
    · rcases List.mem_append.mp hc with hc | hc
      · exact hb c (List.mem_of_mem_take hc)
      · rw [List.mem_singleton] at hc
        omega
    · exact hb c (List.mem_of_mem_drop (List.mem_of_mem_take hc))
theorem all_unlike (h : at_ ≤ bs.length) (hs : step ∈ steps) (n : Nat) (hn : n ≤ 13) : ((List.range n).map (word bs at_ begin_ step lot)).Pairwise (· ≠ ·) := by
  rw [List.pairwise_map]
  refine (List.pairwise_lt_range (n := n)).imp_of_mem fun {a b} ha hb hlt e => ?_
  have := word_inj h hs (by have := List.mem_range.mp ha; omega) (by have := List.mem_range.mp hb; omega) e
  omega
end
end NH
set_option Elab.async false
set_option linter.all false
set_option maxRecDepth 100000
set_option maxHeartbeats 4000000
namespace K30
open PySem PySem.Spec PyProof.Rows L2
open C8 (Cal Mak Met pe_c pe_mk pe_mt pe_mt0)
open SX (S)
theorem lets_S : (Str.ofString "abcdefghijklmnopqrstuvwxyz").cps.toList = NM.lets := by decide +kernel
theorem at_lets {x : Int} {j : Nat} (e : x = (j : Int)) (hj : j < 26) : atI (Str.ofString "abcdefghijklmnopqrstuvwxyz").cps.toList x = some (97 + j) := by
  rw [e, lets_S]
  refine atI_nat ?_
  unfold NM.lets
  rw [List.getElem?_map, List.getElem?_range hj]
  rfl
theorem cut_t {l : List Nat} {x : Int} {j : Nat} (e : x = (j : Int)) (h : j ≤ l.length) : cutS (S l) none (some x) = S (l.take j) := by
  rw [e]
  unfold cutS
  rw [HT.sIx_nat, HT.sIx_none, SX.S_len, Nat.min_eq_left h]
  simp [S]
theorem cut_m {l : List Nat} {x y : Int} {j m : Nat} (e : x = (j : Int)) (e2 : y = ((j + m : Nat) : Int)) (h : j ≤ l.length) : cutS (S l) (some x) (some y) = S ((l.drop j).take m) := by
  rw [e, e2]
  unfold cutS
  rw [HT.sIx_nat, HT.sIx_nat, SX.S_len, Nat.min_eq_left h]
  have e3 : (l.drop j).take (min (j + m) l.length - j) = (l.drop j).take m := by
    by_cases c : j + m ≤ l.length
    · rw [Nat.min_eq_left c, Nat.add_sub_cancel_left]
    · rw [Nat.min_eq_right (by omega), List.take_of_length_le (Nat.le_of_eq (List.length_drop ..)), List.take_of_length_le (by rw [List.length_drop]; omega)]
  simp [S, e3]
theorem ones : ∀ bs : List Nat, ((bs.map fun c => S [c]).map (·.length)).sum = bs.length
  | [] => rfl
  | b :: bs => by
    rw [List.map_cons, List.map_cons, List.sum_cons, ones bs, List.length_cons, SX.S_len]
    simp
    omega
theorem joined : ∀ bs : List Nat, TL.joinL [] (bs.map fun c => [c]) = bs
  | [] => rfl
  | [b] => rfl
  | b :: d :: bs => by
    have := joined (d :: bs)
    simp only [List.map_cons, TL.joinL] at this ⊢
    simp [this]
theorem Held.ne_new {H : Hp} {h u : Addr} {c : Nat} (x : Held H h c) (e : H u = none) : u ≠ h := by
  obtain ⟨l, ns, n, m, h1, _⟩ := x
  exact (ne_of_none h1 e).symm
/-- the held dict's cells aren't at D -/
def Cel (h D : Addr) (H : Hp) : Prop := ∃ la n m, H h = some (.dK (hd0 la n m)) ∧ la ≠ D ∧ h ≠ D
theorem Cel.kp {h D : Addr} {H H' : Hp} (x : Cel h D H) (k : Kp h H H') : Cel h D H' := by
  obtain ⟨la, n, m, e, n1, n2⟩ := x
  obtain ⟨n', m', e'⟩ := k.2 _ _ _ e
  exact ⟨la, n', m', e', n1, n2⟩
theorem Cel.of {h D : Addr} {H : Hp} {c : Nat} (x : Held H h c) (f : H D = none) : Cel h D H := by
  obtain ⟨la, ns, n, m, e1, e2, _⟩ := x
  exact ⟨la, n, m, e1, ne_of_none e2 f, ne_of_none e1 f⟩
theorem Cel.ne {h D : Addr} {H : Hp} (x : Cel h D H) : D ≠ h := by
  obtain ⟨_, _, _, _, _, n⟩ := x
  exact n.symm
theorem Held.put {h D : Addr} {H : Hp} {o : HO} {c : Nat} (x : Held H h c) (y : Cel h D H) : Held (upd H D o) h c := by
  obtain ⟨la, ns, n, m, e1, e2, e3⟩ := x
  obtain ⟨la', n', m', e', n1, n2⟩ := y
  cases hd_inj (Option.some.inj (e1.symm.trans e'))
  exact ⟨la, ns, n, m, by rw [upd_ne n2]; exact e1, by rw [upd_ne n1]; exact e2, e3⟩
theorem Cel.put {h D D' : Addr} {H : Hp} {o : HO} (x : Cel h D H) (n : h ≠ D') : Cel h D (upd H D' o) := by
  obtain ⟨la', n', m', e', n1, n2⟩ := x
  exact ⟨la', n', m', by rw [upd_ne n]; exact e', n1, n2⟩
theorem Kp.new {h st : Addr} {H1 H2 : Hp} {o : HO} (k : Kp h H1 H2) (f : H1 st = none) : Kp h H1 (upd H2 st o) :=
  ⟨fun b u e ne => by rw [upd_ne (ne_of_none e f)]; exact k.1 b u e ne, fun l n m e => by
    obtain ⟨n', m', e'⟩ := k.2 l n m e
    exact ⟨n', m', by rw [upd_ne (ne_of_none e f)]; exact e'⟩⟩
theorem pick {α : Type} (g : α → V) {L : List α} {i : Int} (i0 : 0 ≤ i) (i1 : i < (L.length : Int)) : ∃ x ∈ L, atI (L.map g) i = some (g x) := by
  obtain ⟨j, rfl⟩ := Int.eq_ofNat_of_zero_le i0
  have hj : j < L.length := by omega
  exact ⟨L[j], List.getElem_mem hj, atI_nat (j := j) (by rw [List.getElem?_map, List.getElem?_eq_getElem hj]; rfl)⟩
section
variable {P : Program} {w : World} {K : PySem.W.Frag} {mg : Str → Option Value} {base : Heap} {f C : Addr} {fd : FuncData}
def spNames : Sp := fun vs H Q _ => ∃ (h : Addr) (c n : Nat), vs = [.ref h, .int n] ∧ Held H h (c + 40) ∧ n ≤ 13 ∧
  ∀ (o : Addr) (zs : List (List Nat)) (H' : Hp), Held H' h c → Kp h H H' → H o = none → H' o = some (.lst (zs.map fun l => V.str (S l))) → zs.length = n → (∀ z ∈ zs, NM.ok z) → zs.Pairwise (· ≠ ·) → Q (.ref o) H'
theorem ok_names (F : Dn K d_l_names f fd) (bl : Bl mg) (cD : CalD P w K mg base) : FnOk P w K mg base CX0 2 f fd ["_law_held_here", "_law_many"] spNames := by
  refine F.ok sc_l_names (fun vs H Q E h => ?_) (fun cdv A outer s H vs Q E hr h => ?_)
  · obtain ⟨p, c, n, rfl, _⟩ := h
    rfl
  · obtain ⟨p, c, n, rfl, pen, hn, hQ⟩ := h
    refine ⟨_, PSs.nox (pss_cons (ps_set (i := 2) sc_l_names.nd rfl (.inr rfl) pe_str)
      (pss_cons (ps_set (i := 3) sc_l_names.nd rfl (.inl rfl) (pe_c cD hr (by decide) rfl (pa_cons (pv 0) (pa_cons pe_int pa_nil))))
      (C8.pss_cut (ps_set (i := 5) sc_l_names.nd rfl (.inl rfl) (pe_join pe_str (pe_lc (own := [("_law_k", 4)]) (g := gName 4) (tt := tYes) rfl sc_l_names.nd (pi_range1 rfl bl.range (pa_cons (pv 3) pa_nil)) (blkOk_by (N := N_l_names) (sc := defScope s_l_names) (by decide +kernel))
          (fun _ _ _ _ _ => pg_name (i := 4) sc_l_names.nd rfl (Or.inl rfl)) (fun _ _ _ _ _ => pts_nil) (fun _ _ _ _ _ => pe_ix ix_str (pv 2) (pe_c cD hr (by decide) rfl (pa_cons (pv 0) (pa_cons pe_int pa_nil))) (fun _ _ => rfl)))))
      (pss_cons (ps_par (i := 6) (j := 7) rfl sc_l_names.nd rfl rfl (by decide) rfl rfl (pa_cons (pe_c cD hr (by decide) rfl (pa_cons (pv 0) (pa_cons (pe_op op_add (pv 3) pe_int) pa_nil))) (pa_cons (pe_c cD hr (by decide) rfl (pa_cons (pv 0) (pa_cons pe_int pa_nil))) pa_nil)) rfl)
      (pss_cons (ps_par (i := 8) (j := 9) rfl sc_l_names.nd rfl rfl (by decide) rfl rfl (pa_cons (pe_ix ix_list (pe_lst (pa_cons pe_int (pa_cons pe_int (pa_cons pe_int (pa_cons pe_int (pa_cons pe_int (pa_cons pe_int (pa_cons pe_int (pa_cons pe_int pa_nil))))))))) (pe_c cD hr (by decide) rfl (pa_cons (pv 0) (pa_cons pe_int pa_nil))) (fun _ _ => rfl)) (pa_cons (pe_c cD hr (by decide) rfl (pa_cons (pv 0) (pa_cons pe_int pa_nil))) pa_nil)) rfl)
      (pss_cons (ps_set (i := 10) sc_l_names.nd rfl (.inl rfl) (pe_lst pa_nil))
      (pss_cons (ps_for PassesOwn.never rfl (pi_range1 rfl bl.range (pa_cons (pv 1) pa_nil)) (pg_name (i := 4) sc_l_names.nd rfl (.inl rfl))
        (C8.pss_cut (ps_set (i := 11) sc_l_names.nd rfl (.inl rfl) (pe_slice sl_str (pv 5) (po_some (pv 6)) (po_some (pe_op op_add (pv 6) (pe_ix ix_list (pe_lst (pa_cons pe_int (pa_cons (pe_op op_mod (pv 4) (pe_op op_add (pe_op op_sub (pv 3) (pv 6)) pe_int)) pa_nil))) (pv 9) (fun _ _ => rfl))))))
        (pss_one (ps_expr (pe_bm PySem.F.plainAttrs_list PySem.F.slot_list_append PySem.F.type_list_append mt_append (pv 10) (pa_cons (pe_op op_add_str (pe_op op_add_str (pe_slice sl_str (pv 5) po_none (po_some (pv 6))) (pe_ix ix_str (pv 2) (pe_op op_mod (pe_op op_add (pv 7) (pe_op op_mul (pv 8) (pv 4))) pe_int) (fun _ _ => rfl))) (pv 11)) pa_nil))))))
      (pss_one (ps_ret (pv 10)))))))))), ?_⟩
    -- the size
    refine ⟨_, rfl, p, c + 39, _, rfl, pen, by decide, by decide, fun z0 H2 a2 b2 pen2 k2 => ?_⟩
    obtain ⟨sz, rfl⟩ := Int.eq_ofNat_of_zero_le a2
    have sz7 : sz ≤ 7 := by omega
    -- the base
    refine ⟨fun σ' H' => ∃ bs : List Nat, σ' = [some (.ref p), some (.int n), some (.str (Str.ofString "abcdefghijklmnopqrstuvwxyz")), some (.int (sz : Int)), none, some (.str (S bs)), none, none, none, none, none, none] ∧ bs.length = sz ∧ (∀ c ∈ bs, 97 ≤ c ∧ c ≤ 122) ∧
      Held H' p (c + 30) ∧ Kp p H H', ?_, ?_⟩
    · refine ⟨⟨_, rfl⟩, _, rfl, _, rfl, by omega, by omega, ?_⟩
      rw [Int.toNat_natCast]
      intro D hD
      have offD := Cel.of pen2 hD
      have sD := same_new (o := .lst []) hD
      refine lc_range (n := sz) (fun i H3 => ∃ bs : List Nat, bs.length = i ∧ (∀ c ∈ bs, 97 ≤ c ∧ c ≤ 122) ∧ H3 D = some (.lst (bs.map fun c => V.str (S [c]))) ∧ Held H3 p (c + 39 - i) ∧ Kp p H2 H3 ∧ Cel p D H3) ?_ ?_ ?_
      · exact ⟨[], rfl, by simp, upd_same, pen2.same sD, Kp.same sD, offD.kp (Kp.same sD)⟩
      · rintro i H3 hi ⟨bs, hbl, hbc, hd, pen3, k3, off3⟩
        refine ⟨rfl, ?_⟩
        refine ⟨_, rfl, _, rfl, p, c + 39 - (i + 1), _, rfl, pen3.weak (by omega), by decide, by decide, fun r H4 r0 r1 pen4 k4 => ?_⟩
        obtain ⟨rn, rfl⟩ := Int.eq_ofNat_of_zero_le r0
        have hd4 := k4.1 _ _ hd off3.ne
        have off4 := off3.kp k4
        refine ⟨_, _, 97 + rn, rfl, rfl, by decide +kernel, at_lets rfl (by omega), _, hd4, ?_, bs ++ [97 + rn], by simp [hbl], ?_, ?_, pen4.put off4, (k3.trans k4).new hD, ?_⟩
        · rw [List.length_map, hbl]
          exact Nat.lt_of_lt_of_le (by omega : i < 64) (by decide)
        · intro c' hc'
          rcases List.mem_append.mp hc' with hc' | hc'
          · exact hbc c' hc'
          · rw [List.mem_singleton] at hc'
            omega
        · rw [upd_same]
          simp [S]
        · exact off4.put off4.ne.symm
      · rintro H3 ⟨bs, hbl, hbc, hd, pen3, k3, off3⟩
        have ey : (bs.map fun c => V.str (S [c])) = (bs.map fun c => S [c]).map V.str := by rw [List.map_map]; rfl
        refine ⟨_, D, bs.map fun c => S [c], rfl, rfl, .inl (by rw [← ey]; exact SqL.of hd), ?_, bs, ?_, hbl, hbc, pen3.weak (by omega), k2.trans k3⟩
        · rw [ones bs, List.length_map]
          have e2 : (Str.ofString "").length = 0 := by decide +kernel
          rw [e2, hbl]
          omega
        · have e3 : Txt.join (Str.ofString "") (bs.map fun c => S [c]) = S bs := by
            have e4 : Str.ofString "" = S [] := by decide +kernel
            have e5 : (bs.map fun c => S [c]) = (bs.map fun c => [c]).map S := by rw [List.map_map]; rfl
            rw [e4, e5, SX.join_S, joined]
          rw [e3]
          rfl
    clear pen pen2 k2
    rintro σ' H3 ⟨bs, rfl, hbl, hbc, pen3, k3⟩
    refine ⟨_, rfl, _, rfl, _, _, rfl, rfl, p, c + 29, _, rfl, pen3, by omega, by omega, fun at_ H4 a4 b4 pen4 k4 => ?_⟩
    refine ⟨_, rfl, p, c + 28, _, rfl, pen4, by decide, by decide, fun bg H5 a5 b5 pen5 k5 => ⟨_, _, rfl, ?_⟩⟩
    refine ⟨by show 8 ≤ sizeLine; decide, fun u fu => ?_⟩
    have su := same_new (o := .lst [.int 1, .int 3, .int 5, .int 7, .int 9, .int 11, .int 15, .int 17]) fu
    refine ⟨_, rfl, p, c + 27, 8, rfl, pen5.same su, by decide, by decide, fun q6 H6 a6 b6 pen6 k6 => ?_⟩
    have hu6 := k6.1 u _ upd_same (pen5.ne_new fu)
    obtain ⟨st, hst, est⟩ := pick (fun n : Nat => V.int (n : Int)) (L := NH.steps) a6 (by simpa [NH.steps] using b6)
    refine ⟨u, _, _, _, rfl, rfl, SqL.of hu6, est, ?_⟩
    refine ⟨_, rfl, p, c + 26, 2, rfl, pen6, by decide, by decide, fun lot H7 a7 b7 pen7 k7 => ⟨_, _, rfl, ?_⟩⟩
    obtain ⟨at_, rfl⟩ := Int.eq_ofNat_of_zero_le a4
    obtain ⟨bg, rfl⟩ := Int.eq_ofNat_of_zero_le a5
    obtain ⟨lot, rfl⟩ := Int.eq_ofNat_of_zero_le a7
    have hat : at_ ≤ bs.length := by omega
    have k07 := ((k3.trans k4).trans k5).trans (((Kp.same su).trans k6).trans k7)
    have st17 : st ≤ 17 := by
      simp only [NH.steps, List.mem_cons, List.not_mem_nil, or_false] at hst
      omega
    clear k3 k4 k5 k6 k7 su pen3 pen4 pen5 pen6
    refine ⟨by show 0 ≤ sizeLine; decide, fun o fo => ?_⟩
    have so := same_new (o := .lst []) fo
    refine ⟨_, rfl, _, rfl, by omega, by omega, ?_⟩
    rw [Int.toNat_natCast]
    have fo0 : H o = none := by
      cases e : H o with
      | none => rfl
      | some ob =>
        by_cases z : o = p
        · rw [z] at fo
          obtain ⟨l0, ns0, n0, m0, h0, _⟩ := pen7
          rw [h0] at fo
          cases fo
        · rw [k07.1 o ob e z] at fo
          cases fo
    refine for_range (n := n) (fun i σ H8 => ∃ (v4 v11 : Option V), σ = [some (.ref p), some (.int n), some (.str (Str.ofString "abcdefghijklmnopqrstuvwxyz")), some (.int (sz : Int)), v4, some (.str (S bs)), some (.int (at_ : Int)), some (.int (bg : Int)), some (.int (st : Int)), some (.int (lot : Int)), some (.ref o), v11] ∧
        H8 o = some (.lst (((List.range i).map (NH.word bs at_ bg st lot)).map fun l => V.str (S l))) ∧ Held H8 p c ∧ Kp p H H8 ∧ Cel p o H8)
      ⟨none, none, rfl, upd_same, (pen7.same so).weak (by omega), k07.trans (Kp.same so), (Cel.of pen7 fo).kp (Kp.same so)⟩ ?_ ?_
    · rintro i σ H8 hi ⟨v4, v11, rfl, ho8, pen8, k8, off8⟩
      have len0 : (S bs).length ≤ sizeLine := by rw [SX.S_len]; exact Nat.le_trans (by omega : bs.length ≤ 8) (by decide)
      have lets_len : (Str.ofString "abcdefghijklmnopqrstuvwxyz").length ≤ sizeLine := by decide +kernel
      obtain ⟨m, hm⟩ : ∃ m : Nat, (if lot = 0 then 8 else i % (bs.length - at_ + 1)) = m := ⟨_, rfl⟩
      refine ⟨fun σ' H' => σ' = [some (.ref p), some (.int n), some (.str (Str.ofString "abcdefghijklmnopqrstuvwxyz")), some (.int (sz : Int)), some (.int (0 + (i : Int))), some (.str (S bs)), some (.int (at_ : Int)), some (.int (bg : Int)), some (.int (st : Int)), some (.int (lot : Int)), some (.ref o), some (.str (S ((bs.drop at_).take m)))] ∧ Same H8 H', ?_, ?_⟩
      · refine ⟨_, rfl, _, rfl, _, rfl, _, rfl, _, rfl, _, rfl, _, rfl, _, _, rfl, rfl, _, _, rfl, rfl, _, _, rfl, rfl, by omega, by show 2 ≤ sizeLine; decide, fun u2 fu2 => ?_⟩
        have eix : atI [V.int 8, .int ((0 + (i : Int)) % ((sz : Int) - (at_ : Int) + 1))] (lot : Int) = some (.int (m : Nat)) := by
          rcases (show lot = 0 ∨ lot = 1 by omega) with rfl | rfl
          · rw [← hm]
            rfl
          · have h1 : ((sz : Int) - (at_ : Int) + 1) = ((bs.length - at_ + 1 : Nat) : Int) := by omega
            rw [h1, Int.zero_add, ← Int.natCast_emod, ← hm]
            rfl
        refine ⟨_, rfl, u2, _, _, _, rfl, rfl, SqL.of upd_same, eix, _, _, rfl, rfl, _, rfl, _, rfl, len0, ?_⟩
        rw [cut_m (j := at_) (m := m) rfl (by omega) hat]
        exact ⟨rfl, same_new fu2⟩
      · rintro σ' H9 ⟨rfl, s9⟩
        have ho9 := s9 _ _ ho8
        have e5 : ((bg : Int) + (st : Int) * (0 + (i : Int))) % 26 = (((bg + st * i) % 26 : Nat) : Int) := by
          rw [Int.zero_add, ← Int.natCast_mul, ← Int.natCast_add]
          exact (Int.natCast_emod _ 26).symm
        refine ⟨_, rfl, Or.inl ⟨rfl, _, SqL.of ho9⟩, _, rfl, _, rfl, _, rfl, _, rfl, len0, ?_⟩
        rw [cut_t rfl hat]
        refine ⟨_, rfl, _, rfl, _, rfl, _, rfl, _, _, rfl, rfl, cb_l (by omega) (by omega), _, _, rfl, rfl, _, _, rfl, rfl, (by decide : (0 : Int) < 26), _, _, _, rfl, rfl, lets_len, at_lets e5 (Nat.mod_lt _ (by decide)), _, _, rfl, rfl, ?_, ?_⟩
        · rw [SX.S_len, List.length_take]
          exact Nat.le_trans (by show min at_ bs.length + 1 ≤ 64; omega) (by decide)
        have ec : S (bs.take at_) ++ (⟨#[97 + (bg + st * i) % 26]⟩ : Str) = S (bs.take at_ ++ [97 + (bg + st * i) % 26]) := SX.S_cat _ _
        rw [ec]
        refine ⟨_, rfl, _, _, rfl, rfl, ?_, ?_⟩
        · rw [SX.S_len, SX.S_len, List.length_append, List.length_take, List.length_take, List.length_drop]
          exact Nat.le_trans (by show min at_ bs.length + 1 + min m (bs.length - at_) ≤ 64; omega) (by decide)
        rw [SX.S_cat]
        have ew : bs.take at_ ++ [97 + (bg + st * i) % 26] ++ (bs.drop at_).take m = NH.word bs at_ bg st lot i := by rw [← hm]; rfl
        rw [ew]
        refine ⟨o, _, _, rfl, rfl, ho9, ?_, _, _, rfl, ?_, (pen8.same s9).put (off8.kp (Kp.same s9)), (k8.trans (Kp.same s9)).new fo0, (off8.kp (Kp.same s9)).put off8.ne.symm⟩
        · rw [List.length_map, List.length_map, List.length_range]
          exact Nat.lt_of_lt_of_le (by omega : i < 64) (by decide)
        · rw [upd_same, List.range_succ, List.map_append, List.map_append]
          rfl
    · rintro σ H8 ⟨v4, v11, rfl, ho8, pen8, k8, off8⟩
      refine ⟨_, rfl, hQ o _ H8 pen8 k8 fo0 ho8 (by simp) (fun z hz => ?_) (NH.all_unlike hat hst n hn)⟩
      obtain ⟨k, _, rfl⟩ := List.mem_map.mp hz
      exact NH.word_ok (by omega) hbc hat
end
end K30
set_option Elab.async false
set_option linter.all false
set_option maxRecDepth 100000
set_option maxHeartbeats 4000000
namespace K30
open PySem PySem.Spec PyProof.Rows L2
open C8 (Cal Mak Met pe_c pe_mk pe_mt pe_mt0)
/-- a day: unlike names of the order -/
structure DayOk (xs R : List Str) : Prop where
  ne : R ≠ []
  nd : R.Nodup
  sub : ∀ y ∈ R, y ∈ xs
  ln : R.length ≤ xs.length
theorem map_eraseIdx' {α β : Type} {g : α → β} : ∀ {xs : List α} {q : Nat}, (xs.map g).eraseIdx q = (xs.eraseIdx q).map g
  | [], _ => rfl
  | _ :: _, 0 => rfl
  | x :: xs, q + 1 => by simp [map_eraseIdx' (xs := xs) (q := q)]
theorem perm_eraseIdx {α : Type} : ∀ {xs : List α} {q : Nat} (h : q < xs.length), xs.Perm (xs[q] :: xs.eraseIdx q)
  | x :: xs, 0, _ => by simp
  | x :: xs, q + 1, h => by
    have hq : q < xs.length := by simpa using h
    simp only [List.getElem_cons_succ, List.eraseIdx_cons_succ]
    exact ((perm_eraseIdx hq).cons x).trans (List.Perm.swap _ _ _)
theorem Kp.free {h t : Addr} {H H' : Hp} {c : Nat} (k : Kp h H H') (pn : Held H' h c) (f : H' t = none) : H t = none := by
  cases e : H t with
  | none => rfl
  | some o =>
    by_cases z : t = h
    · rw [z] at f
      obtain ⟨l, ns, n, m, h1, _⟩ := pn
      rw [h1] at f
      cases f
    · rw [k.1 t o e z] at f
      cases f
theorem Kp.tupS {K : PySem.W.Frag} {h t : Addr} {H H' : Hp} {c : Nat} {xs : List V} (k : Kp h H H') (x : Held H h c) (e : H t = some (.tup xs)) : H' t = some (.tup xs) := by
  obtain ⟨l, ns, n, m, h1, _⟩ := x
  exact k.1 t _ e (ne_of e h1 (by intro z; cases z))
section
variable {P : Program} {w : World} {K : PySem.W.Frag} {mg : Str → Option Value} {base : Heap} {f C : Addr} {fd : FuncData}
def spDay : Sp := fun vs H Q _ => ∃ (h ot : Addr) (c : Nat) (xs : List Str), vs = [.ref h, .ref ot] ∧ Held H h (c + 20) ∧ H ot = some (.tup (xs.map V.str)) ∧ xs ≠ [] ∧ xs.Nodup ∧ xs.length ≤ 13 ∧
  ∀ (o : Addr) (R : List Str) (H' : Hp), Held H' h c → Kp h H H' → H o = none → H' o = some (.lst (R.map V.str)) → DayOk xs R → Q (.ref o) H'
theorem ok_day (F : Dn K d_l_day f fd) (bl : Bl mg) (bmin : mg "min" = none) (cD : CalD P w K mg base) : FnOk P w K mg base CX0 2 f fd ["_law_held_here", "_law_order"] spDay := by
  refine F.ok sc_l_day (fun vs H Q E h => ?_) (fun cdv A outer s H vs Q E hr h => ?_)
  · obtain ⟨h, ot, c, xs, rfl, _⟩ := h
    rfl
  · obtain ⟨h, ot, c, xs, rfl, hld, hot, xne, xnd, xlen, hQ⟩ := h
    refine ⟨_, PSs.nox (pss_cons (ps_set (i := 2) sc_l_day.nd rfl (.inl rfl) (pe_op op_add pe_int (pe_c cD hr (by decide) rfl (pa_cons (pv 0) (pa_cons (pe_callB call_len_seq rfl bl.len boot_len (pa_cons (pv 1) pa_nil)) pa_nil)))))
      (C8.pss_cut (ps_if (PW.pt (pw_and (pt_cmpR op_eq (pv 2) pe_int (nomark _)) (pw_and1 (pt_cmpR op_gt (pe_c cD hr (by decide) rfl (pa_cons (pv 0) (pa_cons pe_int pa_nil))) pe_int (nomark _)))))
        (pss_one (ps_set (i := 2) sc_l_day.nd rfl (.inl rfl) (pe_callB (call_min2 rfl) rfl bmin boot_min (pa_cons pe_int (pa_cons (pe_callB call_len_seq rfl bl.len boot_len (pa_cons (pv 1) pa_nil)) pa_nil))))) pss_nil)
      (pss_cons (ps_par (i := 3) (j := 4) rfl sc_l_day.nd rfl rfl (by decide) rfl rfl (pa_cons (pe_callTy call_list_of rfl bl.list boot_list (pa_cons (pv 1) pa_nil)) (pa_cons (pe_lst pa_nil) pa_nil)) rfl)
      (pss_cons (ps_for PassesOwn.never rfl (pi_range1 rfl bl.range (pa_cons (pv 2) pa_nil)) (pg_name (i := 5) sc_l_day.nd rfl (.inl rfl))
        (pss_one (ps_expr (pe_bm PySem.F.plainAttrs_list PySem.F.slot_list_append PySem.F.type_list_append mt_append (pv 4) (pa_cons (pe_bm PySem.F.plainAttrs_list PySem.F.slot_list_pop PySem.F.type_list_pop mt_popAt (pv 3) (pa_cons (pe_c cD hr (by decide) rfl (pa_cons (pv 0) (pa_cons (pe_callB call_len_seq rfl bl.len boot_len (pa_cons (pv 3) pa_nil)) pa_nil))) pa_nil)) pa_nil)))))
      (pss_one (ps_ret (pv 4))))))), ?_⟩
    have xpos : 0 < xs.length := List.length_pos_iff.mpr xne
    refine ⟨_, rfl, _, rfl, ot, _, rfl, .inr (SqT.of hot), h, c + 19, _, rfl, hld, by rw [List.length_map]; omega, by rw [List.length_map]; omega, fun r1 H1 a1 b1 held1 k1 => ⟨_, _, rfl, rfl, ?_⟩⟩
    rw [List.length_map] at b1
    have hot1 := k1.tupS (K := K) hld hot
    refine ⟨fun σ' H' => ∃ m : Nat, σ' = [some (.ref h), some (.ref ot), some (.int (m : Nat)), none, none, none] ∧ 1 ≤ m ∧ m ≤ xs.length ∧ Held H' h (c + 18) ∧ Kp h H H', ?_, ?_⟩
    · refine ⟨_, rfl, rfl, _, rfl, ?_⟩
      obtain ⟨k, rfl⟩ : ∃ k : Nat, r1 = k := ⟨r1.toNat, by omega⟩
      obtain ⟨m, hm⟩ : ∃ m : Nat, m = 1 + k := ⟨_, rfl⟩
      have hv : (fun i j => V.int (i + j)) 1 (k : Int) = V.int (m : Int) := by
        show V.int (1 + (k : Int)) = V.int (m : Int)
        rw [hm]; congr 1
      rw [hv]
      refine ite2 (fun _ => ?_) (fun _ => iteF ⟨m, rfl, by omega, by omega, held1.weak (by omega), k1⟩)
      refine ⟨_, rfl, h, c + 18, 4, rfl, held1, by decide, by decide, fun r2 H2 a2 b2 held2 k2 => ⟨_, _, rfl, rfl, _, rfl, ?_⟩⟩
      have hot2 := k2.tupS (K := K) held1 hot1
      refine ite2 (fun _ => ?_) (fun _ => ⟨m, rfl, by omega, by omega, held2, k1.trans k2⟩)
      refine ⟨_, rfl, ot, _, rfl, .inr (SqT.of hot2), _, _, rfl, ?_⟩
      rw [List.length_map]
      obtain ⟨m2, hm2, h21, h22⟩ : ∃ m2 : Nat, (if (xs.length : Int) < 2 then (xs.length : Int) else 2) = m2 ∧ 1 ≤ m2 ∧ m2 ≤ xs.length := by
        by_cases z : xs.length < 2
        · exact ⟨xs.length, if_pos (by omega), xpos, Nat.le_refl _⟩
        · exact ⟨2, if_neg (by omega), by decide, by omega⟩
      rw [hm2]
      exact ⟨m2, rfl, h21, h22, held2, k1.trans k2⟩
    rintro σ' H2 ⟨m, rfl, m1, mn, held2, k2⟩
    have hot2 := k2.tupS (K := K) hld hot
    refine ⟨_, rfl, ot, _, rfl, .inr (SqT.of hot2), fun ll fll => ⟨by show 0 ≤ sizeLine; decide, fun o fo => ⟨_, _, rfl, ?_⟩⟩⟩
    have sl := same_new (o := .lst (xs.map V.str)) fll
    have so := same_new (o := .lst []) fo
    have nlo : ll ≠ o := ne_of_none upd_same fo
    have fo2 : H2 o = none := sl.free fo
    have k4 : Kp h H (upd (upd H2 ll (.lst (xs.map V.str))) o (.lst [])) := k2.trans (Kp.same (sl.trans so))
    have fl0 : H ll = none := k2.free held2 fll
    have fo0 : H o = none := k2.free held2 fo2
    refine ⟨_, rfl, _, rfl, by omega, by omega, ?_⟩
    rw [Int.toNat_natCast]
    refine for_range (n := m) (fun i σ H5 => ∃ (L R : List Str) (v5 : Option V), σ = [some (.ref h), some (.ref ot), some (.int (m : Nat)), some (.ref ll), some (.ref o), v5] ∧ H5 ll = some (.lst (L.map V.str)) ∧ H5 o = some (.lst (R.map V.str)) ∧ (R ++ L).Perm xs ∧ R.length = i ∧ Held H5 h (c + 18 - i) ∧ Kp h H H5 ∧ Cel h ll H5 ∧ Cel h o H5)
      ⟨xs, [], _, rfl, by rw [upd_ne nlo]; exact upd_same, upd_same, List.Perm.refl _, rfl, held2.same (sl.trans so), k4, (Cel.of held2 fll).kp (Kp.same (sl.trans so)), (Cel.of held2 fo2).kp (Kp.same (sl.trans so))⟩ ?_ ?_
    · rintro i σ H5 hi ⟨L, R, v5, rfl, hL, hR, pm, rl, held5, k5, cl5, co5⟩
      have lenL : L.length = xs.length - i := by
        have := pm.length_eq
        rw [List.length_append] at this
        omega
      refine ⟨_, rfl, Or.inl ⟨rfl, _, SqL.of hR⟩, _, rfl, Or.inl ⟨rfl, _, SqL.of hL⟩, _, rfl, _, rfl, ll, _, rfl, .inl (SqL.of hL), h, c + 18 - (i + 1), _, rfl, held5.weak (by omega), by rw [List.length_map]; omega, by rw [List.length_map]; omega, fun r H6 a6 b6 held6 k6 => ?_⟩
      rw [List.length_map] at b6
      obtain ⟨q, rfl⟩ := Int.eq_ofNat_of_zero_le a6
      have hq : q < L.length := by omega
      have hL6 := k6.1 _ _ hL cl5.ne
      have hR6 := k6.1 _ _ hR co5.ne
      have cl6 := cl5.kp k6
      have co6 := co5.kp k6
      refine ⟨ll, _, _, q, .str L[q], rfl, rfl, hL6, by omega, by omega, ?_, ?_, ?_⟩
      · rw [List.length_map]
        unfold seqIndex?
        have z : ¬ ((q : Int) < 0) := by omega
        simp [hq, z]
      · rw [List.getElem?_map, List.getElem?_eq_getElem hq]
        rfl
      have hR7 : (upd H6 ll (.lst ((L.map V.str).eraseIdx q))) o = some (.lst (R.map V.str)) := by rw [upd_ne nlo.symm]; exact hR6
      refine ⟨o, _, _, rfl, rfl, hR7, ?_, L.eraseIdx q, R ++ [L[q]], _, rfl, ?_, ?_, ?_, by simp [rl], (held6.put cl6).put (co6.put cl6.ne.symm), ((k5.trans k6).new fl0).new fo0, (cl6.put cl6.ne.symm).put co6.ne.symm, (co6.put cl6.ne.symm).put co6.ne.symm⟩
      · rw [List.length_map, rl]
        exact Nat.lt_of_lt_of_le (by omega : i < 64) (by decide)
      · rw [upd_ne nlo, upd_same, map_eraseIdx']
      · rw [upd_same, List.map_append]
        rfl
      · have e1 : L.Perm (L[q] :: L.eraseIdx q) := perm_eraseIdx hq
        rw [List.append_assoc]
        exact (List.Perm.append_left R e1.symm).trans pm
    · rintro σ H5 ⟨L, R, v5, rfl, hL, hR, pm, rl, held5, k5, cl5, co5⟩
      have nd := pm.nodup_iff.mpr xnd
      refine ⟨_, rfl, hQ o R H5 (held5.weak (by omega)) k5 fo0 hR ⟨fun z => ?_, (List.nodup_append.mp nd).1, fun y hy => pm.mem_iff.mp (List.mem_append_left _ hy), by omega⟩⟩
      rw [z] at rl
      simp at rl
      omega
end
end K30
set_option Elab.async false
set_option linter.all false
set_option maxRecDepth 100000
set_option maxHeartbeats 4000000
/-! ST: len(set(xs)) of unlike texts, xs a list or a tuple. -/
namespace ST
open PySem PySem.Spec PyProof.Rows
theorem not_yet {xs : List Str} (hn : xs.Nodup) {i : Nat} (h : i < xs.length) : ((xs.take i).any (· == xs.getD i Str.empty)) = false := by
  have e : xs.getD i Str.empty = xs[i] := by rw [List.getD_eq_getElem?_getD, List.getElem?_eq_getElem h]; rfl
  rw [e, List.any_eq_false]
  intro x hx z
  obtain ⟨j, hj, ej⟩ := List.getElem_of_mem hx
  have hji : j < i := by rw [List.length_take] at hj; omega
  rw [List.getElem_take] at ej
  exact List.pairwise_iff_getElem.mp hn j i (by omega) h hji (ej.trans (beq_iff_eq.mp z))
theorem one_more (xs : List Str) {i : Nat} (h : i < xs.length) (k : Str) : ((xs.take i).any (· == k) || decide (k = xs.getD i Str.empty)) = (xs.take (i + 1)).any (· == k) := by
  have e : xs.getD i Str.empty = xs[i] := by rw [List.getD_eq_getElem?_getD, List.getElem?_eq_getElem h]; rfl
  rw [e, List.take_add_one, List.getElem?_eq_getElem h, List.any_append]
  congr 1
  show decide (k = xs[i]) = [xs[i]].any (· == k)
  rw [List.any_cons, List.any_nil, Bool.or_false, Bool.eq_iff_iff, decide_eq_true_eq, beq_iff_eq]
  exact ⟨Eq.symm, Eq.symm⟩
section
variable {prog : Program} {w : World} {A : Around} {R : Result → Shared → Prop} {I S : Addr} {fp wr : List Addr} {G : Array GenState → Array GenState → Prop} {n : Nat} {P : Nat → Value → Prop} {St : Nat → Shared → Prop}
/-- the set of the first i of them stands at S -/
abbrev Has (prog : Program) (w : World) (S : Addr) (xs : List Str) (i : Nat) (h : Heap) : Prop := h.SetOf (PySem.strKind prog w) S (fun k => (xs.take i).any (· == k)) i
theorem Has.to {xs : List Str} {i : Nat} {h h' : Heap} (x : Has prog w S xs i h) (k : ∀ o, h.get? S = some o → h'.get? S = some o) : Has prog w S xs i h' := by
  obtain ⟨o, es, ep, t, ho, r⟩ := x
  exact ⟨o, es, ep, t, k o ho, r⟩
theorem walk (W : WalksS prog w A.in1 I fp wr G n P St) (hf : S ∉ fp) {xs : List Str} (hn : xs.Nodup) (hl : xs.length = n) (hb : n + 1 < scanBound) (hv : ∀ i v, P i v → ∃ t, v = .str (xs.getD i Str.empty) t) :
    ∀ (r i : Nat) (s : Shared), i + r = n → St i s → Has prog w S xs i s.heap → (∀ s', Moved (S :: wr) G s s' → Has prog w S xs n s'.heap → R (.ok (.ret .none)) s') →
      codeAny (model prog w) A (.builtin "set.update.loop" ⟨[.ref S, .ref I], []⟩) R s := by
  have nw : S ∉ wr := fun z => hf (W.sub _ z)
  have up : ∀ b ∈ wr, b ∈ S :: wr := fun b z => List.mem_cons_of_mem _ z
  intro r
  induction r with
  | zero =>
    intro i s e st hs fin
    cases (show i = n from e)
    refine codeAny_builtin PyProof.Rows.F.entry_set_update_loop ?_; rw [Around.under_plainId PyProof.Rows.F.plain_set_update_loop _]
    show wpAny _ A.in1 (pyNext (.ref I) >>= _) _ _ s; refine wpAny_bind (W.done s _ _ st fun s' m => ?_)
    exact wpAny_pure (fin s' (m.mono up) (hs.to fun o => m.heap S o nw))
  | succ r ih =>
    intro i s e st hs fin
    have li : i < n := by omega
    refine codeAny_builtin PyProof.Rows.F.entry_set_update_loop ?_; rw [Around.under_plainId PyProof.Rows.F.plain_set_update_loop _]
    show wpAny _ A.in1 (pyNext (.ref I) >>= _) _ _ s; refine wpAny_bind (W.item i s _ _ li st fun v s' pv st' m => ?_)
    obtain ⟨t, rfl⟩ := hv i v pv
    have hs' := hs.to fun o => m.heap S o nw
    show wpAny _ A.in1 (holding [Value.str (xs.getD i Str.empty) t] (setAdd S (.str (xs.getD i Str.empty) t)) >>= _) _ _ s'; refine wpAny_bind (wpAny_holding ?_)
    unfold setAdd
    refine wpAny_holding (wpAny_bind ((PySem.strKind prog w).pyHash (k := xs.getD i Str.empty) (strKind_is _ _ _ _) ?_))
    refine wpAny_setAddHashed_of (knd := PySem.strKind prog w) (s := { s' with toks := s'.toks + 1 }) (strKind_is _ _ _ _) rfl hs' (by omega) fun h' but h2 => ?_
    have hs2 : Has prog w S xs (i + 1) h' := SetOf_congr h2 (fun k => one_more xs (by omega) k) (by
      have z : (xs.take i).any (· == xs.getD i Str.empty) = false := not_yet hn (by omega)
      show (if (xs.take i).any (· == xs.getD i Str.empty) = true then i else i + 1) = i + 1
      rw [z]; rfl)
    refine wpAny_pure ⟨plainId_quiet PyProof.Rows.F.plain_set_update_loop _, ih (i + 1) _ (by omega) (W.frame _ s' _ _ st' (Nat.le_succ _) fun b hb o eo => ?_) hs2 fun s2 m2 h3 => ?_⟩
    · rw [but.2 b (fun z : b = S => hf (z ▸ hb))]
      exact eo
    · refine fin s2 (Moved.trans W.gtrans ((m.mono up).then_heap (Nat.le_succ _) fun b o hb eo => ?_) m2) h3
      rw [but.2 b (fun z : b = S => hb (z ▸ List.mem_cons_self))]
      exact eo
end
/-- a new set -/
abbrev fresh (led : Bool) : Obj := { cls := .type "set", dict := none, data := .set #[] 0 (.fresh 0 0 led) }
section
variable {prog : Program} {w : World} {A : Around} {E : Value → Shared → Prop} {s : Shared}
/-- how the call of set ends -/
abbrev EndOf (prog : Program) (w : World) (xs : List Str) (s : Shared) (s2 : Shared) : Prop := ∃ h' tk, s2 = { s with heap := h', toks := tk } ∧ Has prog w s.heap.objs.size xs xs.length h' ∧ ∀ b o, s.heap.get? b = some o → h'.get? b = some o
set_option maxHeartbeats 8000000 in
/-- set(xs), given what __init__ does with the new set -/
theorem call_by {l : Addr} {xs : List Str} {Q : Value → Shared → Prop}
    (hi : ∀ led : Bool, wpAny (model prog w) A.in1.in1 (Builtin.«set.__init__» ⟨[.ref s.heap.objs.size, .ref l], []⟩)
      (fun fin s' => match fin with | .done f => wants (fun r s₂ => r = .none ∧ EndOf prog w xs s s₂) E (.ok f) s' | .again c' => c'.quiet = true ∧ codeAny (model prog w) A.in1 c' (wants (fun r s₂ => r = .none ∧ EndOf prog w xs s s₂) E) s')
      (fun e s' => wants (fun r s₂ => r = .none ∧ EndOf prog w xs s s₂) E (.error e) s') { s with heap := s.heap.push (fresh led) })
    (h : ∀ s2, EndOf prog w xs s s2 → Q (.ref s.heap.objs.size) s2) : wpAny (model prog w) A (call (.type "set") [.ref l]) Q E s := by
  obtain ⟨c0, t0, mro0⟩ := PySem.F.called_set.mro
  have made0 := PySem.F.called_set.made; have sub0 := PySem.F.called_set.sub
  refine wpAny_call (codeAny_of_tree ?_); show wpAny _ _ (callAny (.type "set") _) _ _ _
  refine wpAny_pure ⟨Code.quiet_builtin _ (by decide +kernel), codeAny_builtin PySem.F.entry_type_call ?_⟩; rw [Around.under_plain (weight_type_call_type "set" [.ref l] []) rfl]
  have nt0 := PySem.F.called_set.notType; have cc0 := PySem.F.called_set.canCreate; have ct0 := PySem.F.typeCall_set_1 (.ref l)
  (repeat (any_goals (first | assumption | wp_step)))
  refine codeAny_mono (code_set_new_1 (.ref l) (E := E) (Q₁ := fun ob s1 => ∃ led : Bool, ob = .ref s.heap.objs.size ∧ s1 = { s with heap := s.heap.push (fresh led) }) fun led => ⟨led, rfl, rfl⟩) fun r s1 hr => ?_
  match r, hr with
  | .error e, hr => exact hr
  | .ok .next, hr => exact hr.elim
  | .ok .brk, hr => exact hr.elim
  | .ok .cont, hr => exact hr.elim
  | .ok (.ret ob), hr =>
    obtain ⟨led, rfl, rfl⟩ := hr
    have at0 : (s.heap.push (fresh led)).get? s.heap.objs.size = some (fresh led) := Heap.get?_push_size _ rfl
    have ty0 : Shared.TypeIs { s with heap := s.heap.push (fresh led) } (.ref s.heap.objs.size) "set" := ⟨_, at0, rfl⟩
    have lo0 := PySem.F.called_set.init.lookup; have bi0 := PySem.F.called_set.init.bind (.ref s.heap.objs.size)
    (repeat (any_goals (first | assumption | wp_step)))
    refine codeAny_mono (codeAny_call_builtin (R := wants (fun r s₂ => r = .none ∧ EndOf prog w xs s s₂) E) PySem.F.called_set.init.plain PySem.F.entry_set_init (check_set_init_1 ty0 (hi led))) fun r2 s2 hr2 => ?_
    match r2, hr2 with
    | .error e, hr2 => exact hr2
    | .ok .next, hr2 => exact hr2.elim
    | .ok .brk, hr2 => exact hr2.elim
    | .ok .cont, hr2 => exact hr2.elim
    | .ok (.ret v), hr2 =>
      obtain ⟨rfl, en⟩ := hr2
      have q := h s2 en
      obtain ⟨h', tk, rfl, h1, h2⟩ := en
      (repeat (any_goals (first | assumption | wp_step)))
set_option maxHeartbeats 8000000 in
theorem call_tup {l : Addr} {items : Array Value} {xs : List Str} {Q : Value → Shared → Prop} (hh : A.handled = none) (hl : s.heap.IsTuple l items) (hi : PyProof.Rows.StrsAre items.toList xs) (hn : xs.Nodup) (hb : xs.length + 1 < scanBound)
    (h : ∀ s2, EndOf prog w xs s s2 → Q (.ref s.heap.objs.size) s2) : wpAny (model prog w) A (call (.type "set") [.ref l]) Q E s := by
  refine call_by (xs := xs) (fun led => ?_) h
  obtain ⟨ol, ho, hc, nl, hd⟩ := hl
  obtain ⟨cl, dc, dt, sl⟩ := ol
  simp only at hc hd
  subst hc; subst hd
  have o1 : (s.heap.push (fresh led)).get? l = some { cls := .type "tuple", dict := dc, data := .seq items nl, slots := sl } := Heap.get?_push_of_some _ ho
  have l1 : (s.heap.push (fresh led)).IsTuple l items := ⟨_, o1, rfl, nl, rfl⟩
  have at0 : (s.heap.push (fresh led)).get? s.heap.objs.size = some (fresh led) := Heap.get?_push_size _ rfl
  have u1 := PySem.F.sub_tuple_set; have u2 := PySem.F.sub_tuple_frozenset; have u3 : (Value.type "tuple" == Value.type "dict") = false := by decide
  unfold Builtin.«set.__init__» noKeywords Builtin.Frozenset.updateFrom; generalize hp : pyIter = pit
  wp_walk
  subst hp
  refine wpAny_pyIter_tuple l1 (wpAny_bind (wpAny_runValue ?_))
  have ls : l < s.heap.objs.size := Heap.lt_size ho
  have h3 : A.in1.in1.in1.handled = none := by simp [hh]
  have ne1 : l ≠ (s.heap.push (fresh led)).objs.size := by rw [Heap.size_push]; exact Nat.ne_of_lt (Nat.lt_succ_of_lt ls)
  have nf : s.heap.objs.size ∉ [(s.heap.push (fresh led)).objs.size, l] := by
    rw [Heap.size_push]
    intro z
    simp only [List.mem_cons, List.not_mem_nil, or_false] at z
    rcases z with z | z
    · exact Nat.ne_of_lt (Nat.lt_succ_self _) z
    · exact Nat.ne_of_gt ls z
  have sz : xs.length = items.size := by rw [← StrsAre.len_eq hi, Array.length_toList]
  refine walk ((Walks.tuple h3 _ l ne1 items).toS) nf hn sz (by omega) (fun i v hv => SS.strs_at hi i v (by rw [Array.getElem?_toList]; exact hv)) items.size 0 _ (by omega) ⟨⟨_, Heap.get?_push_size _ rfl, rfl, rfl⟩, l1.push _⟩ ?_ ?_
  · exact PyProof.Rows.SetOf_congr ((PyProof.Rows.setObjOf_fresh (knd := PySem.strKind prog w) led).setOf (Heap.get?_push_of_some _ at0) (by unfold scanBound; omega)) (fun _ => rfl) rfl
  · intro s' hm hs'
    obtain ⟨h', g', d', tk', os'⟩ := s'
    cases (show g' = s.gens from hm.gens); cases (show d' = s.drawn from hm.drawn); cases (show os' = s.os from hm.os)
    show wpAny _ _ _ _ _ _
    refine wpAny_pure ?_
    show wpAny _ _ (ret Value.none) _ _ _
    refine wpAny_pure ⟨rfl, h', tk', rfl, by rw [sz]; exact hs', fun b o e => ?_⟩
    have lb : b < s.heap.objs.size := Heap.lt_size e
    refine hm.heap b o (fun z => ?_) (Heap.get?_push_of_some _ (Heap.get?_push_of_some _ e))
    rw [Heap.size_push] at z
    simp only [List.mem_cons, List.not_mem_nil, or_false] at z
    rcases z with z | z
    · exact Nat.ne_of_lt lb z
    · exact Nat.ne_of_lt (Nat.lt_succ_of_lt lb) z
set_option maxHeartbeats 8000000 in
theorem call_lst {l : Addr} {items : Array Value} {xs : List Str} {Q : Value → Shared → Prop} (hh : A.handled = none) (hl : s.heap.IsList l items) (hi : PyProof.Rows.StrsAre items.toList xs) (hn : xs.Nodup) (hb : xs.length + 1 < scanBound)
    (h : ∀ s2, EndOf prog w xs s s2 → Q (.ref s.heap.objs.size) s2) : wpAny (model prog w) A (call (.type "set") [.ref l]) Q E s := by
  refine call_by (xs := xs) (fun led => ?_) h
  obtain ⟨ol, ho, hc, nl, hd⟩ := hl
  obtain ⟨cl, dc, dt, sl⟩ := ol
  simp only at hc hd
  subst hc; subst hd
  have o1 : (s.heap.push (fresh led)).get? l = some { cls := .type "list", dict := dc, data := .seq items nl, slots := sl } := Heap.get?_push_of_some _ ho
  have l1 : (s.heap.push (fresh led)).IsList l items := ⟨_, o1, rfl, nl, rfl⟩
  have at0 : (s.heap.push (fresh led)).get? s.heap.objs.size = some (fresh led) := Heap.get?_push_size _ rfl
  have u1 := PySem.F.sub_list_set; have u2 := PySem.F.sub_list_frozenset; have u3 : (Value.type "list" == Value.type "dict") = false := by decide
  unfold Builtin.«set.__init__» noKeywords Builtin.Frozenset.updateFrom; generalize hp : pyIter = pit
  wp_walk
  subst hp
  refine wpAny_pyIter_list l1 (wpAny_bind (wpAny_runValue ?_))
  have ls : l < s.heap.objs.size := Heap.lt_size ho
  have h3 : A.in1.in1.in1.handled = none := by simp [hh]
  have ne1 : l ≠ (s.heap.push (fresh led)).objs.size := by rw [Heap.size_push]; exact Nat.ne_of_lt (Nat.lt_succ_of_lt ls)
  have nf : s.heap.objs.size ∉ [(s.heap.push (fresh led)).objs.size, l] := by
    rw [Heap.size_push]
    intro z
    simp only [List.mem_cons, List.not_mem_nil, or_false] at z
    rcases z with z | z
    · exact Nat.ne_of_lt (Nat.lt_succ_self _) z
    · exact Nat.ne_of_gt ls z
  have sz : xs.length = items.size := by rw [← StrsAre.len_eq hi, Array.length_toList]
  refine walk ((Walks.list h3 _ l ne1 items).toS) nf hn sz (by omega) (fun i v hv => SS.strs_at hi i v (by rw [Array.getElem?_toList]; exact hv)) items.size 0 _ (by omega) ⟨⟨_, Heap.get?_push_size _ rfl, rfl, rfl⟩, l1.push _⟩ ?_ ?_
  · exact PyProof.Rows.SetOf_congr ((PyProof.Rows.setObjOf_fresh (knd := PySem.strKind prog w) led).setOf (Heap.get?_push_of_some _ at0) (by unfold scanBound; omega)) (fun _ => rfl) rfl
  · intro s' hm hs'
    obtain ⟨h', g', d', tk', os'⟩ := s'
    cases (show g' = s.gens from hm.gens); cases (show d' = s.drawn from hm.drawn); cases (show os' = s.os from hm.os)
    show wpAny _ _ _ _ _ _
    refine wpAny_pure ?_
    show wpAny _ _ (ret Value.none) _ _ _
    refine wpAny_pure ⟨rfl, h', tk', rfl, by rw [sz]; exact hs', fun b o e => ?_⟩
    have lb : b < s.heap.objs.size := Heap.lt_size e
    refine hm.heap b o (fun z => ?_) (Heap.get?_push_of_some _ (Heap.get?_push_of_some _ e))
    rw [Heap.size_push] at z
    simp only [List.mem_cons, List.not_mem_nil, or_false] at z
    rcases z with z | z
    · exact Nat.ne_of_lt lb z
    · exact Nat.ne_of_lt (Nat.lt_succ_of_lt lb) z
end
end ST
namespace ST
open PySem PySem.Spec PyProof.Rows L2
section
variable {X : Cx}
/-- len(set(xs)): unlike texts -/
def tLenSet (K : PySem.W.Frag) (ta : TE) : TE := fun σ H Q => ta σ H fun x H1 => ∃ (l : Addr) (xs : List Str), x = .ref l ∧ (SqL K H1 l (xs.map V.str) ∨ SqT K H1 l (xs.map V.str)) ∧ xs.Nodup ∧ xs.length < 64 ∧ Q (.int xs.length) H1
theorem pe_lenSet {a : Expr} {ta : TE} {p p2 q pos : Pos} (hc : X.calm = true) (hg : Gl X "len") (hm : X.mg "len" = none) (hg2 : Gl X "set") (hm2 : X.mg "set" = none) (ha : PE X a ta)
    (na : starEach [a] X.env = (false, eval a X.env) :: starEach [] X.env := by rfl) : PE X (.Call (.Name "len" p) [.Call (.Name "set" p2) [a] [] q] [] pos) (tLenSet X.K ta) := by
  refine ⟨fun pins s σ H Q I h => Call_ (ld_blt I hg hm boot_len (PyProof.Rows.callWith_builtin1 (PyProof.Rows.args_cons (Call_ (ld_blt I hg2 hm2 boot_set ?_)) rfl) rfl rfl))⟩
  refine PyProof.Rows.callWith_type1 (PyProof.Rows.args_cons (thn (ha.run pins s σ H _ I h) fun v s1 ⟨x, H1, I1, r1, z1⟩ => PyProof.Rows.args_nil ?_) na) na rfl
  obtain ⟨l, xs, rfl, hs, hn, h6, q1⟩ := z1
  cases r1
  have sb : xs.length + 1 < scanBound := by unfold scanBound; omega
  have fin : ∀ s2, EndOf X.prog X.w xs s1 s2 → wpAny (model X.prog X.w) X.A (spliced (backTo pos (starEach [] X.env))) (fun vs s₂ => wpAny (model X.prog X.w) X.A (call (.builtin "len") (Value.ref s1.heap.objs.size :: vs)) (EP X pins σ Q) X.xe s₂) X.xe s2 := by
    rintro _ ⟨h', tk, rfl, hS, hk⟩
    refine PyProof.Rows.args_nil ?_
    obtain ⟨o, es, ep, t, ho, ex, hd, _, _, _, hf, hn⟩ := hS
    have I2 : Inv X pins σ H1 { s1 with heap := h', toks := tk } := I1.kept hk
    exact call_len_set ho ex hd hf (by rw [hn]; omega) ⟨.int xs.length, H1, I2.tok _, ⟨_, by rw [hn]⟩, q1⟩
  rcases hs with hs | hs
  · obtain ⟨its, r, pl, hz⟩ := I1.list hs
    exact call_lst (I1.ok.hd hc) pl.isList (by simpa using strsAre_of r) hn sb fin
  · obtain ⟨its, r, pl, hz⟩ := I1.tuple hs
    exact call_tup (I1.ok.hd hc) pl (by simpa using strsAre_of r) hn sb fin
end
end ST
set_option Elab.async false
set_option linter.all false
set_option maxRecDepth 100000
set_option maxHeartbeats 4000000
namespace K30
open PySem PySem.Spec PyProof.Rows L2
open C8 (Cal Mak Met pe_c pe_mk pe_mt pe_mt0)
open SX (S)
/-- more of the module's names -/
structure Bl2 (mg : Str → Option Value) : Prop where
  str : mg "str" = none
  all : mg "all" = none
  tup : mg "tuple" = none
  set : mg "set" = none
  zip : mg "zip" = none
  min : mg "min" = none
  enum : mg "enumerate" = none
section
variable {P : Program} {w : World} {K : PySem.W.Frag} {mg : Str → Option Value} {base : Heap} {f C : Addr} {fd : FuncData}
def spBetween : Sp := fun vs H Q _ => ∃ n lo hi : Int, vs = [.int n, .int lo, .int hi] ∧ Q (.bl (decide (lo ≤ n ∧ n ≤ hi))) H
theorem ok_between (F : Dn K d_is_between f fd) (cW : CalW P w K mg base) : FnOk P w K mg base CX0 2 f fd ["thing", "low", "high"] spBetween := by
  refine F.ok sc_is_between (fun vs H Q E h => ?_) (fun cdv A outer s H vs Q E hr h => ?_)
  · obtain ⟨n, lo, hi, rfl, _⟩ := h
    rfl
  · obtain ⟨n, lo, hi, rfl, hQ⟩ := h
    refine ⟨_, PSs.nox (pss_one (ps_ret (pe_and (pe_c cW hr (by decide) rfl (pa_cons (pv 0) pa_nil)) (pe_one (pe_chain op_le op_le (pv 1) (pv 0) (pv 2)))))), ?_⟩
    refine ⟨_, rfl, n, rfl, true, rfl, iteT ?_⟩
    refine ⟨_, rfl, _, rfl, _, _, rfl, rfl, _, rfl, ?_⟩
    refine ite2 (fun h1 => ?_) (fun h1 => ?_)
    · have h1' : lo ≤ n := of_decide_eq_true h1
      refine ⟨_, rfl, _, _, rfl, rfl, ?_⟩
      have e : decide (n ≤ hi) = decide (lo ≤ n ∧ n ≤ hi) := decide_eq_decide.mpr ⟨fun z => ⟨h1', z⟩, fun z => z.2⟩
      show Q (.bl (decide (n ≤ hi))) H
      rw [e]
      exact hQ
    · have h1' : ¬ lo ≤ n := fun z => h1 (decide_eq_true z)
      have e : decide (lo ≤ n ∧ n ≤ hi) = false := decide_eq_false fun z => h1' z.1
      rw [e] at hQ
      exact hQ
abbrev CalB (P : Program) (w : World) (K : PySem.W.Frag) (mg : Str → Option Value) (base : Heap) : Prop := Cal P w K mg base 2 "is_between" spBetween []
/-- what is a name -/
def spName : Sp := fun vs H Q _ => ∃ l : List Nat, vs = [.str (S l)] ∧ NM.ok l ∧ ∀ H', Same H H' → Q (.bl true) H'
theorem ok_name (F : Dn K d_is_name f fd) (b : Bl mg) (b2 : Bl2 mg) (g : ∃ t, mg "LONGEST_NAME" = some (.int 8 t)) : FnOk P w K mg base CX0 1 f fd ["thing"] spName := by
  refine F.ok sc_is_name (fun vs H Q E h => ?_) (fun cdv A outer s H vs Q E hr h => ?_)
  · obtain ⟨l, rfl, _⟩ := h
    rfl
  · obtain ⟨l, rfl, ⟨l1, l8, lc⟩, hQ⟩ := h
    obtain ⟨t, g⟩ := g
    have hz : (S l).length ≤ sizeLine := by rw [SX.S_len]; exact Nat.le_trans l8 (by decide)
    refine ⟨_, PSs.nox (pss_cons (ps_if (PW.pt (pw_or (pt_not (pt_val (pe_callB call_isi rfl b.isi boot_isinstance (pa_cons (pv 0) (pa_cons (pe_bltn (v := .ty "str") rfl b2.str boot_str rfl) pa_nil)))))
        (pw_or1 (pt_not (pt_chain op_le op_le pe_int (pe_callB call_len_str rfl b.len boot_len (pa_cons (pv 0) pa_nil)) (pe_glob (v := .int 8) rfl g ⟨t, rfl⟩)))))) pss_never pss_nil)
      (pss_one (ps_ret (pe_callB (cr_all rfl) rfl b2.all boot_all (pa_cons (pe_lc (own := [("sign", 1)]) (g := gName 1) (tt := tYes) rfl sc_is_name.nd (pi_str (pv 0)) (blkOk_by (N := N_is_name) (sc := defScope s_is_name) (by decide +kernel))
          (fun _ _ _ _ _ => pg_name (i := 1) sc_is_name.nd rfl (Or.inl rfl)) (fun _ _ _ _ _ => pts_nil) (fun _ _ _ _ _ => pe_chain op_le_str op_le_str pe_str (pv 1) pe_str)) pa_nil))))), ?_⟩
    refine ⟨_, rfl, _, _, _, _, true, rfl, ClsV.ty _, TyX.base (TyOf.str _), kit_ty (by decide +kernel), true, rfl, iteF ?_⟩
    refine ⟨_, rfl, _, rfl, hz, _, _, rfl, rfl, _, rfl, ?_⟩
    rw [SX.S_len]
    refine ite2 (fun _ => ?_) (fun z => absurd (decide_eq_true (by omega)) z)
    refine ⟨_, _, rfl, rfl, _, rfl, ?_⟩
    have e8 : decide ((l.length : Int) ≤ 8) = true := decide_eq_true (by omega)
    rw [e8]
    refine iteF ?_
    refine ⟨_, rfl, _, rfl, fun D hD => lc_it walk_str (fun i H2 => H2 D = some (.lst ((List.replicate i true).map V.bl)) ∧ Same H H2) ⟨upd_same, same_new hD⟩ (fun _ _ _ _ => trivial) ?_ ?_⟩
    · rintro i x H2 H3 hi ⟨hd, sm⟩ ⟨rfl, c', hc', rfl⟩
      have hi' : i < l.length := by simpa [S] using hi
      have hmem : c' ∈ l := by
        have : l[i]? = some c' := by simpa [S] using hc'
        exact List.mem_of_getElem? this
      have hcc := lc c' hmem
      refine ⟨rfl, ?_⟩
      refine ⟨_, rfl, _, _, rfl, rfl, _, rfl, ?_⟩
      have ea : (!decide ((⟨#[c']⟩ : Str).cps.toList < (Str.ofString "a").cps.toList)) = true := by
        have e1 : (Str.ofString "a").cps.toList = [97] := by decide +kernel
        rw [e1]
        have : ¬ (([c'] : List Nat) < [97]) := by
          rw [List.cons_lt_cons_iff]
          rintro (z | ⟨z, z'⟩)
          · omega
          · exact absurd z' (by simp)
        simp [this]
      have ez : (!decide ((Str.ofString "z").cps.toList < (⟨#[c']⟩ : Str).cps.toList)) = true := by
        have e1 : (Str.ofString "z").cps.toList = [122] := by decide +kernel
        rw [e1]
        have : ¬ (([122] : List Nat) < [c']) := by
          rw [List.cons_lt_cons_iff]
          rintro (z | ⟨z, z'⟩)
          · omega
          · exact absurd z' (by simp)
        simp [this]
      rw [ea]
      refine iteT ⟨_, _, rfl, rfl, ?_⟩
      rw [ez]
      refine ⟨_, hd, ?_, ?_, ?_⟩
      · rw [List.length_map, List.length_replicate]
        exact Nat.lt_of_lt_of_le (by omega : i < 64) (by decide)
      · rw [upd_same]
        simp [List.replicate_succ']
      · intro a o e
        rw [upd_ne (ne_of_none e hD)]
        exact sm a o e
    · rintro H2 ⟨hd, sm⟩
      refine ⟨D, _, rfl, SqL.of hd, ?_⟩
      have e3 : (List.replicate (S l).cps.size true).all id = true := by simp
      rw [e3]
      exact hQ H2 sm

/-- an order: one to eight unlike names -/
structure Ord (xs : List Str) : Prop where
  ne : xs ≠ []
  l8 : xs.length ≤ 8
  nd : xs.Nodup
  nm : ∀ x ∈ xs, ∃ l, x = S l ∧ NM.ok l
abbrev CalN (P : Program) (w : World) (K : PySem.W.Frag) (mg : Str → Option Value) (base : Heap) : Prop := Cal P w K mg base 1 "is_name" spName []
def spOrder : Sp := fun vs H Q _ => ∃ (ot : Addr) (xs : List Str), vs = [.ref ot] ∧ H ot = some (.tup (xs.map V.str)) ∧ Ord xs ∧ ∀ H', Same H H' → Q (.bl true) H'
theorem ok_order (F : Dn K d_is_order f fd) (b : Bl mg) (b2 : Bl2 mg) (g : ∃ t, mg "MOST_NAMES" = some (.int 8 t)) (cN : CalN P w K mg base) : FnOk P w K mg base CX0 2 f fd ["thing"] spOrder := by
  refine F.ok sc_is_order (fun vs H Q E h => ?_) (fun cdv A outer s H vs Q E hr h => ?_)
  · obtain ⟨ot, xs, rfl, _⟩ := h
    rfl
  · obtain ⟨ot, xs, rfl, hot, ox, hQ⟩ := h
    obtain ⟨t, g⟩ := g
    have xpos : 0 < xs.length := List.length_pos_iff.mpr ox.ne
    have l8 := ox.l8
    refine ⟨_, PSs.nox (pss_cons (ps_if (PW.pt (pw_or (pt_not (pt_val (pe_callB call_isi rfl b.isi boot_isinstance (pa_cons (pv 0) (pa_cons (pe_bltn (v := .ty "tuple") rfl b2.tup boot_tuple rfl) pa_nil)))))
        (pw_or1 (pt_not (pt_chain op_le op_le pe_int (pe_callB call_len_seq rfl b.len boot_len (pa_cons (pv 0) pa_nil)) (pe_glob (v := .int 8) rfl g ⟨t, rfl⟩)))))) pss_never pss_nil)
      (pss_one (ps_ret (pe_and (pe_callB (cr_all rfl) rfl b2.all boot_all (pa_cons (pe_lc (own := [("name", 1)]) (g := gName 1) (tt := tYes) rfl sc_is_order.nd (pi_tup (pv 0)) (blkOk_by (N := N_is_order) (sc := defScope s_is_order) (by decide +kernel))
          (fun _ _ _ _ _ => pg_name (i := 1) sc_is_order.nd rfl (Or.inl rfl)) (fun _ _ _ _ _ => pts_nil) (fun _ _ _ _ _ => pe_c cN hr (by decide) rfl (pa_cons (pv 1) pa_nil))) pa_nil))
        (pe_one (pe_cmpR op_eq (ST.pe_lenSet rfl rfl b.len rfl b2.set (pv 0)) (pe_callB call_len_seq rfl b.len boot_len (pa_cons (pv 0) pa_nil)) (nomark _))))))), ?_⟩
    refine ⟨_, rfl, _, _, _, _, true, rfl, ClsV.ty _, TyX.base (TyOf.tup hot), kit_ty (by decide +kernel), true, rfl, iteF ?_⟩
    refine ⟨_, rfl, ot, _, rfl, .inr (SqT.of hot), _, _, rfl, rfl, _, rfl, ?_⟩
    rw [List.length_map]
    refine ite2 (fun _ => ?_) (fun z => absurd (decide_eq_true (by omega)) z)
    refine ⟨_, _, rfl, rfl, _, rfl, ?_⟩
    have e8 : decide ((xs.length : Int) ≤ 8) = true := decide_eq_true (by omega)
    rw [e8]
    refine iteF ?_
    refine ⟨_, rfl, ot, rfl, ⟨_, SqT.of hot⟩, fun D hD => lc_tup (fun i H2 => H2 D = some (.lst ((List.replicate i true).map V.bl)) ∧ Same H H2) ⟨upd_same, same_new hD⟩ (fun _ H2 _ z => SqT.of (z.2 _ _ hot)) ?_ ?_⟩
    · rintro i x H2 hx ⟨hd, sm⟩
      have hi' : i < xs.length := by
        have := (List.getElem?_eq_some_iff.mp hx).1
        simpa using this
      rw [List.getElem?_map] at hx
      obtain ⟨y, hy, rfl⟩ := Option.map_eq_some_iff.mp hx
      obtain ⟨l, rfl, hl⟩ := ox.nm y (List.mem_of_getElem? hy)
      refine ⟨rfl, ?_⟩
      refine ⟨_, rfl, l, rfl, hl, fun H3 s3 => ⟨_, s3 _ _ hd, ?_, ?_, ?_⟩⟩
      · rw [List.length_map, List.length_replicate]
        exact Nat.lt_of_lt_of_le (by omega : i < 64) (by decide)
      · rw [upd_same]
        simp [List.replicate_succ']
      · intro a o e
        rw [upd_ne (ne_of_none e hD)]
        exact s3 a o (sm a o e)
    · rintro H2 ⟨hd, sm⟩
      refine ⟨D, _, rfl, SqL.of hd, true, ?_, ?_⟩
      · have e3 : (List.replicate (xs.map V.str).length true).all id = true := by simp
        rw [e3]
      refine iteT ?_
      refine ⟨_, rfl, ot, xs, rfl, .inr (SqT.of (sm _ _ hot)), ox.nd, by omega, _, rfl, ot, _, rfl, .inr (SqT.of (sm _ _ hot)), ?_⟩
      rw [List.length_map]
      exact ⟨rfl, by simpa using hQ H2 sm⟩
/-- a rule by the longest line -/
def LeastR (H : Hp) (r ot : Addr) (xs : List Str) (g : Int) : Prop := H r = some (.tup [.str "rounds", .ref ot]) ∧ H ot = some (.tup (xs.map V.str)) ∧ Ord xs ∧ 0 ≤ g ∧ g ≤ 1000
theorem LeastR.ext {H H' : Hp} {r ot : Addr} {xs : List Str} {g : Int} (h : LeastR H r ot xs g) (e : ∀ a ys, H a = some (.tup ys) → H' a = some (.tup ys)) : LeastR H' r ot xs g := ⟨e _ _ h.1, e _ _ h.2.1, h.2.2⟩
theorem LeastR.same {H H' : Hp} {r ot : Addr} {xs : List Str} {g : Int} (h : LeastR H r ot xs g) (e : Same H H') : LeastR H' r ot xs g := h.ext fun a ys z => e _ _ z
theorem no_least : decide (V.str "rounds" = V.str "least") = false := by decide +kernel
theorem no_longest : decide (V.str "rounds" = V.str "longest") = false := by decide +kernel
def spRule : Sp := fun vs H Q _ => ∃ (r ot : Addr) (xs : List Str) (g : Int), vs = [.ref r] ∧ LeastR H r ot xs g ∧ ∀ H', Same H H' → Q (.bl true) H'
theorem ok_rule (F : Dn K d_is_rule f fd) (b : Bl mg) (b2 : Bl2 mg) (cO : Cal P w K mg base 2 "is_order" spOrder []) : FnOk P w K mg base CX0 3 f fd ["thing"] spRule := by
  refine F.ok sc_is_rule (fun vs H Q E h => ?_) (fun cdv A outer s H vs Q E hr h => ?_)
  · obtain ⟨r, ot, xs, gr, rfl, _⟩ := h
    rfl
  · obtain ⟨r, ot, xs, gr, rfl, ⟨hrr, hot, ox, g0, g1⟩, hQ⟩ := h
    refine ⟨_, PSs.nox (pss_cons (ps_if (PW.pt (pw_or (pt_not (pt_val (pe_callB call_isi rfl b.isi boot_isinstance (pa_cons (pv 0) (pa_cons (pe_bltn (v := .ty "tuple") rfl b2.tup boot_tuple rfl) pa_nil)))))
        (pw_or (pt_cmpR op_lt (pe_callB call_len_seq rfl b.len boot_len (pa_cons (pv 0) pa_nil)) pe_int (nomark _))
        (pw_or1 (pt_not (pt_val (pe_c cO hr (by decide) rfl (pa_cons (pe_ix ix_tup (pv 0) pe_int (fun _ _ => rfl)) pa_nil)))))))) pss_never pss_nil)
      (pss_cons (ps_if (pt_cmpR op_eq (pe_ix ix_tup (pv 0) pe_int (fun _ _ => rfl)) pe_str (nomark _)) pss_never pss_nil)
      (pss_one (ps_ret (pe_and (pe_cmpR op_eq (pe_callB call_len_seq rfl b.len boot_len (pa_cons (pv 0) pa_nil)) pe_int (nomark _))
        (pe_one (pe_cmpR op_in_seq (pe_ix ix_tup (pv 0) pe_int (fun _ _ => rfl)) (pe_tup (pa_cons pe_str (pa_cons pe_str pa_nil))) (by rfl)))))))), ?_⟩
    refine ⟨_, rfl, _, _, _, _, true, rfl, ClsV.ty _, TyX.base (TyOf.tup hrr), kit_ty (by decide +kernel), true, rfl, iteF ?_⟩
    refine ⟨_, rfl, r, _, rfl, .inr (SqT.of hrr), _, _, rfl, rfl, _, rfl, iteF ?_⟩
    refine ⟨_, rfl, r, _, _, _, rfl, rfl, SqT.of hrr, rfl, ot, xs, rfl, hot, ox, fun H2 s2 => ⟨true, rfl, iteF ?_⟩⟩
    have hrr2 := s2 _ _ hrr
    refine ⟨_, rfl, r, _, _, _, rfl, rfl, SqT.of hrr2, rfl, rfl, _, rfl, ?_⟩
    rw [no_least]
    refine iteF ?_
    refine ⟨_, rfl, r, _, rfl, .inr (SqT.of hrr2), rfl, true, rfl, iteT ?_⟩
    refine ⟨_, rfl, r, _, _, _, rfl, rfl, SqT.of hrr2, rfl, by show 2 ≤ sizeLine; decide, fun t ft => ?_⟩
    refine ⟨t, _, rfl, .inr (SqT.of upd_same), rfl, rfl, ?_⟩
    have e : inV (.str "rounds") [.str "longest", .str "rounds"] = true := by decide +kernel
    simp only [Bool.false_eq_true, if_false]
    rw [e]
    exact hQ _ (s2.trans (same_new ft))
end
end K30
set_option Elab.async false
set_option linter.all false
set_option maxRecDepth 100000
set_option maxHeartbeats 4000000
namespace K30
open PySem PySem.Spec PyProof.Rows L2
open C8 (Cal Mak Met pe_c pe_mk pe_mt pe_mt0)
open SX (S)
theorem inV_strs (x : Str) : ∀ R : List Str, inV (.str x) (R.map V.str) = decide (x ∈ R)
  | [] => rfl
  | y :: R => by
    have ih := inV_strs x R
    unfold inV at ih ⊢
    rw [List.map_cons, List.any_cons, ih]
    have e : eqV (.str y) (.str x) = decide (x = y) := by
      show decide (y = x) = decide (x = y)
      exact decide_eq_decide.mpr ⟨Eq.symm, Eq.symm⟩
    rw [e]
    simp [Bool.decide_or]
theorem flat_strs (R : List Str) : (R.map V.str).all flatV = true := by
  rw [List.all_eq_true]
  intro v hv
  obtain ⟨y, _, rfl⟩ := List.mem_map.mp hv
  rfl
section
variable {P : Program} {w : World} {K : PySem.W.Frag} {mg : Str → Option Value} {base : Heap} {f C : Addr} {fd : FuncData}
def spNo : Sp := fun vs H Q _ => ∃ (ot rd : Addr) (xs R : List Str), vs = [.ref ot, .ref rd] ∧ H ot = some (.tup (xs.map V.str)) ∧ H rd = some (.lst (R.map V.str)) ∧ xs.length ≤ 13 ∧
  ∀ (t : Addr) (H' : Hp), Same H H' → H t = none → H' t = some (.tup ((xs.filter fun x => decide (x ∈ R)).map V.str)) → Q (.ref t) H'
theorem ok_no (F : Dn K d_names_of f fd) (b2 : Bl2 mg) : FnOk P w K mg base CX0 1 f fd ["order", "riders"] spNo := by
  refine F.ok sc_names_of (fun vs H Q E h => ?_) (fun cdv A outer s H vs Q E hr h => ?_)
  · obtain ⟨ot, rd, xs, R, rfl, _⟩ := h
    rfl
  · obtain ⟨ot, rd, xs, R, rfl, hot, hrd, l13, hQ⟩ := h
    refine ⟨_, PSs.nox (pss_one (ps_ret (pe_callTy call_tuple_of rfl b2.tup boot_tuple (pa_cons (pe_lc (own := [("name", 2)]) (g := gName 2) rfl sc_names_of.nd (pi_tup (pv 0)) (blkOk_by (N := N_names_of) (sc := defScope s_names_of) (by decide +kernel))
          (fun _ _ _ _ _ => pg_name (i := 2) sc_names_of.nd rfl (Or.inl rfl)) (fun _ _ _ _ _ => pts_one (pt_cmpR (r := rIn K false) op_in_seq (pv 2) (pv 1) (by rfl))) (fun _ _ _ _ _ => pv 2)) pa_nil)))), ?_⟩
    refine ⟨_, rfl, ot, rfl, ⟨_, SqT.of hot⟩, fun D hD => lc_tup (fun i H2 => H2 D = some (.lst (((xs.take i).filter fun x => decide (x ∈ R)).map V.str)) ∧ Same H H2) ⟨upd_same, same_new hD⟩ (fun _ H2 _ z => SqT.of (z.2 _ _ hot)) ?_ ?_⟩
    · rintro i x H2 hx ⟨hd, sm⟩
      have hi' : i < xs.length := by
        have := (List.getElem?_eq_some_iff.mp hx).1
        simpa using this
      rw [List.getElem?_map] at hx
      obtain ⟨y, hy, rfl⟩ := Option.map_eq_some_iff.mp hx
      have et : xs.take (i + 1) = xs.take i ++ [y] := by rw [List.take_succ, hy]; rfl
      refine ⟨rfl, ?_⟩
      refine ⟨_, rfl, _, rfl, rd, _, rfl, .inl (SqL.of (sm _ _ hrd)), rfl, flat_strs R, _, rfl, ?_⟩
      simp only [Bool.false_eq_true, if_false]
      rw [inV_strs]
      refine ite2 (fun hm => ?_) (fun hm => ?_)
      · refine ⟨_, rfl, _, hd, ?_, ?_, ?_⟩
        · rw [List.length_map]
          refine Nat.lt_of_le_of_lt (List.length_filter_le _ _) ?_
          rw [List.length_take]
          exact Nat.lt_of_lt_of_le (by omega : min i xs.length < 64) (by decide)
        · rw [upd_same, et, List.filter_append, List.map_append]
          simp [hm]
        · intro a o e
          rw [upd_ne (ne_of_none e hD)]
          exact sm a o e
      · refine ⟨?_, sm⟩
        rw [et, List.filter_append]
        simp [hm, hd]
    · rintro H2 ⟨hd, sm⟩
      rw [List.length_map, List.take_length] at hd
      refine ⟨D, _, rfl, .inl ⟨SqL.of hd, fun l fl => hQ l _ (sm.trans (same_new fl)) ?_ upd_same⟩⟩
      exact sm.free fl
theorem zs_take (xs : List Str) (i : Nat) (h : i < xs.length) : ((xs.take i).map fun _ => V.int 0) ++ [V.int 0] = (xs.take (i + 1)).map fun _ => V.int 0 := by
  rw [List.take_succ, List.getElem?_eq_getElem h, List.map_append]
  rfl
end
end K30
set_option Elab.async false
set_option linter.all false
set_option maxRecDepth 100000
set_option maxHeartbeats 4000000
/-! sorted(xs), xs a list of data at any depth -/
namespace SRT
open PySem PySem.Spec PyProof.Rows L2
/-- p stands not behind q -/
def leD (p q : V × PyData) : Bool := !PySem.W.dataLt q.2 p.2
/-- the sorted list -/
def srt (xs : List V) (ds : List PyData) : List V := ((xs.zip ds).mergeSort leD).map Prod.fst
theorem len_of {K : PySem.W.Frag} {H : Hp} : ∀ {xs : List V} {ds : List PyData}, DpAll K H xs ds → xs.length = ds.length
  | _, _, .nil => rfl
  | _, _, .cons _ t => congrArg (· + 1) (len_of t)
theorem srt_perm {xs : List V} {ds : List PyData} (h : xs.length = ds.length) : (srt xs ds).Perm xs := by
  unfold srt
  refine ((List.mergeSort_perm _ _).map Prod.fst).trans ?_
  rw [List.map_fst_zip (by omega)]
theorem vals_each : ∀ {xs : List V} {us : List Value} {ds : List PyData}, Vals xs us → xs.length = ds.length → PySem.W.EachIs (fun v (b : V × PyData) => RelV b.1 v) us (xs.zip ds)
  | [], _, [], .nil, _ => .nil
  | x :: xs, _, d :: ds, .cons r rs, h => .cons r (vals_each rs (by simpa using h))
theorem each_vals : ∀ {us : List Value} {bs : List (V × PyData)}, PySem.W.EachIs (fun v (b : V × PyData) => RelV b.1 v) us bs → Vals (bs.map Prod.fst) us
  | _, _, .nil => .nil
  | _, _, .cons r rs => .cons r (each_vals rs)
def rSortedD (K : PySem.W.Frag) : List V → Hp → VK → Prop := fun vs H Q => ∃ (a : Addr) (xs : List V) (ds : List PyData), vs = [V.ref a] ∧ (SqL K H a xs ∨ SqT K H a xs) ∧ DpAll K H xs ds ∧ PySem.W.AllAlike ds ∧ PySem.W.Sortable ds ∧ (∀ d ∈ ds, d.depth ≤ 60) ∧
  ∀ p : Addr, H p = none → Q (.ref p) (upd H p (.lst (srt xs ds)))
/-! sorted of a tuple -/
section
variable {prog : Program} {w : World} {A : Around} {E : Value → Shared → Prop} {s : Shared} {κ : KeyKind}
theorem gather_tup {b : Addr} {us : List Value} {R : List Value → Shared → Prop} (ht : s.heap.IsTuple b us.toArray) (hz : us.length ≤ sizeLine)
    (h : R us { s with heap := (s.heap.push (seqObj "list" #[] 0)).update s.heap.objs.size (Obj.mapSeq (· ++ us.toArray)) }) : wpAny (model prog w) A (collect (.ref b)) R E s := by
  obtain ⟨ob, e1, e2, k, e3⟩ := id ht
  have e4 : (s.heap.push (seqObj "list" #[] 0)).get? b = some ob := Heap.get?_push_of_some _ e1
  have em : (s.heap.push (seqObj "list" #[] 0)).get? s.heap.objs.size = some (seqObj "list" #[] 0) := Heap.get?_push_size _ rfl
  unfold collect
  refine wpAny_bind (wpAny_runValue (codeAny_builtin entry_proto_collect' ?_))
  show wpAny _ _ (do again (.builtin "list.__iadd__" ⟨[← newList [], .ref b], []⟩)) _ _ s
  refine wpAny_bind (wpAny_newList (wpAny_pure ⟨Code.quiet_builtin _ (by decide +kernel), codeAny_builtin entry_list_iadd' ?_⟩))
  show wpAny _ _ (Builtin.List.listExtendWith (.ref s.heap.objs.size) (.ref b) (.ref s.heap.objs.size)) _ _ { s with heap := s.heap.push (seqObj "list" #[] 0) }
  unfold Builtin.List.listExtendWith
  refine wpAny_bind (wpAny_typeOf (T := "tuple") ⟨ob, e4, e2⟩ ?_)
  have et : (Value.type "tuple" == Value.type "tuple") = true := by rfl
  rw [if_pos (by rw [et]; simp)]
  refine wpAny_bind (listItems_at e4 e3 (wpAny_bind (listItems_at em rfl ?_)))
  rw [if_neg (by simp)]
  refine wpAny_bind (listUpdate_at em rfl ?_ (Nat.zero_le _) (by simp only [Array.size_append, List.size_toArray, List.length_nil]; omega))
  refine wpAny_pure ?_
  show wpAny (model prog w) A (load s.heap.objs.size >>= fun o => match o.data with | .seq xs _ => pure xs.toList | _ => unsupported "internal:collect") R E _
  refine wpAny_bind (wpAny_load (get?_update_seq em _) ?_)
  show wpAny _ _ (pure ((#[] : Array Value) ++ us.toArray).toList) R E _
  have e5 : ((#[] : Array Value) ++ us.toArray).toList = us := by simp
  rw [e5]
  exact wpAny_pure h
theorem sorted_tupV {b : Addr} {us : List Value} {R : Value → Shared → Prop} (ht : s.heap.IsTuple b us.toArray) (hz : us.length ≤ sizeLine)
    (S : PySem.W.SortsAt prog w A.in1.in1 { s with heap := PySem.W.sortingHeap (PySem.W.copyHeap s.heap us) (s.heap.objs.size + 1) us } κ us)
    (h : R (.ref (s.heap.objs.size + 1)) { s with heap := sortedAll s.heap us (PySem.W.sortVals κ false us us).toArray }) : wpAny (model prog w) A (call (.builtin "sorted") [.ref b]) R E s := by
  refine Calls.call_function_entry kind_sorted plain_sorted entry_sorted (args_sorted1 _) ?_
  unfold Builtin.«sorted»
  refine wpAny_bind (m := checkCount "sorted" 1 1 _) (wpAny_pure (wpAny_bind (gather_tup ht hz (wpAny_bind (wpAny_newList ?_ hz)))))
  have e : ((s.heap.push (seqObj "list" #[] 0)).update s.heap.objs.size (Obj.mapSeq (· ++ us.toArray))).objs.size = s.heap.objs.size + 1 := (Heap.size_update ..).trans (size_push' ..)
  show wpAny _ _ _ _ _ { s with heap := PySem.W.copyHeap s.heap us }
  rw [e]
  refine wpAny_bind (wpAny_holding (wpAny_call_entry slot_list_sort ⟨_, PySem.W.copyHeap_at s.heap us, rfl⟩ entry_list_sort ?_ (args_list_sort _)))
  exact PySem.W.list_sort_vals (s := { s with heap := PySem.W.copyHeap s.heap us }) (PySem.W.copyHeap_at s.heap us) S hz ⟨_, rfl, wpAny_pure ⟨_, rfl, h⟩⟩
end
section
variable {X : Cx} {pins : List (Addr × Obj)} {σ : L2.St} {H : Hp} {s : Shared}
theorem reads_each (I : Inv X pins σ H s) : ∀ {ds : List PyData} {vs : List V} {us : List Value}, DpAll X.K H vs ds → Vals vs us → PySem.W.EachIs (fun v d => ∃ as, Reads s.heap v d as) us ds
  | [], _, _, h, r => by
    cases h
    cases r
    exact .nil
  | d :: ds, _, _, h, r => by
    cases h with
    | cons h1 h2 =>
      cases r with
      | cons r1 r2 => exact .cons (Dp.reads I d _ _ h1 r1) (reads_each I h2 r2)
theorem cr_sortedD (hu : X.A.units + 64 < cLine) : CallR X (.builtin "sorted") (rSortedD X.K) := by
  intro pins s σ H vs us Q I r h
  obtain ⟨a, xs, ds, rfl, hs, hd, al, so, dp, q⟩ := h
  rw [Vals.ref1 r]
  have ln := len_of hd
  have main : ∀ its : List Value, Vals xs its → xs.length ≤ sizeLine → ∃ κ : KeyKind, PySem.W.SortsAt X.prog X.w X.A.in1.in1 { s with heap := PySem.W.sortingHeap (PySem.W.copyHeap s.heap its) (s.heap.objs.size + 1) its } κ its ∧
      EP X pins σ Q (.ref (s.heap.objs.size + 1)) { s with heap := sortedAll s.heap its (PySem.W.sortVals κ false its its).toArray } := fun its rv hz => by
    have e := reads_each I hd rv
    have e2 : PySem.W.EachIs (fun v d => ∃ as, Reads (PySem.W.sortingHeap (PySem.W.copyHeap s.heap its) (s.heap.objs.size + 1) its) v d as) its ds := e.mono fun v d ⟨as, h⟩ => ⟨as, Reads.keeps (fun b o z => PySem.W.sorting_copy_old z) h⟩
    have S := PySem.W.SortsAt.data (prog := X.prog) (w := X.w) (A := X.A.in1.in1) (s := { s with heap := PySem.W.sortingHeap (PySem.W.copyHeap s.heap its) (s.heap.objs.size + 1) its }) e2 al so (fun d hd => by have := dp d hd; show X.A.units + 1 + 1 + d.depth < cLine; omega)
    refine ⟨_, S, ?_⟩
    have ek : PySem.W.EachIs (fun v (b : V × PyData) => (PySem.W.dataKind (PySem.W.sortingHeap (PySem.W.copyHeap s.heap its) (s.heap.objs.size + 1) its) ds).keyOf v = some (PySem.W.keyToks b.2)) its (xs.zip ds) := by
      have f := PySem.W.each_keys al e2
      have mz : (xs.zip ds).map Prod.snd = ds := List.map_snd_zip (by omega)
      rw [← mz] at f
      have f' := PySem.W.each_of_map (fun b : V × PyData => b.2) f
      rw [mz] at f'
      exact f'
    have eo := PySem.W.sortVals_each (κ := PySem.W.dataKind (PySem.W.sortingHeap (PySem.W.copyHeap s.heap its) (s.heap.objs.size + 1) its) ds) (rev := false) (fun b : V × PyData => PySem.W.keyToks b.2) (vals_each rv ln) ek
    have vo := each_vals eo
    generalize PySem.W.sortVals _ false its its = out at vo ⊢
    obtain ⟨ep, he'⟩ := PyProof.Rows.sortedAll_at s.heap its out.toArray
    have hlen : (srt xs ds).length ≤ sizeLine := by rw [(srt_perm ln).length_eq]; exact hz
    exact ⟨.ref _, upd H (s.heap.objs.size + 1) (.lst (srt xs ds)), I.laid (t' := s.toks) (fun _ _ => PyProof.Rows.sortedAll_old) (Nat.le_succ _) ⟨hlen, out, ep, vo, he'⟩, rfl, q _ (I.hok.fresh (Nat.le_succ _))⟩
  rcases hs with hs | hs
  · obtain ⟨its, rv, hl, hz⟩ := I.list hs
    obtain ⟨κ, S, k⟩ := main its rv hz
    exact PySem.W.sorted_vals hl.isList S (by rw [← rv.length]; exact hz) k
  · obtain ⟨its, rv, hl, hz⟩ := I.tuple hs
    obtain ⟨κ, S, k⟩ := main its rv hz
    exact sorted_tupV hl (by rw [← rv.length]; exact hz) S k
/-- texts -/
def leS (x y : Str) : Prop := ¬ y.cps.toList < x.cps.toList
theorem dpS {H : Hp} : ∀ xs : List Str, DpAll X.K H (xs.map V.str) (xs.map PyData.str)
  | [] => .nil
  | x :: xs => .cons (.str x) (dpS xs)
theorem srtS (xs : List Str) : ∃ ys : List Str, srt (xs.map V.str) (xs.map PyData.str) = ys.map V.str ∧ ys.Perm xs ∧ ys.Pairwise leS := by
  have tot := PySem.W.sortLe_total (listOrd itemOrd) false (fun p : V × PyData => PySem.W.keyToks p.2)
  have pw := PySem.W.sort_pairwise tot ((xs.map V.str).zip (xs.map PyData.str))
  have pm := List.mergeSort_perm ((xs.map V.str).zip (xs.map PyData.str)) leD
  have mem : ∀ p ∈ ((xs.map V.str).zip (xs.map PyData.str)).mergeSort leD, ∃ x, p = (V.str x, PyData.str x) := fun p hp => by
    have := pm.mem_iff.mp hp
    rw [List.zip_map'] at this
    obtain ⟨x, _, e⟩ := List.mem_map.mp this
    exact ⟨x, e.symm⟩
  have pw' : (((xs.map V.str).zip (xs.map PyData.str)).mergeSort leD).Pairwise fun a b => leD a b = true := pw
  unfold srt
  generalize ((xs.map V.str).zip (xs.map PyData.str)).mergeSort leD = L at pm mem pw'
  have : ∃ ys : List Str, L = ys.map fun x => (V.str x, PyData.str x) := by
    clear pm pw'
    induction L with
    | nil => exact ⟨[], rfl⟩
    | cons p L ih =>
      obtain ⟨x, e⟩ := mem p List.mem_cons_self
      obtain ⟨ys, e2⟩ := ih fun q hq => mem q (List.mem_cons_of_mem _ hq)
      exact ⟨x :: ys, by rw [e, e2]; rfl⟩
  obtain ⟨ys, rfl⟩ := this
  refine ⟨ys, ?_, ?_, ?_⟩
  · rw [List.map_map]
    rfl
  · have p2 := pm.map fun p : V × PyData => match p.1 with | .str x => x | _ => ""
    rw [List.map_map, List.zip_map', List.map_map] at p2
    simpa [Function.comp_def] using p2
  · refine (List.pairwise_map.mp pw').imp fun {a b} h => ?_
    have h' : (!PySem.W.dataLt (.str b) (.str a)) = true := h
    rw [PySem.W.dataLt_str] at h'
    simpa [leS] using h'
/-- sorted of texts, a list or a tuple -/
def rSortedTx (K : PySem.W.Frag) : List V → Hp → VK → Prop := fun vs H Q => ∃ (a : Addr) (xs : List Str), vs = [V.ref a] ∧ (SqL K H a (xs.map V.str) ∨ SqT K H a (xs.map V.str)) ∧
  ∀ (ys : List Str) (p : Addr), ys.Perm xs → ys.Pairwise leS → H p = none → Q (.ref p) (upd H p (.lst (ys.map V.str)))
theorem cr_sortedTx (hu : X.A.units + 64 < cLine) : CallR X (.builtin "sorted") (rSortedTx X.K) := by
  intro pins s σ H vs us Q I r h
  obtain ⟨a, xs, rfl, hs, q⟩ := h
  obtain ⟨ys, e, pm, pw⟩ := srtS xs
  refine cr_sortedD hu pins s σ H _ us Q I r ⟨a, _, xs.map PyData.str, rfl, hs, dpS xs, fun d h1 d' h2 => ?_, .inr fun d h1 => ?_, fun d h1 => ?_, fun p fp => ?_⟩
  · obtain ⟨x, _, rfl⟩ := List.mem_map.mp h1
    obtain ⟨y, _, rfl⟩ := List.mem_map.mp h2
    rfl
  · obtain ⟨x, _, rfl⟩ := List.mem_map.mp h1
    refine ⟨fun z => ?_, fun l z => ?_⟩ <;> cases z
  · obtain ⟨x, _, rfl⟩ := List.mem_map.mp h1
    show 0 ≤ 60
    decide
  · rw [e]
    exact q ys p pm pw fp
end
end SRT
set_option Elab.async false
set_option linter.all false
set_option maxRecDepth 100000
set_option maxHeartbeats 4000000
/-! SDC: a dict comprehension assigned to a plain local on one line; a dict comprehension over a list. -/
namespace SDC
open PySem PySem.Spec PyProof.Rows L2
section
variable {X : Cx}
theorem ps_setDc {i : Nat} {y : Str} {py : Pos} {kx vx tg iter : Expr} {ifs : List Expr} {scope : Scope} {own : List (Str × Nat)} {pos spos : Pos} {wi : TI} {g : TG} {tt : TT} {tk tv : TE} (hc : X.calm = true) (hN : X.N.Nodup) (hy : X.N[i]? = some y) (hyl : X.env.scope.names.lookup y = some .local)
    (hsw : swapsWith (.DictComp kx vx [⟨tg, iter, ifs, 0⟩] scope pos) (some (.Name y py)) spos.line X.env = pure true) (hi : PI X tg iter wi) (ok : BlkOk X.N X.env.scope scope own)
    (hg : ∀ (s : Shared) (H : Hp) (C : Addr) (cl : List (Str × Addr)) (fp : List Addr), PG (X.blk s H scope (compEnvC scope cl C X.env) fp) tg g) (ht : ∀ (s : Shared) (H : Hp) (C : Addr) (cl : List (Str × Addr)) (fp : List Addr), PTs (X.blk s H scope (compEnvC scope cl C X.env) fp) ifs tt)
    (hk : ∀ (s : Shared) (H : Hp) (C : Addr) (cl : List (Str × Addr)) (fp : List Addr), PE (X.blk s H scope (compEnvC scope cl C X.env) fp) kx tk)
    (he : ∀ (s : Shared) (H : Hp) (C : Addr) (cl : List (Str × Addr)) (fp : List Addr), PE (X.blk s H scope (compEnvC scope cl C X.env) fp) vx tv) (hs : ∀ x, foldedSetIterable iter X.env x = pure x := by intro _; rfl) :
    PS X (.Assign [.Name y py] (.DictComp kx vx [⟨tg, iter, ifs, 0⟩] scope pos) spos) (tAsg (tDc wi g tt tk tv (own.map (·.2))) (gName i)) := by
  refine ⟨fun pins s σ H D I h => ?_⟩
  rw [exec_Assign_Name_used _ _ _ _ hsw]
  refine wpAny_bind (wpAny_standAt (wpAny_bind ?_))
  show wpAny _ X.A (do let _ ← comprehension (.DictComp kx vx [⟨tg, iter, ifs, 0⟩] scope pos) scope X.env (firstIterPos [⟨tg, iter, ifs, 0⟩] pos) newDict false (eval iter X.env) (some (assign (.Name y py) X.env))) _ _ s
  have h : tDc wi g tt tk tv (own.map (·.2)) σ H (fun x H1 => gName i x σ H1 D.nx) := h
  refine wpAny_bind (thn (dc_core (Qf := fun _ s' => SP X pins D .next s') hc hN I hi ok hg ht hk he hs h fun L C s' m H' I' q hn f => ?_) fun _ s' hq => wpAny_pure (wpAny_pure hq))
  show wpAny _ _ (assign (.Name y py) X.env (.ref L)) _ _ _
  refine wpAny_assign_Name (store_ok2 (v := V.ref L) I' hN hy (.inl hyl) rfl (fun s2 I2 ⟨a, sb, ha⟩ => ?_) (.inr hyl))
  obtain ⟨f0, f1, f2, f3, f4, f5⟩ := f
  have haC : C ≠ a := by
    rcases ha with z | z
    · rw [z]; exact f1
    · exact fun e => f4 y a z e.symm
  refine ⟨m, hn.sameBut sb haC, fun h3 sb3 => ?_⟩
  exact ⟨_, H', I2.turned (t' := s2.toks) (fun b o hb e => (sb3.2 b hb).trans e) f0 f1 f3 f4 f5, q⟩
theorem sw_true {kx vx : Expr} {gs : List Comprehension} {scope : Scope} {pos py : Pos} {y : Str} {l : Nat} {env : Env} (hk : env.scope.kind = .function) (hy : env.scope.names.lookup y = some .local) (hl : (py.line == pos.line) = true)
    (ha : (scope.names.any fun (n, k) => n == y && (k == .local || k == .cell)) = false) : swapsWith (.DictComp kx vx gs scope pos) (some (.Name y py)) l env = pure true := by
  have ky : env.kindOf y = some .local := hy
  have hb : env.blockKind = .function := by unfold Env.blockKind; rw [hk]; rfl
  unfold swapsWith
  simp only [hb, ky, ha, Expr.pos, hl]
  rfl
end
theorem dc_list {K : PySem.W.Frag} {a : Addr} {xs : List V} {g : TG} {tt : TT} {tk tv : TE} {vs : List Nat} {σ : L2.St} {H1 : Hp} {D : Addr} {Qd : Hp → Prop} (Pv : Nat → Hp → Prop) (h0 : Pv 0 (upd H1 D (.dK []))) (hl : ∀ i H, i ≤ xs.length → Pv i H → SqL K H a xs)
    (hs : ∀ i x H, xs[i]? = some x → Pv i H → g x (wipe σ vs) H fun σ2 H2 => wipe σ2 vs = wipe σ vs ∧ tt σ2 H2 fun b H3 =>
      if b = true then tk σ2 H3 fun y H4 => tv σ2 H4 fun z H5 => ∃ kvs k, y = kV k ∧ H5 D = some (.dK kvs) ∧ kvs.length < sizeLine ∧ Pv (i + 1) (upd H5 D (.dK (putK kvs k z))) else Pv (i + 1) H3) (hd : ∀ H, Pv xs.length H → Qd H) :
    ∃ W : Nat → Nat → Hp → Prop, (∃ m, W 0 m (upd H1 D (.dK []))) ∧ ∀ i m H, W i m H →
      ((Itl K a).stop i H ∧ Qd H) ∨ ((Itl K a).go i H ∧ ∃ Nx : Hp → Prop, (∀ H', Nx H' → ∃ m', m' < m ∧ W (i + 1) m' H') ∧ ∀ x H', (Itl K a).yld i H x H' → g x (wipe σ vs) H' fun σ2 H2 => wipe σ2 vs = wipe σ vs ∧ tt σ2 H2 fun b H3 =>
        if b = true then tk σ2 H3 fun y H4 => tv σ2 H4 fun z H5 => ∃ kvs k, y = kV k ∧ H5 D = some (.dK kvs) ∧ kvs.length < sizeLine ∧ Nx (upd H5 D (.dK (putK kvs k z))) else Nx H3) := by
  refine ⟨fun i m H => m = xs.length - i ∧ i ≤ xs.length ∧ Pv i H, ⟨xs.length, by simp, Nat.zero_le _, h0⟩, ?_⟩
  rintro i m H ⟨rfl, hi, p⟩
  have q := hl i H hi p
  by_cases hlt : i < xs.length
  · refine .inr ⟨⟨xs, xs[i], q, by simp [hlt]⟩, Pv (i + 1), fun H' p' => ⟨xs.length - (i + 1), by omega, rfl, hlt, p'⟩, fun x H' y => ?_⟩
    obtain ⟨e, y⟩ := y
    subst e
    exact hs i x _ (y xs q) p
  · have e : i = xs.length := by omega
    subst e
    exact .inl ⟨⟨xs, q, Nat.le_refl _⟩, hd H p⟩
/-- a row that is put anew comes from one of the row -/
theorem perm_inv {α β : Type} {f : α → β} : ∀ {l' z : List β}, l'.Perm z → ∀ {l : List α}, l.map f = z → ∃ m : List α, m.Perm l ∧ l' = m.map f := by
  intro l' z h
  induction h with
  | nil =>
    intro l e
    cases l with
    | nil => exact ⟨[], .nil, rfl⟩
    | cons _ _ => cases e
  | cons x h ih =>
    intro l e
    cases l with
    | nil => cases e
    | cons a as =>
      simp only [List.map_cons, List.cons.injEq] at e
      obtain ⟨m, p, rfl⟩ := ih e.2
      exact ⟨a :: m, p.cons a, by rw [List.map_cons, e.1]⟩
  | swap x y t =>
    intro l e
    match l, e with
    | a :: b :: t', e =>
      simp only [List.map_cons, List.cons.injEq] at e
      obtain ⟨e1, e2, e3⟩ := e
      exact ⟨b :: a :: t', List.Perm.swap _ _ _, by rw [List.map_cons, List.map_cons, e1, e2, e3]⟩
  | trans h1 h2 ih1 ih2 =>
    intro l e
    obtain ⟨m2, p2, e2⟩ := ih2 e
    obtain ⟨m1, p1, e1⟩ := ih1 e2.symm
    exact ⟨m1, p1.trans p2, e1⟩
end SDC
set_option Elab.async false
set_option linter.all false
set_option maxRecDepth 100000
set_option maxHeartbeats 4000000
/-! {k: v for target in xs}, the keys tuples of whole numbers and texts -/
namespace DCT
open PySem PySem.Spec PyProof.Rows L2
section
variable {X : Cx}
/-- a key goes in -/
theorem put_key {pins : List (Addr × Obj)} {σ : L2.St} {H : Hp} {s : Shared} {E : Value → Shared → Prop} {D b : Addr} {kvs : List (List Key × V)} {k : List Key} {v : V} {u : Value} {Q : Unit → Shared → Prop} (hu : X.A.units < cLine)
    (I : Inv X pins σ H s) (hD : H D = some (.dT kvs)) (hb : H b = some (.tup (k.map kV))) (hz : kvs.length < sizeLine) (rv : RelV v u) (fin : ∀ s', Inv X pins σ (upd H D (.dT (putK kvs k v))) s' → Q () s') :
    wpAny (model X.prog X.w) X.A (dictSet D (.ref b) u) Q E s := by
  obtain ⟨_, nm, xs, rel, dd⟩ := dt_of I.hok hD
  have ln := Paired.length rel
  have lp := length_putK kvs k v
  refine wpAny_dictSet_heap (hsz := by omega) (knd := tupleKind (mixKind X.prog X.w)) hu (key_of I.hok hb) dd fun h' new sb => fin _ ?_
  obtain ⟨o, es, ep, w1, w2, w3, w4, _, w5⟩ := new
  refine d_write I (by rw [hD]; exact True.intro) sb ⟨o, w1⟩ ⟨by omega, nm, _, (rel.put k hb rv).keeps fun c ys ec => ?_, o, es, ep, w1, w2, w3, w4, w5⟩
  rw [upd_ne (ne_of ec hD (fun z => nomatch z))]
  exact ec
/-- what is left to show: W by the turn, a measure and the heap, the new dict at D within -/
def tDt (wi : TI) (g : TG) (tk tv : TE) (vs : List Nat) : TE := fun σ H Q => wi σ H fun J H1 => ∀ D, H1 D = none → ∃ W : Nat → Nat → Hp → Prop, (∃ m, W 0 m (upd H1 D (.dT []))) ∧ ∀ i m Hi, W i m Hi →
  (J.stop i Hi ∧ Q (.ref D) Hi) ∨ (J.go i Hi ∧ ∃ Nx : Hp → Prop, (∀ H', Nx H' → ∃ m', m' < m ∧ W (i + 1) m' H') ∧ ∀ x H', J.yld i Hi x H' → g x (wipe σ vs) H' fun σ2 H2 => wipe σ2 vs = wipe σ vs ∧
    tk σ2 H2 fun y H3 => tv σ2 H3 fun z H4 => ∃ (b : Addr) (kvs : List (List Key × V)) (k : List Key), y = .ref b ∧ H4 b = some (.tup (k.map kV)) ∧ H4 D = some (.dT kvs) ∧ kvs.length < sizeLine ∧ Nx (upd H4 D (.dT (putK kvs k z))))
theorem core {pins : List (Addr × Obj)} {s : Shared} {σ : L2.St} {H : Hp} {Q : VK} {kx vx tg iter : Expr} {scope : Scope} {own : List (Str × Nat)} {pos pos' : Pos} {wi : TI} {g : TG} {tk tv : TE} {use : Option (Value → Sem Unit)} {Qf : Value → Shared → Prop}
    (hu : X.A.units < cLine) (hc : X.calm = true) (hN : X.N.Nodup) (I : Inv X pins σ H s) (hi : PI X tg iter wi) (ok : BlkOk X.N X.env.scope scope own)
    (hg : ∀ (s : Shared) (H : Hp) (C : Addr) (cl : List (Str × Addr)) (fp : List Addr), PG (X.blk s H scope (compEnvC scope cl C X.env) fp) tg g)
    (hk : ∀ (s : Shared) (H : Hp) (C : Addr) (cl : List (Str × Addr)) (fp : List Addr), PE (X.blk s H scope (compEnvC scope cl C X.env) fp) kx tk)
    (hv : ∀ (s : Shared) (H : Hp) (C : Addr) (cl : List (Str × Addr)) (fp : List Addr), PE (X.blk s H scope (compEnvC scope cl C X.env) fp) vx tv) (hs : ∀ x, foldedSetIterable iter X.env x = pure x)
    (h : tDt wi g tk tv (own.map (·.2)) σ H Q)
    (out : ∀ D C s' m H', Inv X pins σ H' s' → Q (.ref D) H' → s'.heap.Ns C m → FpOk X pins H' C → compPost (model X.prog X.w) X.A X.xe use Qf (.ref D) C (.ok .next) s') :
    wpAny (model X.prog X.w) X.A (comprehension (.DictComp kx vx [⟨tg, iter, [], 0⟩] scope pos) scope X.env pos' newDict false (eval iter X.env) use) Qf X.xe s := by
  have cells : ∀ y ∈ scope.names, y.2 = .free → ∃ c, X.env.cells.lookup y.1 = some c := fun y hy e => (ok.free y hy e).elim (fun q => I.ok.has _ (.inl q)) fun q => I.ok.has _ (.inr q)
  refine wpAny_comprehension_free (use := use) rfl hs (closure_ok cells) ok.kind (fun y hy e => by rw [ok.uniq y hy, e]) (thn (hi.run pins s σ H _ I h) fun _ s1 h1 => thn h1 fun _ s2 h2 => ?_)
  obtain ⟨it, fp, tn, J, HI, rfl, I2, T, st, ft, rest⟩ := h2
  refine wpAny_newObj_type (newEnv_comp ?_)
  -- the new dict
  obtain ⟨D, eD⟩ : ∃ D, D = s2.heap.objs.size := ⟨_, rfl⟩
  rw [← eD]
  have fD : HI D = none := I2.hok.fresh (Nat.le_of_eq eD.symm)
  obtain ⟨W, ⟨m0, w0⟩, turn⟩ := rest D fD
  obtain ⟨s3, e3⟩ : ∃ s3 : Shared, s3 = { s2 with heap := s2.heap.push { cls := .type "dict", data := .dict #[] } } := ⟨_, rfl⟩
  have h3 : s3.heap = s2.heap.push { cls := .type "dict", data := .dict #[] } := by rw [e3]
  have I3 : Inv X pins σ (upd HI D (.dT [])) s3 := by
    rw [e3]
    refine I2.laid (t' := s2.toks) (fun _ _ e => Heap.get?_push_of_some _ e) (Nat.le_of_eq eD.symm) ?_
    rw [eD]
    exact dt_empty s2.heap I2.big
  have foot : ∀ b ∈ fp, FpOk X pins (upd HI D (.dT [])) b ∧ b < s3.heap.objs.size := fun b hb => by
    obtain ⟨_, e, _⟩ := T.obj _ _ st b hb
    have lt := Heap.lt_size e
    refine ⟨⟨?_, (ft b hb).2⟩, by rw [h3, Heap.size_push]; exact Nat.lt_succ_of_lt lt⟩
    rw [upd_ne (by rw [eD]; exact Nat.ne_of_lt lt)]
    exact (ft b hb).1
  have st3 : tn 0 s3.heap := T.keep _ _ _ st fun b _ o e => by rw [h3]; exact Heap.get?_push_of_some _ e
  have I4 := block_start I3 ok hN foot
  have G := hg s3 (upd HI D (.dT [])) s3.heap.objs.size (cellsFrom (s3.heap.objs.size + 1) scope.names (cloFrom X.env.cells scope.names [])) fp
  have Kx := hk s3 (upd HI D (.dT [])) s3.heap.objs.size (cellsFrom (s3.heap.objs.size + 1) scope.names (cloFrom X.env.cells scope.names [])) fp
  have Vx := hv s3 (upd HI D (.dT [])) s3.heap.objs.size (cellsFrom (s3.heap.objs.size + 1) scope.names (cloFrom X.env.cells scope.names [])) fp
  rw [← e3]
  show codeAny _ _ (.compStart _ 0 (.ref it) (.ref D) (compEnvC scope (cellsFrom (s3.heap.objs.size + 1) scope.names (cloFrom X.env.cells scope.names [])) s3.heap.objs.size X.env)) _ { s3 with heap := pushCells (s3.heap.push { cls := .type "dict", data := .dict #[] }) scope.names }
  generalize eC : compEnvC scope (cellsFrom (s3.heap.objs.size + 1) scope.names (cloFrom X.env.cells scope.names [])) s3.heap.objs.size X.env = ce at I4 G Kx Vx ⊢
  have cL : ce.locals = s3.heap.objs.size := by rw [← eC]; rfl
  have nfp : ∀ b ∈ fp, (upd HI D (.dT [])) b = none := fun b hb => (foot b hb).1.1
  generalize upd HI D (.dT []) = H3 at I3 I4 G Kx Vx w0 nfp foot
  generalize e4 : ({ s3 with heap := pushCells (s3.heap.push { cls := .type "dict", data := .dict #[] }) scope.names } : Shared) = s4 at I4 ⊢
  have st4 : tn 0 s4.heap := T.keep _ _ _ st3 fun b _ o e => by rw [← e4]; exact pushCells_keeps _ _ _ _ (Heap.get?_push_of_some _ e)
  have stay : ∀ {σ' : L2.St} {H' : Hp} {s' : Shared}, Inv (X.blk s3 H3 scope ce fp) [] σ' H' s' → (∀ b ∈ fp, H' b = none) → ∀ b ∈ fp, FpOk (X.blk s3 H3 scope ce fp) [] H' b := fun {σ' H' s'} I' n b hb =>
    ⟨n b hb, (I'.ok.exf b hb).1, I'.ok.exfs b hb, .inl hb, fun x c e => (I'.ok.exf b hb).2 x c e, fun p hp => absurd (show p ∈ ([] : List (Addr × Obj)) ++ [] from hp) (by simp)⟩
  refine codeAny_compStart_dict ?loop (T.self X.A 0 _ _ _ st4 ?loop)
  refine compLoop_anyD (fun n s' => ∃ i Hi, Inv (X.blk s3 H3 scope ce fp) [] (wipe σ (own.map (·.2))) Hi s' ∧ tn i s'.heap ∧ (∀ b ∈ fp, Hi b = none) ∧ W i n Hi) ?_ m0 ⟨0, H3, I4, st4, nfp, w0⟩
  rintro n s5 ⟨i, H5, I5, st5, n5, w5⟩
  rcases turn i n H5 w5 with ⟨stop, done⟩ | ⟨go, Nx, less, step⟩
  · refine thnF (T.done (X.blk s3 H3 scope ce fp) rfl rfl rfl hc i [] s5 _ H5 (fun _ _ => False) I5 (stay I5 n5) st5 stop) fun r s6 ⟨er, I6⟩ => ?_
    subst er
    have I7 : Inv X pins σ H5 s6 := I3.call' (ch := fp) I6.os I6.base I6.hok I6.bare fun b hb => ⟨(foot b hb).1.2.2.2.1, (foot b hb).1.2.1, (foot b hb).1.2.2.2.2.1, (foot b hb).1.2.2.2.2.2⟩
    have nC : H5 s3.heap.objs.size = none := by rw [← cL]; exact I6.free
    obtain ⟨m, ns, _⟩ := I6.loc
    have ns : s6.heap.Ns ce.locals m := ns
    rw [cL] at ns
    exact out D s3.heap.objs.size s6 m H5 I7 done ns (I3.fpOk (Nat.le_refl _) nC)
  · refine thnF (T.item (X.blk s3 H3 scope ce fp) rfl rfl rfl hc i [] s5 _ H5 (fun _ _ => False) I5 (stay I5 n5) st5 go) fun r s6 ⟨u, er, h6⟩ => ?_
    subst er
    refine thnF h6 fun _ s7 ⟨x, H7, I7, r7, y7, st7, n7⟩ => ?_
    refine thnF (G.run _ s7 _ H7 x u _ (I7.pinned (stay I7 n7) (T.obj _ _ st7)) r7 (step x H7 y7)) fun _ s8 ⟨σ8, H8, I8, wi8, q8⟩ => ?_
    refine thnF ((pts_nil (X := X.blk s3 H3 scope ce fp)).run _ s8 σ8 H8 (fun b H' => b = true ∧ H' = H8) I8 ⟨rfl, rfl⟩) fun b s9 ⟨H9, I9, eb, e9⟩ => ?_
    subst eb e9
    simp only [if_true]
    refine thnF (Kx.run _ s9 σ8 _ _ I9 q8) fun ku s10 ⟨yk, H10, I10, r10, q10⟩ => ?_
    refine thnF (Vx.run _ s10 σ8 H10 _ I10 q10) fun vu s11 ⟨yv, H11, I11, r11, b, kvs, k, ek, hb, hD, hz, nx⟩ => ?_
    subst ek
    obtain rfl : ku = Value.ref b := r10
    refine put_key (X := X.blk s3 H3 scope ce fp) hu I11 hD hb hz r11 fun s12 I12 => ?_
    obtain ⟨m', lt, w'⟩ := less _ nx
    have pin : ∀ b ∈ fp, ∀ o, s7.heap.get? b = some o → s12.heap.get? b = some o ∧ (upd H11 D (.dT (putK kvs k yv))) b = none := fun b hb o e =>
      let z := I12.pin (b, o) (List.mem_append_right _ (List.mem_append_right _ (mem_pinsAt hb e)))
      ⟨z.1, z.2.1⟩
    have ls : (wipe σ (own.map (·.2))).length = σ8.length := by rw [← wi8, wipe_length]
    refine ⟨m', lt, i + 1, _, (I12.unpinned (pins := [])).weak ls (fun j v e => ?_), T.keep _ _ _ st7 fun b hb o e => (pin b hb o e).1, fun b hb => ?_, w'⟩
    · rw [← wi8] at e
      exact (wipe_some e).1
    · obtain ⟨o, e, _⟩ := T.obj _ _ st7 b hb
      exact (pin b hb o e).2
theorem pe_dt {kx vx tg iter : Expr} {scope : Scope} {own : List (Str × Nat)} {pos : Pos} {wi : TI} {g : TG} {tk tv : TE} (hu : X.A.units < cLine) (hc : X.calm = true) (hN : X.N.Nodup) (hi : PI X tg iter wi) (ok : BlkOk X.N X.env.scope scope own)
    (hg : ∀ (s : Shared) (H : Hp) (C : Addr) (cl : List (Str × Addr)) (fp : List Addr), PG (X.blk s H scope (compEnvC scope cl C X.env) fp) tg g)
    (hk : ∀ (s : Shared) (H : Hp) (C : Addr) (cl : List (Str × Addr)) (fp : List Addr), PE (X.blk s H scope (compEnvC scope cl C X.env) fp) kx tk)
    (hv : ∀ (s : Shared) (H : Hp) (C : Addr) (cl : List (Str × Addr)) (fp : List Addr), PE (X.blk s H scope (compEnvC scope cl C X.env) fp) vx tv) (hs : ∀ x, foldedSetIterable iter X.env x = pure x := by intro _; rfl) :
    PE X (.DictComp kx vx [⟨tg, iter, [], 0⟩] scope pos) (tDt wi g tk tv (own.map (·.2))) := by
  refine ⟨fun pins s σ H Q I h => ?_⟩
  rw [arm_eval_DictComp]
  refine core hu hc hN I hi ok hg hk hv hs h fun D C s' m H' I' q ns f => ⟨m, ns, fun h'' sb => ?_⟩
  obtain ⟨g0, g1, g2, g3, g4, g5⟩ := f
  exact ⟨.ref D, H', I'.turned (t' := s'.toks) (fun b o hb e => (sb.2 b hb).trans e) g0 g1 g3 g4 g5, rfl, q⟩
/-- put into a local name on one line -/
theorem ps_setDt {i : Nat} {y : Str} {py : Pos} {kx vx tg iter : Expr} {scope : Scope} {own : List (Str × Nat)} {pos spos : Pos} {wi : TI} {g : TG} {tk tv : TE} (hu : X.A.units < cLine) (hc : X.calm = true) (hN : X.N.Nodup) (hy : X.N[i]? = some y) (hyl : X.env.scope.names.lookup y = some .local)
    (hsw : swapsWith (.DictComp kx vx [⟨tg, iter, [], 0⟩] scope pos) (some (.Name y py)) spos.line X.env = pure true) (hi : PI X tg iter wi) (ok : BlkOk X.N X.env.scope scope own)
    (hg : ∀ (s : Shared) (H : Hp) (C : Addr) (cl : List (Str × Addr)) (fp : List Addr), PG (X.blk s H scope (compEnvC scope cl C X.env) fp) tg g)
    (hk : ∀ (s : Shared) (H : Hp) (C : Addr) (cl : List (Str × Addr)) (fp : List Addr), PE (X.blk s H scope (compEnvC scope cl C X.env) fp) kx tk)
    (hv : ∀ (s : Shared) (H : Hp) (C : Addr) (cl : List (Str × Addr)) (fp : List Addr), PE (X.blk s H scope (compEnvC scope cl C X.env) fp) vx tv) (hs : ∀ x, foldedSetIterable iter X.env x = pure x := by intro _; rfl) :
    PS X (.Assign [.Name y py] (.DictComp kx vx [⟨tg, iter, [], 0⟩] scope pos) spos) (tAsg (tDt wi g tk tv (own.map (·.2))) (gName i)) := by
  refine ⟨fun pins s σ H D I h => ?_⟩
  rw [exec_Assign_Name_used _ _ _ _ hsw]
  refine wpAny_bind (wpAny_standAt (wpAny_bind ?_))
  show wpAny _ X.A (do let _ ← comprehension (.DictComp kx vx [⟨tg, iter, [], 0⟩] scope pos) scope X.env (firstIterPos [⟨tg, iter, [], 0⟩] pos) newDict false (eval iter X.env) (some (assign (.Name y py) X.env))) _ _ s
  have h : tDt wi g tk tv (own.map (·.2)) σ H (fun x H1 => gName i x σ H1 D.nx) := h
  refine wpAny_bind (thn (core (Qf := fun _ s' => SP X pins D .next s') hu hc hN I hi ok hg hk hv hs h fun L C s' m H' I' q ns f => ?_) fun _ s' hq => wpAny_pure (wpAny_pure hq))
  show wpAny _ _ (assign (.Name y py) X.env (.ref L)) _ _ _
  refine wpAny_assign_Name (store_ok2 (v := V.ref L) I' hN hy (.inl hyl) rfl (fun s2 I2 ⟨a, sb, ha⟩ => ?_) (.inr hyl))
  obtain ⟨g0, g1, g2, g3, g4, g5⟩ := f
  have ca : C ≠ a := by
    rcases ha with z | z
    · rw [z]; exact g1
    · exact fun e => g4 y a z e.symm
  refine ⟨m, ns.sameBut sb ca, fun h3 sb3 => ?_⟩
  exact ⟨_, H', I2.turned (t' := s2.toks) (fun b o hb e => (sb3.2 b hb).trans e) g0 g1 g3 g4 g5, q⟩
end
/-- over anything that is walked -/
theorem dt_it {J : It} {n : Nat} {G : Hp → Prop} {Y : Nat → Hp → V → Hp → Prop} (w : Walk J n G Y) {g : TG} {tk tv : TE} {vs : List Nat} {σ : L2.St} {H1 : Hp} {D : Addr} {Qd : Hp → Prop} (Pv : Nat → Hp → Prop) (h0 : Pv 0 (upd H1 D (.dT []))) (hG : ∀ i H, i ≤ n → Pv i H → G H)
    (hs : ∀ i x H H', i < n → Pv i H → Y i H x H' → g x (wipe σ vs) H' fun σ2 H2 => wipe σ2 vs = wipe σ vs ∧
      tk σ2 H2 fun y H3 => tv σ2 H3 fun z H4 => ∃ (b : Addr) (kvs : List (List Key × V)) (k : List Key), y = .ref b ∧ H4 b = some (.tup (k.map kV)) ∧ H4 D = some (.dT kvs) ∧ kvs.length < sizeLine ∧ Pv (i + 1) (upd H4 D (.dT (putK kvs k z)))) (hd : ∀ H, Pv n H → Qd H) :
    ∃ W : Nat → Nat → Hp → Prop, (∃ m, W 0 m (upd H1 D (.dT []))) ∧ ∀ i m Hi, W i m Hi →
      (J.stop i Hi ∧ Qd Hi) ∨ (J.go i Hi ∧ ∃ Nx : Hp → Prop, (∀ H', Nx H' → ∃ m', m' < m ∧ W (i + 1) m' H') ∧ ∀ x H', J.yld i Hi x H' → g x (wipe σ vs) H' fun σ2 H2 => wipe σ2 vs = wipe σ vs ∧
        tk σ2 H2 fun y H3 => tv σ2 H3 fun z H4 => ∃ (b : Addr) (kvs : List (List Key × V)) (k : List Key), y = .ref b ∧ H4 b = some (.tup (k.map kV)) ∧ H4 D = some (.dT kvs) ∧ kvs.length < sizeLine ∧ Nx (upd H4 D (.dT (putK kvs k z)))) := by
  refine ⟨fun i m H => m + i = n ∧ Pv i H, ⟨n, by simp, h0⟩, ?_⟩
  rintro i m H ⟨em, p⟩
  have hi : i ≤ n := by omega
  have q := hG i H hi p
  rcases Nat.lt_or_eq_of_le hi with lt | e
  · exact .inr ⟨w.goes i H lt q, Pv (i + 1), fun H' p' => ⟨n - (i + 1), by omega, by omega, p'⟩, fun x H' y => hs i x H H' lt p (w.yields i H x H' lt q y)⟩
  · subst e
    exact .inl ⟨w.stops H q, hd H p⟩
end DCT
set_option Elab.async false
set_option linter.all false
set_option maxRecDepth 100000
set_option maxHeartbeats 4000000
/-! sorted rows of (texts, many) -/
namespace ES
open PySem PySem.Spec PyProof.Rows L2
def pD (p : List Str × Nat) : PyData := .tuple [.tuple (p.1.map .str), .int (p.2 : Nat)]
/-- p stands not behind q -/
def leP (p q : List Str × Nat) : Prop := PySem.W.dataLt (pD q) (pD p) = false
theorem toks_strs : ∀ (a b : List Str) (l m : List (Int ⊕ List Nat)), PySem.W.keyToksAll (a.map .str) ++ l = PySem.W.keyToksAll (b.map .str) ++ m → a = b ∧ l = m
  | [], [], l, m, h => ⟨rfl, List.append_cancel_left h⟩
  | [], y :: b, l, m, h => by
    rw [List.map_nil, List.map_cons, PySem.W.toks_all_cons, PySem.W.keyToksAll] at h
    simp at h
  | x :: a, [], l, m, h => by
    rw [List.map_nil, List.map_cons, PySem.W.toks_all_cons, PySem.W.keyToksAll] at h
    simp at h
  | x :: a, y :: b, l, m, h => by
    rw [List.map_cons, List.map_cons, PySem.W.toks_all_cons, PySem.W.toks_all_cons] at h
    simp only [PySem.W.keyToks, List.cons_append, List.nil_append, List.cons.injEq, true_and, Sum.inr.injEq] at h
    obtain ⟨h1, h2⟩ := h
    obtain ⟨e1, e2⟩ := toks_strs a b l m h2
    exact ⟨by rw [PySem.W.str_of_cps h1, e1], e2⟩
theorem toks_inj {p q : List Str × Nat} (h : PySem.W.keyToks (pD p) = PySem.W.keyToks (pD q)) : p = q := by
  unfold pD at h
  simp only [PySem.W.keyToks, PySem.W.toks_all_cons, List.cons.injEq, true_and] at h
  obtain ⟨e1, e2⟩ := toks_strs _ _ _ _ h
  simp only [List.cons_append, List.nil_append, List.cons.injEq, true_and, Sum.inl.injEq] at e2
  exact Prod.ext e1 (by omega)
theorem leP_anti {p q : List Str × Nat} (h1 : leP p q) (h2 : leP q p) : p = q := toks_inj (lex_total _ _ h2 h1)
/-- two sorted rows of the same are one -/
theorem same {l m : List (List Str × Nat)} (h1 : l.Pairwise leP) (h2 : m.Pairwise leP) (p : l.Perm m) : l = m :=
  List.Perm.eq_of_pairwise (le := leP) (fun a b _ _ x y => leP_anti x y) h1 h2 p
/-- unlike rows with the same members -/
theorem perm_of {l m : List (List Str × Nat)} (h1 : l.Nodup) (h2 : m.Nodup) (h : ∀ x, x ∈ l ↔ x ∈ m) : l.Perm m := (List.perm_ext_iff_of_nodup h1 h2).mpr h
theorem srtE {α : Type} (g : α → V) (p : α → List Str × Nat) (l : List α) : ∃ l' : List α, SRT.srt (l.map g) (l.map fun a => pD (p a)) = l'.map g ∧ l'.Perm l ∧ (l'.map p).Pairwise leP := by
  have tot := PySem.W.sortLe_total (listOrd itemOrd) false (fun p : V × PyData => PySem.W.keyToks p.2)
  have pw := PySem.W.sort_pairwise tot ((l.map g).zip (l.map fun a => pD (p a)))
  have pm := List.mergeSort_perm ((l.map g).zip (l.map fun a => pD (p a))) SRT.leD
  have pw' : (((l.map g).zip (l.map fun a => pD (p a))).mergeSort SRT.leD).Pairwise fun a b => SRT.leD a b = true := pw
  unfold SRT.srt
  generalize ((l.map g).zip (l.map fun a => pD (p a))).mergeSort SRT.leD = L at pm pw'
  rw [List.zip_map'] at pm
  obtain ⟨l', p1, rfl⟩ := SDC.perm_inv pm (l := l) rfl
  refine ⟨l', by rw [List.map_map]; rfl, p1, List.pairwise_map.mpr ((List.pairwise_map.mp pw').imp fun {a b} h => ?_)⟩
  have h' : (!PySem.W.dataLt (pD (p b)) (pD (p a))) = true := h
  simpa [leP] using h'
end ES
set_option Elab.async false
set_option linter.all false
set_option maxRecDepth 100000
set_option maxHeartbeats 4000000
/-! what rounds remember: sets and how often they rode, by length -/
namespace RM
open PySem PySem.Spec PyProof.Rows L2
abbrev Pr := List Str × Nat
def kS (ns : List Str) : List Key := ns.map Sum.inr
theorem kS_map (ns : List Str) : (kS ns).map kV = ns.map V.str := by
  unfold kS
  rw [List.map_map]
  rfl
theorem kS_inj {a b : List Str} (h : kS a = kS b) : a = b := by
  unfold kS at h
  exact (List.map_inj_right fun x y e => Sum.inr.inj e).mp h
/-- as a table -/
def enc (Q : List Pr) : List (List Key × V) := Q.map fun q => (kS q.1, V.int (q.2 : Nat))
def put (Q : List Pr) (ns : List Str) (m : Nat) : List Pr := if ns ∈ Q.map (·.1) then Q.map (fun q => if q.1 = ns then (q.1, m) else q) else Q ++ [(ns, m)]
theorem any_enc (ns : List Str) : ∀ Q : List Pr, ((enc Q).any fun kv => decide (kv.1 = kS ns)) = decide (ns ∈ Q.map (·.1))
  | [] => rfl
  | q :: Q => by
    have ih := any_enc ns Q
    unfold enc at ih ⊢
    rw [List.map_cons, List.any_cons, ih, List.map_cons]
    by_cases e : q.1 = ns
    · simp [e]
    · have e2 : ¬ kS q.1 = kS ns := fun z => e (kS_inj z)
      have e3 : ¬ ns = q.1 := fun z => e z.symm
      simp [e2, e3]
theorem putK_enc (Q : List Pr) (ns : List Str) (m : Nat) : putK (enc Q) (kS ns) (.int (m : Nat)) = enc (put Q ns m) := by
  unfold putK
  rw [any_enc]
  unfold put
  by_cases h : ns ∈ Q.map (·.1)
  · rw [if_pos (decide_eq_true h), if_pos h]
    unfold enc
    rw [List.map_map, List.map_map]
    refine List.map_congr_left fun q _ => ?_
    show (if kS q.1 = kS ns then (kS q.1, V.int (m : Nat)) else (kS q.1, V.int (q.2 : Nat))) = _
    by_cases e : q.1 = ns
    · simp [e]
    · have e2 : ¬ kS q.1 = kS ns := fun z => e (kS_inj z)
      simp [e, e2]
  · rw [if_neg (by simpa using h), if_neg h]
    unfold enc
    rw [List.map_append]
    rfl
theorem val_in {ns : List Str} {m : Nat} : ∀ {Q : List Pr}, (Q.map (·.1)).Nodup → (ns, m) ∈ Q → valV (enc Q) (kS ns) = some (.int (m : Nat))
  | q :: Q, nd, h => by
    rw [List.map_cons] at nd
    have n := List.nodup_cons.mp nd
    unfold enc
    rw [List.map_cons]
    rcases List.mem_cons.mp h with e | h
    · subst e
      exact valV_pos (p := (kS ns, V.int (m : Nat))) rfl
    · have ne : ¬ q.1 = ns := fun e => n.1 (by rw [e]; exact List.mem_map.mpr ⟨_, h, rfl⟩)
      rw [valV_neg (p := (kS q.1, V.int (q.2 : Nat))) (fun z => ne (kS_inj z))]
      exact val_in n.2 h
theorem val_no {ns : List Str} {Q : List Pr} (h : ns ∉ Q.map (·.1)) : valV (enc Q) (kS ns) = none := by
  have := any_enc ns Q
  rw [valV_any, decide_eq_false h] at this
  cases e : valV (enc Q) (kS ns) with
  | none => rfl
  | some v => rw [e] at this; cases this
theorem put_names {Q : List Pr} {ns : List Str} {m : Nat} (nd : (Q.map (·.1)).Nodup) : ((put Q ns m).map (·.1)).Nodup := by
  unfold put
  split
  · rw [List.map_map]
    have : (Q.map ((·.1) ∘ fun q : Pr => if q.1 = ns then (q.1, m) else q)) = Q.map (·.1) := List.map_congr_left fun q _ => by
      show (if q.1 = ns then (q.1, m) else q).1 = q.1
      split <;> rfl
    rw [this]
    exact nd
  · rename_i h
    rw [List.map_append]
    refine List.nodup_append.mpr ⟨nd, by simp, ?_⟩
    intro a ha b hb e
    simp at hb
    exact h (by rw [← hb, ← e]; exact ha)
theorem put_mem {Q : List Pr} {ns x : List Str} {m k : Nat} (nd : (Q.map (·.1)).Nodup) : (x, k) ∈ put Q ns m ↔ if x = ns then k = m else (x, k) ∈ Q := by
  unfold put
  split
  · rename_i h
    rw [List.mem_map]
    constructor
    · rintro ⟨q, hq, e⟩
      by_cases c : q.1 = ns
      · rw [if_pos c] at e
        cases e
        rw [if_pos c]
      · rw [if_neg c] at e
        subst e
        rw [if_neg c]
        exact hq
    · intro e
      by_cases c : x = ns
      · rw [if_pos c] at e
        obtain ⟨q, hq, e2⟩ := List.mem_map.mp h
        exact ⟨q, hq, by rw [if_pos e2, e2, c, e]⟩
      · rw [if_neg c] at e
        exact ⟨(x, k), e, if_neg c⟩
  · rename_i h
    rw [List.mem_append, List.mem_singleton]
    constructor
    · rintro (e | e)
      · have : ¬ x = ns := fun c => h (by rw [← c]; exact List.mem_map.mpr ⟨_, e, rfl⟩)
        rw [if_neg this]
        exact e
      · cases e
        rw [if_pos rfl]
    · intro e
      by_cases c : x = ns
      · rw [if_pos c] at e
        exact .inr (by rw [c, e])
      · rw [if_neg c] at e
        exact .inl e
/-- the sets amid their round behind some days -/
structure Amid (rode : List (List Str)) (P : List Pr) : Prop where
  nd : (P.map (·.1)).Nodup
  mem : ∀ ns m, (ns, m) ∈ P ↔ (ns ∈ rode ∧ m = rode.count ns % ns.length ∧ 0 < m)
  ln : P.length ≤ rode.length
theorem Amid.nil : Amid [] [] := ⟨by simp, fun ns m => by simp, Nat.le_refl _⟩
theorem nodup_of {P : List Pr} (h : (P.map (·.1)).Nodup) : P.Nodup := (List.pairwise_map.mp h).imp fun {a b} n e => n (by rw [e])
/-- what is remembered is told by the days alone, but for its order -/
theorem Amid.perm {rode : List (List Str)} {P Q : List Pr} (a : Amid rode P) (b : Amid rode Q) : P.Perm Q := ES.perm_of (nodup_of a.nd) (nodup_of b.nd) fun x => (a.mem x.1 x.2).trans (b.mem x.1 x.2).symm
theorem Amid.of_perm {rode : List (List Str)} {P Q : List Pr} (a : Amid rode P) (p : Q.Perm P) : Amid rode Q := ⟨(p.map (·.1)).symm.nodup a.nd, fun ns m => p.mem_iff.trans (a.mem ns m), by rw [p.length_eq]; exact a.ln⟩
theorem Amid.one {rode : List (List Str)} {P Q : List Pr} (a : Amid rode P) (b : Amid rode Q) (sp : P.Pairwise ES.leP) (sq : Q.Pairwise ES.leP) : P = Q := ES.same sp sq (a.perm b)
theorem Amid.get {rode : List (List Str)} {P : List Pr} (a : Amid rode P) (ns : List Str) : (valV (enc P) (kS ns)).getD (.int 0) = .int ((rode.count ns % ns.length : Nat) : Int) := by
  by_cases h : ns ∈ P.map (·.1)
  · obtain ⟨q, hq, e⟩ := List.mem_map.mp h
    have hq' : (ns, q.2) ∈ P := by rw [← e]; exact hq
    rw [val_in a.nd hq', ((a.mem _ _).mp hq').2.1]
    rfl
  · rw [val_no h]
    by_cases r : ns ∈ rode
    · have : rode.count ns % ns.length = 0 := by
        rcases Nat.eq_zero_or_pos (rode.count ns % ns.length) with z | z
        · exact z
        · exact absurd (List.mem_map.mpr ⟨_, (a.mem ns _).mpr ⟨r, rfl, z⟩, rfl⟩) h
      rw [this]
      rfl
    · rw [List.count_eq_zero.mpr r, Nat.zero_mod]
      rfl
theorem Amid.next {rode : List (List Str)} {P : List Pr} (a : Amid rode P) (fs : List Str) : Amid (rode ++ [fs]) ((put P fs ((rode.count fs % fs.length + 1) % fs.length)).filter fun q => decide (0 < q.2)) := by
  have nd := put_names (ns := fs) (m := (rode.count fs % fs.length + 1) % fs.length) a.nd
  refine ⟨nd.sublist (List.filter_sublist.map _), fun ns m => ?_, ?_⟩
  · rw [List.mem_filter, put_mem a.nd, List.count_append]
    by_cases c : ns = fs
    · subst c
      rw [if_pos rfl]
      have e : (rode.count ns % ns.length + 1) % ns.length = (rode.count ns + [ns].count ns) % ns.length := by
        rw [List.count_singleton_self, Nat.mod_add_mod]
      rw [e]
      simp
    · have e0 : [fs].count ns = 0 := List.count_eq_zero.mpr (by simpa using c)
      rw [if_neg c, a.mem, e0]
      simp [c]
  · refine Nat.le_trans (List.length_filter_le _ _) ?_
    have := a.ln
    rw [List.length_append]
    unfold put
    split
    · rw [List.length_map]
      exact Nat.le_trans this (Nat.le_add_right _ _)
    · rw [List.length_append]
      simp
      omega
end RM
set_option Elab.async false
set_option linter.all false
set_option maxRecDepth 100000
set_option maxHeartbeats 4000000
namespace K30
open PySem PySem.Spec PyProof.Rows L2
open C8 (Cal Mak Met pe_c pe_mk pe_mt pe_mt0)
open SX (S)
/-- credits stand at a -/
def Crd (H : Hp) (a : Addr) (xs : List Str) (c : Str → Int) : Prop := H a = some (.tup (xs.map fun x => V.int (c x)))
/-- credits behind a day -/
def nxt (R : List Str) (d : Str) (c : Str → Int) (x : Str) : Int := c x - (if x ∈ R then (840 : Int).fdiv (R.length : Int) else 0) + (if x = d then 840 else 0)
theorem Crd.same {H H' : Hp} {a : Addr} {xs : List Str} {c : Str → Int} (h : Crd H a xs c) (e : Same H H') : Crd H' a xs c := e _ _ h
/-- the riders, as in the order -/
def fs (xs R : List Str) : List Str := xs.filter fun x => decide (x ∈ R)
theorem fs_ne {xs R : List Str} (dy : DayOk xs R) : fs xs R ≠ [] := fun z => by
  obtain ⟨y, hy⟩ := List.exists_mem_of_ne_nil R dy.ne
  have : y ∈ fs xs R := List.mem_filter.mpr ⟨dy.sub y hy, decide_eq_true hy⟩
  rw [z] at this
  cases this
theorem fs_pos {xs R : List Str} (dy : DayOk xs R) : 0 < (fs xs R).length := List.length_pos_iff.mpr (fs_ne dy)
/-- who drives by the rounds -/
def Drv (rode : List (List Str)) (xs R : List Str) (y : Str) : Prop := (fs xs R)[rode.count (fs xs R) % (fs xs R).length]? = some y
theorem Drv.same {rode : List (List Str)} {xs R : List Str} {y z : Str} (a : Drv rode xs R y) (b : Drv rode xs R z) : y = z := Option.some.inj (a.symm.trans b)
theorem Drv.mem {rode : List (List Str)} {xs R : List Str} {y : Str} (a : Drv rode xs R y) : y ∈ R ∧ y ∈ xs := by
  have := List.mem_filter.mp (List.mem_of_getElem? a)
  exact ⟨of_decide_eq_true this.2, this.1⟩
/-- a set amid its round -/
structure Ent where
  pt : Addr
  nt : Addr
  p : RM.Pr
def EntOk (H : Hp) (e : Ent) : Prop := H e.pt = some (.tup [.ref e.nt, .int (e.p.2 : Nat)]) ∧ H e.nt = some (.tup (e.p.1.map V.str))
theorem EntOk.ext {H H' : Hp} {e : Ent} (h : EntOk H e) (k : ∀ a ys, H a = some (.tup ys) → H' a = some (.tup ys)) : EntOk H' e := ⟨k _ _ h.1, k _ _ h.2⟩
/-- what rounds remember behind the days -/
def KeptX (rode : List (List Str)) (H : Hp) (kp : Addr) : Prop := ∃ es : List Ent, H kp = some (.tup (es.map fun e => V.ref e.pt)) ∧ (∀ e ∈ es, EntOk H e) ∧ RM.Amid rode (es.map Ent.p) ∧ (es.map Ent.p).Pairwise ES.leP
theorem KeptX.ext {rode : List (List Str)} {H H' : Hp} {kp : Addr} (h : KeptX rode H kp) (k : ∀ a ys, H a = some (.tup ys) → H' a = some (.tup ys)) : KeptX rode H' kp := by
  obtain ⟨es, h, q, l, s⟩ := h
  exact ⟨es, k _ _ h, fun e he => (q e he).ext k, l, s⟩
theorem KeptX.same {rode : List (List Str)} {H H' : Hp} {kp : Addr} (h : KeptX rode H kp) (s : Same H H') : KeptX rode H' kp := h.ext fun a ys e => s _ _ e
section
variable {P : Program} {w : World} {K : PySem.W.Frag} {mg : Str → Option Value} {base : Heap} {f C : Addr} {fd : FuncData}
def spFm : Sp := fun vs H Q _ => ∃ (r ot : Addr) (xs : List Str) (g : Int), vs = [.ref r] ∧ LeastR H r ot xs g ∧ ∀ (t : Addr) (H' : Hp), Same H H' → KeptX [] H' t → Q (.ref t) H'
theorem ok_fm (F : Dn K d_first_memory f fd) : FnOk P w K mg base CX0 1 f fd ["rule"] spFm := by
  refine F.ok sc_first_memory (fun vs H Q E h => ?_) (fun cdv A outer s H vs Q E hr h => ?_)
  · obtain ⟨r, ot, xs, g, rfl, _⟩ := h
    rfl
  · obtain ⟨r, ot, xs, g, rfl, ⟨hrr, hot, ox, g0, g1⟩, hQ⟩ := h
    refine ⟨_, PSs.nox (pss_cons (ps_if (pt_cmpR op_eq (pe_ix ix_tup (pv 0) pe_int (fun _ _ => rfl)) pe_str (nomark _)) pss_never pss_nil)
      (pss_cons (ps_if (pt_cmpR op_eq (pe_ix ix_tup (pv 0) pe_int (fun _ _ => rfl)) pe_str (nomark _)) pss_never pss_nil) (pss_one (ps_ret (pe_tup pa_nil))))), ?_⟩
    refine ⟨_, rfl, r, _, _, _, rfl, rfl, SqT.of hrr, rfl, rfl, _, rfl, ?_⟩
    rw [no_least]
    refine iteF ?_
    refine ⟨_, rfl, r, _, _, _, rfl, rfl, SqT.of hrr, rfl, rfl, _, rfl, ?_⟩
    rw [no_longest]
    refine iteF ?_
    exact ⟨by show 0 ≤ sizeLine; decide, fun t ft => hQ t _ (same_new ft) ⟨[], upd_same, fun e he => (by cases he), RM.Amid.nil, List.Pairwise.nil⟩⟩
theorem kpos {es : List Ent} {H : Hp} (i : Nat) : True := trivial
def spDb : Sp := fun vs H Q _ => ∃ (r ot kp rd : Addr) (xs R : List Str) (rode : List (List Str)) (g : Int), vs = [.ref r, .ref kp, .ref rd] ∧ LeastR H r ot xs g ∧ KeptX rode H kp ∧ rode.length ≤ 1000 ∧ H rd = some (.lst (R.map V.str)) ∧ DayOk xs R ∧
  ∀ H1, Same H H1 → ∀ y, Drv rode xs R y → Q (.str y) H1
theorem ok_db (F : Dn K d_driver_by f fd) (cNo : Cal P w K mg base 1 "names_of" spNo []) : FnOk P w K mg base CX0 2 f fd ["rule", "memory", "riders"] spDb := by
  refine F.ok sc_driver_by (fun vs H Q E h => ?_) (fun cdv A outer s H vs Q E hr h => ?_)
  · obtain ⟨r, ot, kp, rd, xs, R, rode, g, rfl, _⟩ := h
    rfl
  · obtain ⟨r, ot, kp, rd, xs, R, rode, g, rfl, ⟨hrr, hot, ox, g0, g1⟩, ⟨es, hk, hes, am, sr⟩, n1, hrd, dy, hQ⟩ := h
    have l8 := ox.l8
    have hu := hu_of hr
    have hu0 : (A.deeper (envOfC d_driver_by.qual d_driver_by.scope s.heap.objs.size f cdv)).units < cLine := by have := hr.un; omega
    have le : es.length ≤ 1000 := by
      have := am.ln
      rw [List.length_map] at this
      omega
    refine ⟨_, PSs.nox (pss_cons (ps_set (i := 3) sc_driver_by.nd rfl (.inl rfl) (pe_c cNo hr (by decide) rfl (pa_cons (pe_ix ix_tup (pv 0) pe_int (fun _ _ => rfl)) (pa_cons (pv 2) pa_nil))))
      (pss_cons (ps_if (pt_cmpR op_eq (pe_ix ix_tup (pv 0) pe_int (fun _ _ => rfl)) pe_str (nomark _)) pss_never pss_nil)
      (pss_cons (ps_if (pt_cmpR op_eq (pe_ix ix_tup (pv 0) pe_int (fun _ _ => rfl)) pe_str (nomark _)) pss_never pss_nil)
      (pss_cons (DCT.ps_setDt (i := 4) (own := [("same", 5), ("many", 6)]) (g := gTup K 2 (gCons (gName 5) (gCons (gName 6) gNil))) hu0 rfl sc_driver_by.nd rfl rfl (SDC.sw_true rfl rfl rfl (by decide +kernel)) (pi_tup (pv 1)) (blkOk_by (N := N_driver_by) (sc := defScope s_driver_by) (by decide +kernel))
        (fun _ _ _ _ _ => pg_tup rfl (pgs_cons (pg_name (i := 5) sc_driver_by.nd rfl (.inl rfl)) (pgs_cons (pg_name (i := 6) sc_driver_by.nd rfl (.inl rfl)) pgs_nil))) (fun _ _ _ _ _ => pv 5) (fun _ _ _ _ _ => pv 6))
      (pss_one (ps_ret (pe_ix ix_tup (pv 3) (pe_dget2 hu (pv 4) (pv 3) pe_int ⟨rfl, rfl, rfl, rfl⟩) (fun _ _ => rfl)))))))), ?_⟩
    refine ⟨_, rfl, r, _, _, _, rfl, rfl, SqT.of hrr, rfl, _, rfl, ot, rd, xs, R, rfl, hot, hrd, by omega, fun t H2 s2 ft ht => ?_⟩
    refine ⟨_, rfl, r, _, _, _, rfl, rfl, SqT.of (s2 _ _ hrr), rfl, rfl, _, rfl, ?_⟩
    rw [no_least]
    refine iteF ?_
    refine ⟨_, rfl, r, _, _, _, rfl, rfl, SqT.of (s2 _ _ hrr), rfl, rfl, _, rfl, ?_⟩
    rw [no_longest]
    refine iteF ?_
    have hk2 := s2 _ _ hk
    have hes2 : ∀ e ∈ es, EntOk H2 e := fun e he => (hes e he).ext fun a ys z => s2 _ _ z
    refine ⟨_, rfl, kp, rfl, ⟨_, SqT.of hk2⟩, fun D hD => DCT.dt_it walk_tup (fun i H3 => H3 D = some (.dT (RM.enc ((es.take i).map Ent.p))) ∧ Same H2 H3) ⟨upd_same, same_new hD⟩ (fun i H3 _ z => SqT.of (z.2 _ _ hk2)) ?_ ?_⟩
    · rintro i x H3 H3' hi ⟨hd, sm⟩ ⟨rfl, hx⟩
      rw [List.getElem?_map] at hx
      obtain ⟨e, he, rfl⟩ := Option.map_eq_some_iff.mp hx
      rw [List.length_map] at hi
      obtain ⟨e1, e2⟩ := (hes2 e (List.mem_of_getElem? he)).ext fun a ys z => sm _ _ z
      refine ⟨e.pt, _, rfl, SqT.of e1, rfl, _, _, rfl, _, _, rfl, rfl, rfl, ?_⟩
      refine ⟨_, rfl, _, rfl, e.nt, _, RM.kS e.p.1, rfl, by rw [RM.kS_map]; exact e2, hd, ?_, ?_, ?_⟩
      · unfold RM.enc
        rw [List.length_map, List.length_map, List.length_take]
        exact Nat.lt_of_le_of_lt (by omega : min i es.length ≤ 1000) (by decide)
      · rw [upd_same, RM.putK_enc]
        have et : es.take (i + 1) = es.take i ++ [e] := by rw [List.take_succ, he]; rfl
        have ni : e.p.1 ∉ ((es.take i).map Ent.p).map (·.1) := fun hm => by
          have nd := am.nd
          rw [List.map_map] at nd hm
          obtain ⟨e', he', ee⟩ := List.mem_map.mp hm
          obtain ⟨j, hj, rfl⟩ := List.mem_iff_getElem.mp he'
          rw [List.length_take] at hj
          rw [List.getElem_take] at ee
          have a1 : (es.map ((·.1) ∘ Ent.p))[j]? = (es.map ((·.1) ∘ Ent.p))[i]? := by
            rw [List.getElem?_map, List.getElem?_map, he, List.getElem?_eq_getElem (by omega)]
            exact congrArg some ee
          have := (List.getElem?_inj (by rw [List.length_map]; omega) nd).mp a1
          omega
        unfold RM.put
        rw [if_neg ni, et, List.map_append]
        rfl
      · intro a o z
        rw [upd_ne (ne_of_none z hD)]
        exact sm a o z
    · rintro H3 ⟨hd, sm⟩
      rw [List.length_map, List.take_length] at hd
      have ht3 := sm _ _ ht
      have fpos := fs_pos dy
      have em := am.get (fs xs R)
      refine ⟨_, rfl, _, rfl, D, rfl, .inr ⟨_, .inl hd⟩, _, rfl, _, DGet.t hd (k := RM.kS (fs xs R)) (by rw [RM.kS_map]; exact ht3), ?_⟩
      rw [em]
      have lm : rode.count (fs xs R) % (fs xs R).length < (fs xs R).length := Nat.mod_lt _ fpos
      refine ⟨t, _, _, .str ((fs xs R)[rode.count (fs xs R) % (fs xs R).length]), rfl, rfl, SqT.of ht3, atI_nat ?_, hQ H3 (s2.trans sm) _ (List.getElem?_eq_getElem lm)⟩
      show ((fs xs R).map V.str)[_]? = _
      rw [List.getElem?_map, List.getElem?_eq_getElem lm]
      rfl
end
end K30
set_option Elab.async false
set_option linter.all false
set_option maxRecDepth 100000
set_option maxHeartbeats 4000000
namespace K30
open PySem PySem.Spec PyProof.Rows L2
open C8 (Cal Mak Met pe_c pe_mk pe_mt pe_mt0)
open SX (S)
theorem dpStrs {K : PySem.W.Frag} {H : Hp} : ∀ ns : List Str, DpAll K H (ns.map V.str) (ns.map PyData.str)
  | [] => .nil
  | _ :: t => .cons (Dp.str _) (dpStrs t)
theorem dp_ent {K : PySem.W.Frag} {H : Hp} {e : Ent} (h : EntOk H e) : Dp K H (.ref e.pt) (ES.pD e.p) :=
  Dp.tup (SqT.of h.1) (.cons (Dp.tup (SqT.of h.2) (dpStrs e.p.1)) (.cons (Dp.int _) .nil))
theorem dp_ents {K : PySem.W.Frag} {H : Hp} : ∀ {es : List Ent}, (∀ e ∈ es, EntOk H e) → DpAll K H (es.map fun e => V.ref e.pt) (es.map fun e => ES.pD e.p)
  | [], _ => .nil
  | e :: es, h => .cons (dp_ent (h e List.mem_cons_self)) (dp_ents fun x hx => h x (List.mem_cons_of_mem _ hx))
theorem alikeS : ∀ a b : List Str, PySem.W.alikeAll (a.map PyData.str) (b.map PyData.str) = true
  | [], _ => by simp [PySem.W.alikeAll]
  | _ :: _, [] => by simp [PySem.W.alikeAll]
  | _ :: a, _ :: b => by simp [PySem.W.alikeAll, PySem.W.alike, alikeS a b]
theorem depthS : ∀ a : List Str, PyData.depthAll (a.map PyData.str) ≤ 1
  | [] => by simp [PyData.depthAll]
  | _ :: a => by
    have := depthS a
    simp [PyData.depthAll, PyData.depth]
    omega
theorem alikeP (p q : RM.Pr) : PySem.W.alike (ES.pD p) (ES.pD q) = true := by
  unfold ES.pD
  simp [PySem.W.alike, PySem.W.alikeAll, alikeS]
theorem depthP (p : RM.Pr) : (ES.pD p).depth ≤ 60 := by
  have := depthS p.1
  unfold ES.pD
  simp [PyData.depth, PyData.depthAll]
  omega
section
variable {P : Program} {w : World} {K : PySem.W.Frag} {mg : Str → Option Value} {base : Heap} {f C : Addr} {fd : FuncData}
def spPb : Sp := fun vs H Q _ => ∃ (ot hd rd : Addr) (xs R : List Str) (d : Str) (c : Str → Int), vs = [.ref ot, .ref hd, .ref rd, .str d] ∧ H ot = some (.tup (xs.map V.str)) ∧ xs.length ≤ 13 ∧ Crd H hd xs c ∧ H rd = some (.lst (R.map V.str)) ∧ R ≠ [] ∧ R.length ≤ 13 ∧
  ∀ (t : Addr) (H' : Hp), Same H H' → H t = none → Crd H' t xs (nxt R d c) → Q (.ref t) H'
theorem ok_pb (F : Dn K d_parts_behind f fd) (b : Bl mg) (b2 : Bl2 mg) (gp : ∃ t, mg "RIDE_PARTS" = some (.int 840 t)) : FnOk P w K mg base CX0 1 f fd ["order", "held", "riders", "driver"] spPb := by
  refine F.ok sc_parts_behind (fun vs H Q E h => ?_) (fun cdv A outer s H vs Q E hr h => ?_)
  · obtain ⟨ot, hd, rd, xs, R, d, c, rfl, _⟩ := h
    rfl
  · obtain ⟨ot, hd, rd, xs, R, d, c, rfl, hot, l13, hc, hrd, rne, r13, hQ⟩ := h
    obtain ⟨t, gp⟩ := gp
    have rpos : 0 < R.length := List.length_pos_iff.mpr rne
    refine ⟨_, PSs.nox (pss_cons (ps_set (i := 4) sc_parts_behind.nd rfl (.inl rfl) (pe_lst pa_nil))
      (pss_cons (ps_for PassesOwn.never rfl (RZ.pi_zipA rfl b2.zip (pa_cons (pv 0) (pa_cons (pv 1) pa_nil))) (pg_tup rfl (pgs_cons (pg_name (i := 5) sc_parts_behind.nd rfl (.inl rfl)) (pgs_cons (pg_name (i := 6) sc_parts_behind.nd rfl (.inl rfl)) pgs_nil)))
        (C8.pss_cut (ps_set (i := 7) sc_parts_behind.nd rfl (.inl rfl) (pe_ifExp (pt_cmpR op_in_seq (pv 5) (pv 2) (by rfl)) (pe_op op_fdW (pe_glob (v := .int 840) rfl gp ⟨t, rfl⟩) (pe_callB call_len_seq rfl b.len boot_len (pa_cons (pv 2) pa_nil))) pe_int))
        (C8.pss_cut (ps_set (i := 8) sc_parts_behind.nd rfl (.inl rfl) (pe_ifExp (pt_cmpR op_eq (pv 5) (pv 3) (nomark _)) (pe_glob (v := .int 840) rfl gp ⟨t, rfl⟩) pe_int))
        (pss_one (ps_expr (pe_bm PySem.F.plainAttrs_list PySem.F.slot_list_append PySem.F.type_list_append mt_append (pv 4) (pa_cons (pe_op op_add (pe_op op_sub (pv 6) (pv 7)) (pv 8)) pa_nil)))))))
      (pss_one (ps_ret (pe_callTy call_tuple_of rfl b2.tup boot_tuple (pa_cons (pv 4) pa_nil)))))), ?_⟩
    refine ⟨by show 0 ≤ sizeLine; decide, fun o fo => ?_⟩
    have so := same_new (o := .lst []) fo
    refine ⟨_, rfl, _, rfl, ot, hd, _, _, rfl, .inr ⟨SqT.of (so _ _ hot), SqT.of (so _ _ hc), ?_⟩⟩
    refine RZ.for_zipT (by simp) (fun i σ H2 => ∃ (v5 v6 v7 v8 : Option V), σ = [some (.ref ot), some (.ref hd), some (.ref rd), some (.str d), some (.ref o), v5, v6, v7, v8] ∧ H2 o = some (.lst ((xs.take i).map fun x => V.int (nxt R d c x))) ∧ Same H H2)
      ⟨_, _, _, _, rfl, upd_same, so⟩ (fun i σ H2 ⟨_, _, _, _, _, _, sm⟩ => ⟨SqT.of (sm _ _ hot), SqT.of (sm _ _ hc)⟩) ?_ ?_
    · rintro i x y T σ H2 hx hy ⟨v5, v6, v7, v8, rfl, ho, sm⟩ hT
      have hi' : i < xs.length := by
        have := (List.getElem?_eq_some_iff.mp hx).1
        simpa using this
      rw [List.getElem?_map] at hx hy
      obtain ⟨z, hz, rfl⟩ := Option.map_eq_some_iff.mp hx
      rw [hz] at hy
      cases hy
      have et : xs.take (i + 1) = xs.take i ++ [z] := by rw [List.take_succ, hz]; rfl
      have sT := same_new (o := .tup [V.str z, V.int (c z)]) hT
      refine ⟨T, _, rfl, SqT.of upd_same, rfl, _, _, rfl, _, _, rfl, rfl, ?_⟩
      refine ⟨fun σ' H' => H' = upd H2 T (.tup [V.str z, V.int (c z)]) ∧ ∃ v8, σ' = [some (.ref ot), some (.ref hd), some (.ref rd), some (.str d), some (.ref o), some (.str z), some (.int (c z)), some (.int (if z ∈ R then (840 : Int).fdiv (R.length : Int) else 0)), v8], ?_, ?_⟩
      · refine ⟨_, rfl, _, rfl, rd, _, rfl, .inl (SqL.of (sT _ _ (sm _ _ hrd))), rfl, flat_strs R, _, rfl, ?_⟩
        simp only [Bool.false_eq_true, if_false]
        rw [inV_strs]
        refine ite2 (fun hm => ?_) (fun hm => ?_)
        · refine ⟨_, rfl, rd, _, rfl, .inl (SqL.of (sT _ _ (sm _ _ hrd))), _, _, rfl, rfl, ?_, rfl, v8, ?_⟩
          · rw [List.length_map]
            exact ⟨by omega, log_lt (n := 4) (by omega) (by decide) (by decide)⟩
          · rw [if_pos (of_decide_eq_true hm), List.length_map]
            rfl
        · refine ⟨rfl, v8, ?_⟩
          rw [if_neg (fun q => hm (decide_eq_true q))]
          rfl
      rintro σ' H' ⟨rfl, v8, rfl⟩
      refine ⟨fun σ' H' => H' = upd H2 T (.tup [V.str z, V.int (c z)]) ∧ σ' = [some (.ref ot), some (.ref hd), some (.ref rd), some (.str d), some (.ref o), some (.str z), some (.int (c z)), some (.int (if z ∈ R then (840 : Int).fdiv (R.length : Int) else 0)), some (.int (if z = d then 840 else 0))], ?_, ?_⟩
      · refine ⟨_, rfl, _, rfl, rfl, _, rfl, ?_⟩
        by_cases e : z = d
        · have z0 : decide (V.str z = V.str d) = true := by simp [e]
          rw [z0]
          refine iteT ⟨rfl, ?_⟩
          rw [if_pos e]
          rfl
        · have z0 : decide (V.str z = V.str d) = false := by simp [e]
          rw [z0]
          refine iteF ⟨rfl, ?_⟩
          rw [if_neg e]
          rfl
      rintro σ' H' ⟨rfl, rfl⟩
      refine ⟨_, rfl, Or.inl ⟨rfl, _, SqL.of (sT _ _ ho)⟩, _, rfl, _, rfl, _, _, rfl, rfl, _, rfl, _, _, rfl, rfl, o, _, _, rfl, rfl, sT _ _ ho, ?_, _, _, _, _, rfl, ?_, ?_⟩
      · rw [List.length_map, List.length_take]
        exact Nat.lt_of_lt_of_le (by omega : min i xs.length < 64) (by decide)
      · rw [upd_same, et, List.map_append]
        rfl
      · intro a u e
        rw [upd_ne (ne_of_none e fo)]
        exact sT a u (sm a u e)
    · rintro σ H2 ⟨v5, v6, v7, v8, rfl, ho, sm⟩
      rw [List.length_map, List.take_length] at ho
      exact ⟨_, rfl, o, _, rfl, .inl ⟨SqL.of ho, fun l fl => hQ l _ (sm.trans (same_new fl)) (sm.free fl) upd_same⟩⟩
def spRb : Sp := fun vs H Q _ => ∃ (ot kp rd : Addr) (xs R : List Str) (rode : List (List Str)), vs = [.ref ot, .ref kp, .ref rd] ∧ H ot = some (.tup (xs.map V.str)) ∧ xs.length ≤ 8 ∧ KeptX rode H kp ∧ rode.length ≤ 1000 ∧ H rd = some (.lst (R.map V.str)) ∧ DayOk xs R ∧
  ∀ (t : Addr) (H' : Hp), Same H H' → KeptX (rode ++ [fs xs R]) H' t → Q (.ref t) H'
theorem ok_rb (F : Dn K d_rounds_behind f fd) (b : Bl mg) (b2 : Bl2 mg) (srt : mg "sorted" = none) (cNo : Cal P w K mg base 1 "names_of" spNo []) : FnOk P w K mg base CX0 2 f fd ["order", "rounds", "riders"] spRb := by
  refine F.ok sc_rounds_behind (fun vs H Q E h => ?_) (fun cdv A outer s H vs Q E hr h => ?_)
  · obtain ⟨ot, kp, rd, xs, R, rode, rfl, _⟩ := h
    rfl
  · obtain ⟨ot, kp, rd, xs, R, rode, rfl, hot, l8, ⟨es, hk, hes, am, sr⟩, n1, hrd, dy, hQ⟩ := h
    have hu := hu_of hr
    have hu0 : (A.deeper (envOfC d_rounds_behind.qual d_rounds_behind.scope s.heap.objs.size f cdv)).units < cLine := by have := hr.un; omega
    have hu64 : (A.deeper (envOfC d_rounds_behind.qual d_rounds_behind.scope s.heap.objs.size f cdv)).units + 64 < cLine := by have := hr.un; omega
    have le : es.length ≤ 1000 := by
      have := am.ln
      rw [List.length_map] at this
      omega
    refine ⟨_, PSs.nox (pss_cons (ps_set (i := 3) sc_rounds_behind.nd rfl (.inl rfl) (pe_c cNo hr (by decide) rfl (pa_cons (pv 0) (pa_cons (pv 2) pa_nil))))
      (pss_cons (ps_set (i := 4) sc_rounds_behind.nd rfl (.inr rfl) (DCT.pe_dt (own := [("same", 5), ("many", 6)]) (g := gTup K 2 (gCons (gName 5) (gCons (gName 6) gNil))) hu0 rfl sc_rounds_behind.nd (pi_tup (pv 1)) (blkOk_by (N := N_rounds_behind) (sc := defScope s_rounds_behind) (by decide +kernel))
          (fun _ _ _ _ _ => pg_tup rfl (pgs_cons (pg_name (i := 5) sc_rounds_behind.nd rfl (.inl rfl)) (pgs_cons (pg_name (i := 6) sc_rounds_behind.nd rfl (.inl rfl)) pgs_nil))) (fun _ _ _ _ _ => pv 5) (fun _ _ _ _ _ => pv 6)))
      (pss_cons (ps_dput hu (pv 4) (pv 3) (pe_op op_mod (pe_op op_add (pe_dget2 hu (pv 4) (pv 3) pe_int ⟨rfl, rfl, rfl, rfl⟩) pe_int) (pe_callB call_len_seq rfl b.len boot_len (pa_cons (pv 3) pa_nil))) rfl)
      (pss_one (ps_ret (pe_callTy call_tuple_of rfl b2.tup boot_tuple (pa_cons (pe_callB (SRT.cr_sortedD hu64) rfl srt boot_sorted (pa_cons (pe_lock (pe_lc (own := [("same", 5)]) (g := gName 5) rfl sc_rounds_behind.nd (pi_keys (pv 4)) (blkOk_by (N := N_rounds_behind) (sc := defScope s_rounds_behind) (by decide +kernel))
          (fun _ _ _ _ _ => pg_name (i := 5) sc_rounds_behind.nd rfl (Or.inl rfl)) (fun _ _ _ _ _ => pts_one (pt_cmpR op_gt (pe_dget hu (pv 4) (pv 5) (fun _ _ => rfl)) pe_int (nomark _))) (fun _ _ _ _ _ => pe_tup (pa_cons (pv 5) (pa_cons (pe_dget hu (pv 4) (pv 5) (fun _ _ => rfl)) pa_nil))))) pa_nil)) pa_nil))))))), ?_⟩
    refine ⟨_, rfl, _, rfl, ot, rd, xs, R, rfl, hot, hrd, by omega, fun t H2 s2 ft ht => ?_⟩
    have hk2 := s2 _ _ hk
    have hes2 : ∀ e ∈ es, EntOk H2 e := fun e he => (hes e he).ext fun a ys z => s2 _ _ z
    refine ⟨_, rfl, kp, rfl, ⟨_, SqT.of hk2⟩, fun D hD => DCT.dt_it walk_tup (fun i H3 => H3 D = some (.dT (RM.enc ((es.take i).map Ent.p))) ∧ Same H2 H3) ⟨upd_same, same_new hD⟩ (fun i H3 _ z => SqT.of (z.2 _ _ hk2)) ?_ ?_⟩
    · rintro i x H3 H3' hi ⟨hd, sm⟩ ⟨rfl, hx⟩
      rw [List.getElem?_map] at hx
      obtain ⟨e, he, rfl⟩ := Option.map_eq_some_iff.mp hx
      rw [List.length_map] at hi
      obtain ⟨e1, e2⟩ := (hes2 e (List.mem_of_getElem? he)).ext fun a ys z => sm _ _ z
      refine ⟨e.pt, _, rfl, SqT.of e1, rfl, _, _, rfl, _, _, rfl, rfl, rfl, ?_⟩
      refine ⟨_, rfl, _, rfl, e.nt, _, RM.kS e.p.1, rfl, by rw [RM.kS_map]; exact e2, hd, ?_, ?_, ?_⟩
      · unfold RM.enc
        rw [List.length_map, List.length_map, List.length_take]
        exact Nat.lt_of_le_of_lt (by omega : min i es.length ≤ 1000) (by decide)
      · rw [upd_same, RM.putK_enc]
        have et : es.take (i + 1) = es.take i ++ [e] := by rw [List.take_succ, he]; rfl
        have ni : e.p.1 ∉ ((es.take i).map Ent.p).map (·.1) := fun hm => by
          have nd := am.nd
          rw [List.map_map] at nd hm
          obtain ⟨e', he', ee⟩ := List.mem_map.mp hm
          obtain ⟨j, hj, rfl⟩ := List.mem_iff_getElem.mp he'
          rw [List.length_take] at hj
          rw [List.getElem_take] at ee
          have a1 : (es.map ((·.1) ∘ Ent.p))[j]? = (es.map ((·.1) ∘ Ent.p))[i]? := by
            rw [List.getElem?_map, List.getElem?_map, he, List.getElem?_eq_getElem (by omega)]
            exact congrArg some ee
          have := (List.getElem?_inj (by rw [List.length_map]; omega) nd).mp a1
          omega
        unfold RM.put
        rw [if_neg ni, et, List.map_append]
        rfl
      · intro a o z
        rw [upd_ne (ne_of_none z hD)]
        exact sm a o z
    · rintro H3 ⟨hd, sm⟩
      rw [List.length_map, List.take_length] at hd
      have ht3 := sm _ _ ht
      have fpos := fs_pos dy
      have em := am.get (fs xs R)
      refine ⟨_, rfl, D, rfl, .inr ⟨_, .inl hd⟩, _, rfl, _, DGet.t hd (k := RM.kS (fs xs R)) (by rw [RM.kS_map]; exact ht3), ?_⟩
      rw [em]
      refine ⟨_, _, rfl, rfl, _, rfl, t, _, rfl, .inr (SqT.of ht3), _, _, rfl, rfl, by rw [List.length_map]; exact Int.natCast_pos.mpr fpos, ?_⟩
      have nx := am.next (fs xs R)
      have hput := DPut.t (v := .int (((rode.count (fs xs R) % (fs xs R).length + 1) % (fs xs R).length : Nat))) hd (k := RM.kS (fs xs R)) (by rw [RM.kS_map]; exact ht3) (by unfold RM.enc; rw [List.length_map, List.length_map]; exact Nat.lt_of_le_of_lt le (by decide))
      rw [RM.putK_enc] at hput
      have lkv : (RM.put (es.map Ent.p) (fs xs R) ((rode.count (fs xs R) % (fs xs R).length + 1) % (fs xs R).length)).length ≤ 1001 := by
        unfold RM.put
        split
        · rw [List.length_map, List.length_map]; omega
        · rw [List.length_append, List.length_map]; simp; omega
      have ndq := RM.put_names (ns := fs xs R) (m := (rode.count (fs xs R) % (fs xs R).length + 1) % (fs xs R).length) am.nd
      have ev : (((rode.count (fs xs R) % (fs xs R).length : Nat) : Int) + 1) % (((fs xs R).length : Nat) : Int) = (((rode.count (fs xs R) % (fs xs R).length + 1) % (fs xs R).length : Nat) : Int) := by push_cast; rfl
      generalize hm' : (rode.count (fs xs R) % (fs xs R).length + 1) % (fs xs R).length = m' at nx hput lkv ndq ev
      generalize RM.put (es.map Ent.p) (fs xs R) m' = Q2 at nx hput lkv ndq
      have hd4 : (upd H3 D (.dT (RM.enc Q2))) D = some (.dT (RM.enc Q2)) := upd_same
      have s4 : ∀ a o, a ≠ D → H2 a = some o → (upd H3 D (.dT (RM.enc Q2))) a = some o := fun a o na e => by
        rw [upd_ne na]
        exact sm a o e
      generalize upd H3 D (.dT (RM.enc Q2)) = H4 at hd4 s4 hput
      have nD : ∀ {a : Addr} {o : HO}, H2 a = some o → a ≠ D := fun e => ne_of_none e hD
      refine ⟨_, rfl, _, rfl, D, H4, rfl, ?_, ?_⟩
      · show DPut H3 D (.ref t) (V.int ((((rode.count (fs xs R) % (fs xs R).length : Nat) : Int) + 1) % ((((fs xs R).map V.str).length : Nat) : Int))) H4
        rw [List.length_map, ev]
        exact hput
      refine ⟨D, _, hd4, trivial, fun od => ?_⟩
      refine ⟨_, rfl, D, od, rfl, .inr ⟨_, upd_same, fun Dn hDn => ?_⟩⟩
      have nDn : Dn ≠ D := (ne_of_none upd_same hDn).symm
      have fDn : H4 Dn = none := by rw [upd_ne nDn] at hDn; exact hDn
      refine lc_it walk_keysT (fun j H' => ∃ es' : List Ent, H' Dn = some (.lst (es'.map fun e => V.ref e.pt)) ∧ (∀ e ∈ es', EntOk H' e) ∧ es'.map Ent.p = (Q2.take j).filter (fun q => decide (0 < q.2)) ∧ H' D = some (.frz od (.dT (RM.enc Q2))) ∧ ∀ a o, a ≠ D → H4 a = some o → H' a = some o) ?_ (fun j H' _ z => by
        obtain ⟨_, _, _, _, e, _⟩ := z
        exact e) ?_ ?_
      · refine ⟨[], upd_same, (fun e he => nomatch he), rfl, by rw [upd_ne nDn.symm]; exact upd_same, fun a o na e => ?_⟩
        rw [upd_ne (ne_of_none e fDn), upd_ne na]
        exact e
      · rintro j y Ha Hb hj ⟨es', hdn, hes', ep, hDa, ka⟩ ⟨rfl, k, v, q, ek, rfl, hq⟩
        unfold RM.enc at ek hj
        rw [List.length_map] at hj
        rw [List.getElem?_map] at ek
        obtain ⟨z, hz, ez⟩ := Option.map_eq_some_iff.mp ek
        cases ez
        have hzq := List.mem_of_getElem? hz
        have et : Q2.take (j + 1) = Q2.take j ++ [z] := by rw [List.take_succ, hz]; rfl
        have dg : DGet Hb D (.ref q) (some (.int (z.2 : Nat))) := .inr ⟨_, RM.kS z.1, q, .inr ⟨od, hDa⟩, rfl, hq, (RM.val_in ndq hzq).symm⟩
        refine ⟨rfl, ?_⟩
        refine ⟨_, rfl, _, rfl, D, _, rfl, dg, _, _, rfl, rfl, _, rfl, ?_⟩
        refine ite2 (fun hm => ?_) (fun hm => ?_)
        · have hm0 : 0 < z.2 := by have := of_decide_eq_true hm; omega
          refine ⟨_, rfl, _, rfl, _, rfl, D, _, rfl, dg, by show 2 ≤ sizeLine; decide, fun T fT => ?_⟩
          have sT := same_new (o := .tup [.ref q, .int (z.2 : Nat)]) fT
          have hdn2 := sT _ _ hdn
          have noL : ∀ {a : Addr} {zs : List V}, (upd Hb T (.tup [.ref q, .int (z.2 : Nat)])) a = some (.tup zs) → a ≠ Dn := fun e z => by rw [z, hdn2] at e; cases e
          have lj : es'.length ≤ j := by
            have := congrArg List.length ep
            rw [List.length_map] at this
            rw [this]
            exact Nat.le_trans (List.length_filter_le _ _) (by rw [List.length_take]; exact Nat.min_le_left _ _)
          refine ⟨_, hdn2, Nat.lt_of_le_of_lt (by rw [List.length_map]; omega : _ ≤ 2000) (by decide), es' ++ [⟨T, q, z⟩], ?_, ?_, ?_, ?_, ?_⟩
          · rw [upd_same, List.map_append]
            rfl
          · intro e he
            refine EntOk.ext ?_ fun a ys z => by
              rw [upd_ne (noL z)]
              exact z
            rcases List.mem_append.mp he with he | he
            · exact (hes' e he).ext fun a ys z => sT _ _ z
            · rw [List.mem_singleton] at he
              subst he
              exact ⟨upd_same, by rw [← RM.kS_map]; exact sT _ _ hq⟩
          · rw [List.map_append, ep, et, List.filter_append]
            simp [hm0]
          · rw [upd_ne nDn.symm]
            exact sT _ _ hDa
          · intro a o na e
            rw [upd_ne (ne_of_none e fDn)]
            exact sT _ _ (ka a o na e)
        · refine ⟨es', hdn, hes', ?_, hDa, ka⟩
          have hm0 : ¬ 0 < z.2 := fun q => hm (decide_eq_true (by omega))
          rw [ep, et, List.filter_append]
          simp [hm0]
      · rintro H5 ⟨es', hdn, hes', ep, hD5, k5⟩
        unfold RM.enc at ep
        rw [List.length_map, List.take_length] at ep
        refine ⟨hD5, ?_⟩
        have hdn6 : (upd H5 D (.dT (RM.enc Q2))) Dn = some (.lst (es'.map fun e => V.ref e.pt)) := by rw [upd_ne nDn]; exact hdn
        have hes6 : ∀ e ∈ es', EntOk (upd H5 D (.dT (RM.enc Q2))) e := fun e he => (hes' e he).ext fun a ys z => by
          rw [upd_ne (fun q => by rw [q, hD5] at z; cases z)]
          exact z
        have s6 : Same H2 (upd H5 D (.dT (RM.enc Q2))) := fun a o e => by
          rw [upd_ne (nD e)]
          exact k5 a o (nD e) (s4 a o (nD e) e)
        generalize upd H5 D (.dT (RM.enc Q2)) = H6 at hdn6 hes6 s6 ⊢
        refine ⟨Dn, _, es'.map fun e => ES.pD e.p, rfl, .inl (SqL.of hdn6), dp_ents hes6, ?_, ?_, ?_, fun sl fsl => ?_⟩
        · intro x hx y hy
          obtain ⟨e, _, rfl⟩ := List.mem_map.mp hx
          obtain ⟨e', _, rfl⟩ := List.mem_map.mp hy
          exact alikeP _ _
        · refine .inl fun x hx => ?_
          obtain ⟨e, _, rfl⟩ := List.mem_map.mp hx
          exact ⟨_, _, rfl⟩
        · intro x hx
          obtain ⟨e, _, rfl⟩ := List.mem_map.mp hx
          exact depthP _
        obtain ⟨gs, eg, pm, pw⟩ := ES.srtE (fun e : Ent => V.ref e.pt) Ent.p es'
        rw [eg]
        have ss := same_new (o := .lst (gs.map fun e => V.ref e.pt)) fsl
        have am2 : RM.Amid (rode ++ [fs xs R]) (gs.map Ent.p) := (ep ▸ nx : RM.Amid (rode ++ [fs xs R]) (es'.map Ent.p)).of_perm (pm.map _)
        exact ⟨sl, _, rfl, .inl ⟨SqL.of upd_same, fun l fl => hQ l _ (((s2.trans s6).trans ss).trans (same_new fl)) ⟨gs, upd_same, fun e he => (hes6 e (pm.mem_iff.mp he)).ext fun a ys z => same_new fl _ _ (ss _ _ z), am2, pw⟩⟩⟩
def spMb : Sp := fun vs H Q _ => ∃ (r ot kp rd : Addr) (xs R : List Str) (rode : List (List Str)) (g : Int), vs = [.ref r, .ref kp, .ref rd] ∧ LeastR H r ot xs g ∧ KeptX rode H kp ∧ rode.length ≤ 1000 ∧ H rd = some (.lst (R.map V.str)) ∧ DayOk xs R ∧
  ∀ (t : Addr) (H1 : Hp), Same H H1 → KeptX (rode ++ [fs xs R]) H1 t → Q (.ref t) H1
theorem ok_mb (F : Dn K d_memory_behind f fd) (cRb : Cal P w K mg base 2 "rounds_behind" spRb []) : FnOk P w K mg base CX0 3 f fd ["rule", "memory", "riders"] spMb := by
  refine F.ok sc_memory_behind (fun vs H Q E h => ?_) (fun cdv A outer s H vs Q E hr h => ?_)
  · obtain ⟨r, ot, kp, rd, xs, R, rode, g, rfl, _⟩ := h
    rfl
  · obtain ⟨r, ot, kp, rd, xs, R, rode, g, rfl, ⟨hrr, hot, ox, g0, g1⟩, kt, n1, hrd, dy, hQ⟩ := h
    have l8 := ox.l8
    refine ⟨_, PSs.nox (pss_cons (ps_if (pt_cmpR op_eq (pe_ix ix_tup (pv 0) pe_int (fun _ _ => rfl)) pe_str (nomark _)) (pss_one (ps_ret (pe_c cRb hr (by decide) rfl (pa_cons (pe_ix ix_tup (pv 0) pe_int (fun _ _ => rfl)) (pa_cons (pv 1) (pa_cons (pv 2) pa_nil)))))) pss_nil) pss_never), ?_⟩
    refine ⟨_, rfl, r, _, _, _, rfl, rfl, SqT.of hrr, rfl, rfl, _, rfl, iteT ?_⟩
    exact ⟨_, rfl, r, _, _, _, rfl, rfl, SqT.of hrr, rfl, _, rfl, _, rfl, ot, kp, rd, xs, R, rode, rfl, hot, l8, kt, n1, hrd, dy, fun t H3 s3 ht => hQ t H3 s3 ht⟩
end
end K30
set_option Elab.async false
set_option linter.all false
set_option maxRecDepth 100000
set_option maxHeartbeats 4000000
namespace K30
open PySem PySem.Spec PyProof.Rows L2
open C8 (Cal Mak Met pe_c pe_mk pe_mt pe_mt0)
open SX (S)
/-- the fields of a Turns -/
def trF (r hd kp ps : Addr) : List (Str × V) := putF "past" (.ref ps) (putF "kept" (.ref kp) (putF "held" (.ref hd) (putF "rule" (.ref r) [])))
theorem f1 : ¬ (("rule" : Str) = "held") := by decide +kernel
theorem f2 : ¬ (("rule" : Str) = "kept") := by decide +kernel
theorem f3 : ¬ (("rule" : Str) = "past") := by decide +kernel
theorem f4 : ¬ (("held" : Str) = "kept") := by decide +kernel
theorem f5 : ¬ (("held" : Str) = "past") := by decide +kernel
theorem f6 : ¬ (("kept" : Str) = "past") := by decide +kernel
theorem trF_eq (r hd kp ps : Addr) : trF r hd kp ps = [(("rule" : Str), V.ref r), (("held" : Str), V.ref hd), (("kept" : Str), V.ref kp), (("past" : Str), V.ref ps)] := by
  unfold trF putF
  simp only [putF, if_neg f1, if_neg f2, if_neg f3, if_neg f4, if_neg f5, if_neg f6]
theorem tr_rule (r hd kp ps : Addr) : (trF r hd kp ps).lookup ("rule" : Str) = some (.ref r) := by
  unfold trF
  rw [lookup_putF, if_neg f3, lookup_putF, if_neg f2, lookup_putF, if_neg f1, lookup_putF, if_pos rfl]
theorem tr_held (r hd kp ps : Addr) : (trF r hd kp ps).lookup ("held" : Str) = some (.ref hd) := by
  unfold trF
  rw [lookup_putF, if_neg f5, lookup_putF, if_neg f4, lookup_putF, if_pos rfl]
theorem tr_kept (r hd kp ps : Addr) : (trF r hd kp ps).lookup ("kept" : Str) = some (.ref kp) := by
  unfold trF
  rw [lookup_putF, if_neg f6, lookup_putF, if_pos rfl]
theorem tr_past (r hd kp ps : Addr) : (trF r hd kp ps).lookup ("past" : Str) = some (.ref ps) := by
  unfold trF
  rw [lookup_putF, if_pos rfl]
theorem tr_no (r hd kp ps : Addr) {m : Str} (h1 : ¬ m = "rule") (h2 : ¬ m = "held") (h3 : ¬ m = "kept") (h4 : ¬ m = "past") : (trF r hd kp ps).lookup m = none := by
  unfold trF
  rw [lookup_putF, if_neg h4, lookup_putF, if_neg h3, lookup_putF, if_neg h2, lookup_putF, if_neg h1]
  all_goals rfl
theorem put_held (r hd kp ps hd' : Addr) : putF "held" (.ref hd') (trF r hd kp ps) = trF r hd' kp ps := by
  rw [trF_eq, trF_eq]
  simp only [putF, if_neg f1, if_pos]
theorem put_kept (r hd kp ps kp' : Addr) : putF "kept" (.ref kp') (trF r hd kp ps) = trF r hd kp' ps := by
  rw [trF_eq, trF_eq]
  simp only [putF, if_neg f2, if_neg f4, if_pos]
/-- a Turns by a rule, its credits twice, the past -/
def Tr (CT : Addr) (H : Hp) (tu r hd kp ps : Addr) : Prop := ∃ dx, H tu = some (.ins CT dx (trF r hd kp ps))
/-- what is known of the class -/
structure ClT (K : PySem.W.Frag) (CT : Addr) : Prop where
  cl : Cls K CT
  nr : NoAttr K CT "rule"
  nh : NoAttr K CT "held"
  nk : NoAttr K CT "kept"
  np : NoAttr K CT "past"
section
variable {P : Program} {w : World} {K : PySem.W.Frag} {mg : Str → Option Value} {base : Heap} {f C CT : Addr} {fd : FuncData}
def spTi (CT : Addr) : Sp := fun vs H Q _ => ∃ (p dx r ot : Addr) (xs : List Str) (g : Int), vs = [.ref p, .ref r] ∧ H p = some (.ins CT dx []) ∧ LeastR H r ot xs g ∧
  ∀ (H' : Hp) (hd kp ps : Addr), (∀ a o, a ≠ p → H a = some o → H' a = some o) → H ps = none → H' p = some (.ins CT dx (trF r hd kp ps)) → Crd H' hd xs (fun _ => 0) → KeptX [] H' kp → H' ps = some (.lst []) → Q .non H'
theorem ok_ti (F : Dn K d_Turns_init f fd) (b2 : Bl2 mg) (T : ClT K CT) (cR : Cal P w K mg base 3 "is_rule" spRule []) (cFm : Cal P w K mg base 1 "first_memory" spFm []) : FnOk P w K mg base CX0 4 f fd ["self", "rule"] (spTi CT) := by
  refine F.ok sc_Turns_init (fun vs H Q E h => ?_) (fun cdv A outer s H vs Q E hr h => ?_)
  · obtain ⟨p, dx, r, ot, xs, g, rfl, _⟩ := h
    rfl
  · obtain ⟨p, dx, r, ot, xs, g, rfl, hp, lr, hQ⟩ := h
    obtain ⟨hrr, hot, ox, g0, g1⟩ := id lr
    have l8 := ox.l8
    refine ⟨_, PSs.nox (pss_cons (ps_if (pt_not (pt_val (pe_c cR hr (by decide) rfl (pa_cons (pv 1) pa_nil)))) pss_never pss_nil)
      (pss_cons (ps_fld (pv 0) (pv 1) rfl)
      (pss_cons (ps_fld (pv 0) (pe_callTy call_tuple_of rfl b2.tup boot_tuple (pa_cons (pe_lc (own := [("name", 2)]) (g := gName 2) (tt := tYes) rfl sc_Turns_init.nd (pi_tup (pe_ix ix_tup (pv 1) pe_int (fun _ _ => rfl))) (blkOk_by (N := N_Turns_init) (sc := defScope s_Turns_init) (by decide +kernel))
          (fun _ _ _ _ _ => pg_name (i := 2) sc_Turns_init.nd rfl (Or.inl rfl)) (fun _ _ _ _ _ => pts_nil) (fun _ _ _ _ _ => pe_int)) pa_nil)) rfl)
      (pss_cons (ps_fld (pv 0) (pe_c cFm hr (by decide) rfl (pa_cons (pv 1) pa_nil)) rfl)
      (pss_one (ps_fld (pv 0) (pe_lst pa_nil) rfl)))))), ?_⟩
    refine ⟨_, rfl, r, ot, xs, g, rfl, lr, fun H1 s1 => ⟨true, rfl, iteF ?_⟩⟩
    refine ⟨_, rfl, _, rfl, p, CT, dx, _, rfl, s1 _ _ hp, T.cl, T.nr, by show 0 < 1000; decide, ?_⟩
    have tn : ∀ {a : Addr} {ys : List V} {H2 : Hp}, H2 p = some (.ins CT dx []) → H2 a = some (.tup ys) → a ≠ p := fun e1 e2 z => by rw [z, e1] at e2; cases e2
    have hrr1 : (upd H1 p (.ins CT dx (putF "rule" (.ref r) []))) r = some (.tup [.str "rounds", .ref ot]) := by rw [upd_ne (tn hp hrr)]; exact s1 _ _ hrr
    have hot1 : (upd H1 p (.ins CT dx (putF "rule" (.ref r) []))) ot = some (.tup (xs.map V.str)) := by rw [upd_ne (tn hp hot)]; exact s1 _ _ hot
    refine ⟨_, rfl, r, _, _, _, rfl, rfl, SqT.of hrr1, rfl, ot, rfl, ⟨_, SqT.of hot1⟩, fun D hD => lc_tup (fun i H2 => H2 D = some (.lst ((xs.take i).map fun _ => V.int 0)) ∧ Same (upd H1 p (.ins CT dx (putF "rule" (.ref r) []))) H2) ⟨upd_same, same_new hD⟩ (fun _ H2 _ z => SqT.of (z.2 _ _ hot1)) ?_ ?_⟩
    · rintro i x H2 hx ⟨hd, sm⟩
      have hi' : i < xs.length := by
        have := (List.getElem?_eq_some_iff.mp hx).1
        simpa using this
      refine ⟨rfl, _, hd, ?_, ?_, ?_⟩
      · rw [List.length_map, List.length_take]
        exact Nat.lt_of_lt_of_le (by omega : min i xs.length < 64) (by decide)
      · rw [upd_same, zs_take xs i hi']
      · intro a o e
        rw [upd_ne (ne_of_none e hD)]
        exact sm a o e
    · rintro H2 ⟨hd, sm⟩
      rw [List.length_map, List.take_length] at hd
      refine ⟨D, _, rfl, .inl ⟨SqL.of hd, fun hl fl => ?_⟩⟩
      have s3 := sm.trans (same_new (o := .tup (xs.map fun _ => V.int 0)) fl)
      have hp3 := s3 _ _ (upd_same : (upd H1 p (.ins CT dx (putF "rule" (.ref r) []))) p = _)
      refine ⟨_, rfl, p, CT, dx, _, rfl, hp3, T.cl, T.nh, by show 1 < 1000; decide, ?_⟩
      have nhl : hl ≠ p := fun z => by rw [z] at fl; rw [sm _ _ (upd_same : (upd H1 p (.ins CT dx (putF "rule" (.ref r) []))) p = _)] at fl; cases fl
      have key : ∀ (a : Addr) (ys : List V), a ≠ p → (upd H1 p (.ins CT dx (putF "rule" (.ref r) []))) a = some (.tup ys) → (upd (upd H2 hl (.tup (xs.map fun _ => V.int 0))) p (.ins CT dx (putF "held" (.ref hl) (putF "rule" (.ref r) [])))) a = some (.tup ys) := fun a ys na e => by
        rw [upd_ne na]
        exact s3 _ _ e
      refine ⟨_, rfl, r, ot, xs, g, rfl, ⟨key _ _ (tn hp hrr) hrr1, key _ _ (tn hp hot) hot1, ox, g0, g1⟩, fun kl H4 s4 hk => ?_⟩
      have hp4 := s4 _ _ (upd_same : (upd (upd H2 hl (.tup (xs.map fun _ => V.int 0))) p (.ins CT dx (putF "held" (.ref hl) (putF "rule" (.ref r) [])))) p = _)
      refine ⟨_, rfl, p, CT, dx, _, rfl, hp4, T.cl, T.nk, by show (putF "held" (V.ref hl) (putF "rule" (V.ref r) [])).length < 1000; simp only [putF, if_neg f1]; show 2 < 1000; decide, ?_⟩
      refine ⟨by show 0 ≤ sizeLine; decide, fun pl fp => ?_⟩
      have npl : pl ≠ p := fun z => by rw [z, upd_same] at fp; cases fp
      have hp5 : (upd (upd H4 p (.ins CT dx (putF "kept" (.ref kl) (putF "held" (.ref hl) (putF "rule" (.ref r) []))))) pl (.lst [])) p = some (.ins CT dx (putF "kept" (.ref kl) (putF "held" (.ref hl) (putF "rule" (.ref r) [])))) := by
        rw [upd_ne npl.symm, upd_same]
      refine ⟨_, rfl, p, CT, dx, _, rfl, hp5, T.cl, T.np, by show (putF "kept" (V.ref kl) (putF "held" (V.ref hl) (putF "rule" (V.ref r) []))).length < 1000; simp only [putF, if_neg f1, if_neg f2, if_neg f4]; show 3 < 1000; decide, ?_⟩
      have back : ∀ a o, a ≠ p → H a = some o → H4 a = some o := fun a o na e => by
        refine s4 _ _ ?_
        rw [upd_ne na]
        refine s3 _ _ ?_
        rw [upd_ne na]
        exact s1 _ _ e
      rw [upd_ne npl] at fp
      have fpH : H pl = none := by
        cases e : H pl with
        | none => rfl
        | some o => rw [back pl o npl e] at fp; cases fp
      have hhl4 : H4 hl = some (.tup (xs.map fun _ => V.int 0)) := s4 _ _ (by rw [upd_ne nhl, upd_same])
      have nph : hl ≠ pl := ne_of_none hhl4 fp
      refine hQ _ hl kl pl (fun a o na e => ?_) fpH upd_same ?_ ?_ ?_
      · have e4 := back a o na e
        rw [upd_ne na, upd_ne (ne_of_none e4 fp), upd_ne na]
        exact e4
      · show (upd _ p _) hl = _
        rw [upd_ne nhl, upd_ne nph, upd_ne nhl]
        exact hhl4
      · refine hk.ext fun a ys e => ?_
        have na : a ≠ p := fun z => by rw [z, hp4] at e; cases e
        rw [upd_ne na, upd_ne (ne_of_none e fp), upd_ne na]
        exact e
      · rw [upd_ne npl, upd_same]
end
end K30
set_option Elab.async false
set_option linter.all false
set_option maxRecDepth 100000
set_option maxHeartbeats 4000000
namespace K30
open PySem PySem.Spec PyProof.Rows L2
open C8 (Cal Mak Met pe_c pe_mk pe_mt pe_mt0)
open SX (S)
theorem cut_strs (R : List Str) (i : Nat) (h : i ≤ R.length) : cutV (R.map V.str) none (some (i : Int)) = (R.take i).map V.str := by
  have z : ¬ ((i : Int) < 0) := by omega
  have z2 : ((i : Int) ≤ (R.length : Int)) := by omega
  unfold cutV HT.sIx
  simp [z, z2, Nat.min_eq_left h]
section
variable {P : Program} {w : World} {K : PySem.W.Frag} {mg : Str → Option Value} {base : Heap} {f C CT : Addr} {fd : FuncData}
def spCk (CT : Addr) : Sp := fun vs H Q _ => ∃ (tu rd r ot hd kp ps : Addr) (xs R : List Str) (g : Int), vs = [.ref tu, .ref rd] ∧ Tr CT H tu r hd kp ps ∧ LeastR H r ot xs g ∧ H rd = some (.lst (R.map V.str)) ∧ DayOk xs R ∧ ∀ H', Same H H' → Q .non H'
theorem ok_ck (F : Dn K d_Turns_check_riders f fd) (b : Bl mg) (b2 : Bl2 mg) (T : ClT K CT) : FnOk P w K mg base CX0 1 f fd ["self", "riders"] (spCk CT) := by
  refine F.ok sc_Turns_check_riders (fun vs H Q E h => ?_) (fun cdv A outer s H vs Q E hr h => ?_)
  · obtain ⟨tu, rd, r, ot, hd, kp, ps, xs, R, g, rfl, _⟩ := h
    rfl
  · obtain ⟨tu, rd, r, ot, hd, kp, ps, xs, R, g, rfl, ⟨dx, htu⟩, lr, hrd, dy, hQ⟩ := h
    obtain ⟨hrr, hot, ox, g0, g1⟩ := id lr
    have rpos : 0 < R.length := List.length_pos_iff.mpr dy.ne
    refine ⟨_, PSs.nox (pss_cons (ps_if (pt_cmpR op_eq (pe_callB call_len_seq rfl b.len boot_len (pa_cons (pv 1) pa_nil)) pe_int (nomark _)) pss_never pss_nil)
      (pss_one (ps_for PassesOwn.never rfl (pi_enum rfl b2.enum (pa_cons (pv 1) pa_nil)) (pg_tup rfl (pgs_cons (pg_name (i := 2) sc_Turns_check_riders.nd rfl (.inl rfl)) (pgs_cons (pg_name (i := 3) sc_Turns_check_riders.nd rfl (.inl rfl)) pgs_nil)))
        (pss_one (ps_if (PW.pt (pw_or (pt_cmpR op_notIn_seq (pv 3) (pe_ix ix_tup (pe_fld (pv 0) rfl) pe_int (fun _ _ => rfl)) (by rfl)) (pw_or1 (pt_cmpR op_in_seq (pv 3) (pe_slice sl_list (pv 1) po_none (po_some (pv 2))) (by rfl))))) pss_never pss_nil))))), ?_⟩
    refine ⟨_, rfl, rd, _, rfl, .inl (SqL.of hrd), rfl, _, rfl, ?_⟩
    have z0 : decide (V.int ((R.map V.str).length : Nat) = V.int 0) = false := by
      rw [List.length_map]
      exact decide_eq_false fun q => by injection q with q; omega
    rw [z0]
    refine iteF ?_
    refine ⟨_, rfl, rd, _, rfl, SqL.of hrd, for_it walk_enum (fun i σ H2 => ∃ v2 v3 : Option V, σ = [some (.ref tu), some (.ref rd), v2, v3] ∧ Same H H2) ⟨_, _, rfl, fun _ _ e => e⟩ (fun i σ H2 _ ⟨_, _, _, sm⟩ => SqL.of (sm _ _ hrd)) ?_ ?_⟩
    · rintro i x σ H2 H3 hi ⟨v2, v3, rfl, sm⟩ ⟨Tp, x1, x2, rfl, hT, rfl, e1, e2⟩
      rw [List.length_map] at hi
      cases e1
      have e2 : (List.map V.str R)[i]? = some x2 := e2
      rw [List.getElem?_map] at e2
      obtain ⟨z, hz, rfl⟩ := Option.map_eq_some_iff.mp e2
      have sT := same_new (o := .tup [V.int (i : Nat), V.str z]) hT
      have s3 := sm.trans sT
      refine ⟨Tp, _, rfl, SqT.of upd_same, rfl, _, _, rfl, _, _, rfl, rfl, ?_⟩
      refine ⟨_, rfl, _, rfl, tu, CT, dx, _, _, rfl, s3 _ _ htu, T.cl, T.nr, tr_rule _ _ _ _, r, _, _, _, rfl, rfl, SqT.of (s3 _ _ hrr), rfl, ot, _, rfl, .inr (SqT.of (s3 _ _ hot)), rfl, flat_strs xs, _, rfl, ?_⟩
      rw [inV_strs, decide_eq_true (dy.sub z (List.mem_of_getElem? hz))]
      refine iteF ?_
      refine ⟨_, rfl, _, rfl, _, rfl, _, rfl, rd, _, rfl, SqL.of (s3 _ _ hrd), fun sl fsl => ?_⟩
      rw [cut_strs R i (by omega)]
      have s4 := s3.trans (same_new (o := .lst ((R.take i).map V.str)) fsl)
      refine ⟨sl, _, rfl, .inl (SqL.of upd_same), rfl, flat_strs _, _, rfl, ?_⟩
      have nin : ¬ z ∈ R.take i := fun hm => by
        obtain ⟨j, hj, e⟩ := List.mem_iff_getElem.mp hm
        rw [List.getElem_take] at e
        rw [List.length_take] at hj
        have e3 : R[j]? = R[i]? := by rw [hz, List.getElem?_eq_getElem (by omega), e]
        have := (List.getElem?_inj (by omega) dy.nd).mp e3
        omega
      simp only [Bool.false_eq_true, if_false]
      rw [inV_strs, decide_eq_false nin]
      exact iteF ⟨_, _, rfl, s4⟩
    · rintro σ H2 ⟨v2, v3, rfl, sm⟩
      exact hQ H2 sm
def spWho (CT : Addr) : Sp := fun vs H Q _ => ∃ (tu rd r ot hd kp ps : Addr) (xs R : List Str) (rode : List (List Str)) (g : Int), vs = [.ref tu, .ref rd] ∧ Tr CT H tu r hd kp ps ∧ LeastR H r ot xs g ∧ KeptX rode H kp ∧ rode.length ≤ 1000 ∧ H rd = some (.lst (R.map V.str)) ∧ DayOk xs R ∧
  ∀ H1, Same H H1 → ∀ y, Drv rode xs R y → Q (.str y) H1
theorem ok_who (F : Dn K d_Turns_who f fd) (T : ClT K CT) (mC : Met P w K mg base 1 CT "check_riders" (spCk CT) []) (cDb : Cal P w K mg base 2 "driver_by" spDb []) : FnOk P w K mg base CX0 3 f fd ["self", "riders"] (spWho CT) := by
  refine F.ok sc_Turns_who (fun vs H Q E h => ?_) (fun cdv A outer s H vs Q E hr h => ?_)
  · obtain ⟨tu, rd, r, ot, hd, kp, ps, xs, R, rode, g, rfl, _⟩ := h
    rfl
  · obtain ⟨tu, rd, r, ot, hd, kp, ps, xs, R, rode, g, rfl, tr, lr, hk, pm, hrd, dy, hQ⟩ := h
    obtain ⟨dx, htu⟩ := id tr
    refine ⟨_, PSs.nox (pss_cons (ps_expr (pe_mt mC hr (by decide) (pv 0) (pa_cons (pv 1) pa_nil)))
      (pss_one (ps_ret (pe_c cDb hr (by decide) rfl (pa_cons (pe_fld (pv 0) rfl) (pa_cons (pe_fld (pv 0) rfl) (pa_cons (pv 1) pa_nil))))))), ?_⟩
    refine ⟨_, rfl, tu, dx, _, rfl, htu, tr_no _ _ _ _ (by decide +kernel) (by decide +kernel) (by decide +kernel) (by decide +kernel), _, rfl, tu, rd, r, ot, hd, kp, ps, xs, R, g, rfl, tr, lr, hrd, dy, fun H2 s2 => ?_⟩
    have htu2 := s2 _ _ htu
    refine ⟨_, rfl, tu, CT, dx, _, _, rfl, htu2, T.cl, T.nr, tr_rule _ _ _ _, _, rfl, tu, CT, dx, _, _, rfl, htu2, T.cl, T.nk, tr_kept _ _ _ _, _, rfl, r, ot, kp, rd, xs, R, rode, g, rfl, lr.same s2, hk.same s2, pm, s2 _ _ hrd, dy, fun H3 s3 y hy => hQ H3 (s2.trans s3) y hy⟩
/-- all is kept but the Turns and its past -/
def KpT (tu ps : Addr) (H H' : Hp) : Prop := ∀ b o, H b = some o → b ≠ tu → b ≠ ps → H' b = some o
def spRide (CT : Addr) : Sp := fun vs H Q _ => ∃ (tu rd r ot hd kp ps : Addr) (xs R : List Str) (rode : List (List Str)) (g : Int) (c : Str → Int) (past : List V), vs = [.ref tu, .ref rd] ∧ Tr CT H tu r hd kp ps ∧ LeastR H r ot xs g ∧ Crd H hd xs c ∧ KeptX rode H kp ∧ rode.length ≤ 1000 ∧ H rd = some (.lst (R.map V.str)) ∧ DayOk xs R ∧
  H ps = some (.lst past) ∧ past.length ≤ 1000 ∧ rd ≠ ps ∧
  ∀ (H1 : Hp) (hd' kp' : Addr) (y : Str), KpT tu ps H H1 → Drv rode xs R y → Tr CT H1 tu r hd' kp' ps → Crd H1 hd' xs (nxt R y c) → KeptX (rode ++ [fs xs R]) H1 kp' → H1 ps = some (.lst (past ++ [.str y])) → Q (.str y) H1
theorem ok_ride (F : Dn K d_Turns_ride f fd) (T : ClT K CT) (mW : Met P w K mg base 3 CT "who" (spWho CT) []) (cPb : Cal P w K mg base 1 "parts_behind" spPb []) (cMb : Cal P w K mg base 3 "memory_behind" spMb []) : FnOk P w K mg base CX0 4 f fd ["self", "riders"] (spRide CT) := by
  refine F.ok sc_Turns_ride (fun vs H Q E h => ?_) (fun cdv A outer s H vs Q E hr h => ?_)
  · obtain ⟨tu, rd, r, ot, hd, kp, ps, xs, R, rode, g, c, past, rfl, _⟩ := h
    rfl
  · obtain ⟨tu, rd, r, ot, hd, kp, ps, xs, R, rode, g, c, past, rfl, tr, lr, hcd, hck, pm, hrd, dy, hps, pl, nrp, hQ⟩ := h
    obtain ⟨dx, htu⟩ := id tr
    have l8 := lr.2.2.1.l8
    have r8 := dy.ln
    refine ⟨_, PSs.nox (pss_cons (ps_set (i := 2) sc_Turns_ride.nd rfl (.inl rfl) (pe_mt mW hr (by decide) (pv 0) (pa_cons (pv 1) pa_nil)))
      (pss_cons (ps_fld (pv 0) (pe_c cPb hr (by decide) rfl (pa_cons (pe_ix ix_tup (pe_fld (pv 0) rfl) pe_int (fun _ _ => rfl)) (pa_cons (pe_fld (pv 0) rfl) (pa_cons (pv 1) (pa_cons (pv 2) pa_nil))))) rfl)
      (pss_cons (ps_fld (pv 0) (pe_c cMb hr (by decide) rfl (pa_cons (pe_fld (pv 0) rfl) (pa_cons (pe_fld (pv 0) rfl) (pa_cons (pv 1) pa_nil)))) rfl)
      (pss_cons (ps_expr (pe_bm PySem.F.plainAttrs_list PySem.F.slot_list_append PySem.F.type_list_append mt_append (pe_fld (pv 0) rfl) (pa_cons (pv 2) pa_nil)))
      (pss_one (ps_ret (pv 2))))))), ?_⟩
    refine ⟨_, rfl, tu, dx, _, rfl, htu, tr_no _ _ _ _ (by decide +kernel) (by decide +kernel) (by decide +kernel) (by decide +kernel), _, rfl, tu, rd, r, ot, hd, kp, ps, xs, R, rode, g, rfl, tr, lr, hck, pm, hrd, dy, fun H2 e2 y hy => ?_⟩
    have htu2 : H2 tu = some (.ins CT dx (trF r hd kp ps)) := e2 _ _ htu
    have hrd2 : H2 rd = some (.lst (R.map V.str)) := e2 _ _ hrd
    have hps2 : H2 ps = some (.lst past) := e2 _ _ hps
    have lr2 := lr.same e2
    obtain ⟨hrr2, hot2, _⟩ := id lr2
    refine ⟨_, rfl, tu, CT, dx, _, _, rfl, htu2, T.cl, T.nr, tr_rule _ _ _ _, r, _, _, _, rfl, rfl, SqT.of hrr2, rfl, _, rfl, tu, CT, dx, _, _, rfl, htu2, T.cl, T.nh, tr_held _ _ _ _, _, rfl, _, rfl, ot, hd, rd, xs, R, y, c, rfl, hot2, by omega, hcd.same e2, hrd2, dy.ne, by omega, fun hd' H3 s3 fh hh => ?_⟩
    have len4 : ∀ a b c d : Addr, (trF a b c d).length < 1000 := fun a b c d => by rw [trF_eq]; show 4 < 1000; decide
    refine ⟨_, rfl, tu, CT, dx, _, rfl, s3 _ _ htu2, T.cl, T.nh, len4 _ _ _ _, ?_⟩
    rw [put_held]
    have nt : ∀ {a : Addr} {ys : List V}, H3 a = some (.tup ys) → a ≠ tu := fun e z => by rw [z, s3 _ _ htu2] at e; cases e
    have nl' : ∀ {a : Addr} {ys : List V}, H3 a = some (.lst ys) → a ≠ tu := fun e z => by rw [z, s3 _ _ htu2] at e; cases e
    have lr4 : LeastR (upd H3 tu (.ins CT dx (trF r hd' kp ps))) r ot xs g := (lr2.same s3).ext fun a ys e => by rw [upd_ne (nt e)]; exact e
    have hck4 : KeptX rode (upd H3 tu (.ins CT dx (trF r hd' kp ps))) kp := ((hck.same e2).same s3).ext fun a ys e => by rw [upd_ne (nt e)]; exact e
    have hrd4 : (upd H3 tu (.ins CT dx (trF r hd' kp ps))) rd = some (.lst (R.map V.str)) := by
      rw [upd_ne (nl' (s3 _ _ hrd2))]
      exact s3 _ _ hrd2
    refine ⟨_, rfl, tu, CT, dx, _, _, rfl, upd_same, T.cl, T.nr, tr_rule _ _ _ _, _, rfl, tu, CT, dx, _, _, rfl, upd_same, T.cl, T.nk, tr_kept _ _ _ _, _, rfl, r, ot, kp, rd, xs, R, rode, g, rfl, lr4, hck4, pm, hrd4, dy, fun kp' H5 e5 hk' => ?_⟩
    have htu5 : H5 tu = some (.ins CT dx (trF r hd' kp ps)) := e5 _ _ upd_same
    refine ⟨_, rfl, tu, CT, dx, _, rfl, htu5, T.cl, T.nk, len4 _ _ _ _, ?_⟩
    rw [put_kept]
    have nt5 : ∀ {a : Addr} {ys : List V}, H5 a = some (.tup ys) → a ≠ tu := fun e z => by rw [z, htu5] at e; cases e
    have hps4 : (upd H3 tu (.ins CT dx (trF r hd' kp ps))) ps = some (.lst past) := by
      rw [upd_ne (nl' (s3 _ _ hps2))]
      exact s3 _ _ hps2
    have hps5 : H5 ps = some (.lst past) := e5 _ _ hps4
    have npt : ps ≠ tu := fun z => by rw [z, htu5] at hps5; cases hps5
    have hps6 : (upd H5 tu (.ins CT dx (trF r hd' kp' ps))) ps = some (.lst past) := by rw [upd_ne npt]; exact hps5
    have hh5 : Crd H5 hd' xs (nxt R y c) := e5 _ _ (by rw [upd_ne (nt hh)]; exact hh)
    have ntp : ∀ {a : Addr} {ys : List V}, H5 a = some (.tup ys) → a ≠ ps := fun e z => by rw [z, hps5] at e; cases e
    refine ⟨_, rfl, tu, CT, dx, _, _, rfl, upd_same, T.cl, T.np, tr_past _ _ _ _, Or.inl ⟨rfl, _, SqL.of hps6⟩, _, rfl, ps, _, _, rfl, rfl, hps6, Nat.lt_of_le_of_lt pl (by decide), _, rfl, ?_⟩
    refine hQ _ hd' kp' y (fun b o e n1 n2 => ?_) hy ⟨dx, by rw [upd_ne npt.symm, upd_same]⟩ ?_ ?_ upd_same
    · rw [upd_ne n2, upd_ne n1]
      refine e5 _ _ ?_
      rw [upd_ne n1]
      exact s3 _ _ (e2 _ _ e)
    · show (upd _ ps _) hd' = _
      rw [upd_ne (ntp hh5), upd_ne (nt5 hh5)]
      exact hh5
    · refine hk'.ext fun a ys e => ?_
      rw [upd_ne (ntp e), upd_ne (nt5 e)]
      exact e
end
end K30
set_option Elab.async false
set_option linter.all false
set_option maxRecDepth 100000
set_option maxHeartbeats 4000000
/-! data: texts, pairs -/
namespace DQ
open PySem PySem.Spec PyProof.Rows L2
def pD (q : Int × Int) : PyData := .tuple [.int q.1, .int q.2]
theorem all_strs : ∀ xs : List Str, (∀ x ∈ xs, PyData.strOk x = true) → PyData.canLayAll0 (xs.map PyData.str) = true ∧ PyData.depthAll (xs.map PyData.str) = 0
  | [], _ => ⟨rfl, rfl⟩
  | x :: r, h => by
    obtain ⟨h1, h2⟩ := all_strs r fun y hy => h y (List.mem_cons_of_mem _ hy)
    have h3 := h x List.mem_cons_self
    exact ⟨by simp [PyData.canLayAll0, PyData.canLay0, h1, h3], by simp [PyData.depthAll, PyData.depth, h2]⟩
theorem sh_strs {xs : List Str} (h : ∀ x ∈ xs, PyData.strOk x = true) : SeqAt.shaped (.list (xs.map PyData.str)) = true := by
  obtain ⟨h1, h2⟩ := all_strs xs h
  simp [SeqAt.shaped, PyData.canLay0, PyData.depth, h1, h2]
theorem all_pairs : ∀ qs : List (Int × Int), PyData.canLayAll0 (qs.map pD) = true ∧ PyData.depthAll (qs.map pD) ≤ 2
  | [] => ⟨rfl, by decide⟩
  | _ :: r => by
    obtain ⟨h1, h2⟩ := all_pairs r
    refine ⟨by simp [PyData.canLayAll0, PyData.canLay0, pD, h1], ?_⟩
    show max (PyData.depth (pD _)) (PyData.depthAll (r.map pD)) ≤ 2
    have h3 : ∀ q, PyData.depth (pD q) ≤ 2 := fun q => by show 1 ≤ 2; decide
    exact Nat.max_le.mpr ⟨h3 _, h2⟩
theorem sh_pair (q : Int × Int) : SeqAt.shaped (pD q) = true := rfl
theorem sh_pairs (qs : List (Int × Int)) : SeqAt.shaped (.list (qs.map pD)) = true := by
  obtain ⟨h1, h2⟩ := all_pairs qs
  have h3 : PyData.depthAll (qs.map pD) + 1 ≤ 64 := by omega
  simp [SeqAt.shaped, PyData.canLay0, PyData.depth, h1]
  omega
theorem eq_strs (xs : List Str) : PyData.eqv (.list (xs.map PyData.str)) (.list (xs.map PyData.str)) = true := by
  refine PySem.W.eqv_refl_alike _ ?_
  induction xs with
  | nil => rfl
  | cons x xs ih => simpa [PySem.W.alike, PySem.W.alikeAll] using ih
theorem eq_pair (q : Int × Int) : PyData.eqv (pD q) (pD q) = true := PySem.W.eqv_refl_alike _ rfl
theorem eq_pairs (qs : List (Int × Int)) : PyData.eqv (.list (qs.map pD)) (.list (qs.map pD)) = true := by
  refine PySem.W.eqv_refl_alike _ ?_
  induction qs with
  | nil => rfl
  | cons x xs ih => simpa [PySem.W.alike, PySem.W.alikeAll, pD] using ih
theorem dp_strs {K : PySem.W.Frag} {H : Hp} : ∀ xs : List Str, DpAll K H (xs.map V.str) (xs.map PyData.str)
  | [] => .nil
  | x :: xs => .cons (.str x) (dp_strs xs)
theorem dp_pair {K : PySem.W.Frag} {H : Hp} {t : Addr} {q : Int × Int} (h : H t = some (.tup [.int q.1, .int q.2])) : Dp K H (.ref t) (pD q) := .tup (SqT.of h) (.cons (.int _) (.cons (.int _) .nil))
theorem dp_pairs {K : PySem.W.Frag} {H : Hp} : ∀ L : List (Addr × (Int × Int)), (∀ p ∈ L, H p.1 = some (.tup [.int p.2.1, .int p.2.2])) → DpAll K H (L.map fun p => V.ref p.1) ((L.map (·.2)).map pD)
  | [], _ => .nil
  | p :: L, h => .cons (dp_pair (h p List.mem_cons_self)) (dp_pairs L fun q hq => h q (List.mem_cons_of_mem _ hq))
/-- a dict by names -/
theorem val_map (f : Str → V) {y : Str} : ∀ {l : List Str}, y ∈ l → valV (l.map fun x => ((Sum.inr x : Key), f x)) (Sum.inr y) = some (f y)
  | x :: l, h => by
    rw [List.map_cons]
    by_cases e : x = y
    · rw [valV_pos (by rw [e])]
      rw [e]
    · rw [valV_neg (fun z => e (Sum.inr.inj z))]
      exact val_map f ((List.mem_cons.mp h).resolve_left fun z => e z.symm)
theorem val_none (f : Str → V) {y : Str} : ∀ {l : List Str}, y ∉ l → valV (l.map fun x => ((Sum.inr x : Key), f x)) (Sum.inr y) = none
  | [], _ => rfl
  | x :: l, h => by
    rw [List.map_cons, valV_neg (fun z => h (by rw [Sum.inr.inj z]; exact List.mem_cons_self))]
    exact val_none f fun z => h (List.mem_cons_of_mem _ z)
theorem put_new (f : Str → V) {y : Str} {l : List Str} (h : y ∉ l) : putK (l.map fun x => ((Sum.inr x : Key), f x)) (Sum.inr y) (f y) = (l ++ [y]).map fun x => ((Sum.inr x : Key), f x) := by
  rw [putK_new _ (val_none f h), List.map_append]
  rfl
theorem put_old (f : Str → V) {y : Str} {v : V} {l : List Str} (h : y ∈ l) : putK (l.map fun x => ((Sum.inr x : Key), f x)) (Sum.inr y) v = l.map fun x => ((Sum.inr x : Key), if x = y then v else f x) := by
  have a : ((l.map fun x => ((Sum.inr x : Key), f x)).any fun kv => decide (kv.1 = Sum.inr y)) = true := by
    rw [List.any_eq_true]
    exact ⟨(Sum.inr y, f y), List.mem_map.mpr ⟨y, h, rfl⟩, by simp⟩
  unfold putK
  rw [if_pos a, List.map_map]
  refine List.map_congr_left fun x _ => ?_
  show (if (Sum.inr x : Key) = Sum.inr y then ((Sum.inr x : Key), v) else (Sum.inr x, f x)) = _
  by_cases e : x = y
  · rw [if_pos (by rw [e]), if_pos e]
  · rw [if_neg (fun z => e (Sum.inr.inj z)), if_neg e]
theorem merge_map (f : Str → V) : ∀ {l m : List Str}, (m ++ l).Nodup → mergeK (m.map fun x => ((Sum.inr x : Key), f x)) (l.map fun x => ((Sum.inr x : Key), f x)) = (m ++ l).map fun x => ((Sum.inr x : Key), f x)
  | [], m, _ => by rw [List.append_nil]; rfl
  | y :: l, m, h => by
    have h' : (m ++ [y] ++ l).Nodup := by rw [List.append_assoc]; exact h
    have ny : y ∉ m := fun z => by
      have := (List.nodup_append.mp h).2.2 y z y List.mem_cons_self
      exact this rfl
    show mergeK (putK _ (Sum.inr y) (f y)) (l.map fun x => ((Sum.inr x : Key), f x)) = _
    rw [put_new f ny, merge_map f h', List.append_assoc]
    rfl
end DQ
set_option Elab.async false
set_option linter.all false
set_option maxRecDepth 100000
set_option maxHeartbeats 4000000
/-! xs.count(x), texts -/
namespace CS
open PySem PySem.Spec PyProof.Rows L2
def eqs (z : Str) : Value → Bool
  | .str c _ => c == z
  | _ => false
theorem vals_str {bs : List Str} : ∀ {us : List Value}, Vals (bs.map V.str) us → (∀ u ∈ us, ∃ c t, u = Value.str c t) ∧ ∀ z, us.countP (eqs z) = bs.count z := by
  induction bs with
  | nil =>
    intro us r
    cases r
    exact ⟨fun u h => by simp at h, fun z => rfl⟩
  | cons b bs ih =>
    intro us r
    rw [List.map_cons] at r
    cases r with
    | cons h t =>
      obtain ⟨i1, i2⟩ := ih t
      obtain ⟨tk, rfl⟩ := h
      refine ⟨fun u hu => ?_, fun z => ?_⟩
      · rcases List.mem_cons.mp hu with e | hu
        · exact ⟨b, tk, e⟩
        · exact i1 u hu
      · rw [List.countP_cons, List.count_cons, i2]
        rfl
def rCntS (K : PySem.W.Frag) : V → List V → Hp → VK → Prop := fun x xs H Q => ∃ (p : Addr) (bs : List Str) (z : Str), x = .ref p ∧ xs = [.str z] ∧ SqL K H p (bs.map V.str) ∧ Q (.int (bs.count z : Nat)) H
theorem mt_scount {X : Cx} : MtR X "list.count" (rCntS X.K) := by
  intro pins s σ H x xs v us Q I rx rxs h
  obtain ⟨p, bs, z, rfl, rfl, hs, q⟩ := h
  cases rx
  obtain ⟨u, rfl, ru⟩ := rxs.one
  obtain ⟨tz, rfl⟩ := ru
  obtain ⟨its, rv, ⟨⟨cls, dd, data, sl⟩, n, ho, hc, hdn, hd⟩, hlen⟩ := I.list hs
  simp only at hc hd
  subst hc hd
  obtain ⟨i1, i2⟩ := vals_str rv
  refine call_meets PySem.F.slot_list_count ⟨_, ho, rfl⟩ PySem.F.entry_list_count (PySem.F.args_list_count_2 _ _) (SeqAt.list_countAt p _ n dd sl (.str z tz) (eqs z)) ⟨ho, fun y hy => ?_, ?_⟩
  · obtain ⟨c, t, rfl⟩ := i1 y (by simpa using hy)
    exact SeqAt.EqAt.str_str c t z tz
  · refine ⟨.int (bs.count z : Nat), H, I.tok _, ⟨s.toks, ?_⟩, q⟩
    show Value.int ((its.toArray.toList.countP (eqs z) : Nat) : Int) s.toks = Value.int ((bs.count z : Nat) : Int) s.toks
    rw [show its.toArray.toList = its from rfl, i2]
end CS
set_option Elab.async false
set_option linter.all false
set_option maxRecDepth 100000
set_option maxHeartbeats 4000000
namespace K30
open PySem PySem.Spec PyProof.Rows L2
open C8 (Cal Mak Met pe_c pe_mk pe_mt pe_mt0)
open KM (pr)
/-- a dict over zip of two tuples of one length -/
theorem dc_zipT {K : PySem.W.Frag} {a b : Addr} {xs ys : List V} {g : TG} {tt : TT} {tk tv : TE} {vs : List Nat} {σ : L2.St} {H1 : Hp} {D : Addr} {Qd : Hp → Prop} (hl : xs.length = ys.length) (Pv : Nat → Hp → Prop) (h0 : Pv 0 (upd H1 D (.dK []))) (hq : ∀ i H, Pv i H → SqT K H a xs ∧ SqT K H b ys)
    (hs : ∀ (i : Nat) (x y : V) (T : Addr) (H : Hp), xs[i]? = some x → ys[i]? = some y → Pv i H → H T = none → g (.ref T) (wipe σ vs) (upd H T (.tup [x, y])) fun σ2 H2 => wipe σ2 vs = wipe σ vs ∧ tt σ2 H2 fun b H3 =>
      if b = true then tk σ2 H3 fun y H4 => tv σ2 H4 fun z H5 => ∃ kvs k, y = kV k ∧ H5 D = some (.dK kvs) ∧ kvs.length < sizeLine ∧ Pv (i + 1) (upd H5 D (.dK (putK kvs k z))) else Pv (i + 1) H3) (hd : ∀ H, Pv xs.length H → Qd H) :
    ∃ W : Nat → Nat → Hp → Prop, (∃ m, W 0 m (upd H1 D (.dK []))) ∧ ∀ i m H, W i m H →
      ((RZ.ItzT K a b).stop i H ∧ Qd H) ∨ ((RZ.ItzT K a b).go i H ∧ ∃ Nx : Hp → Prop, (∀ H', Nx H' → ∃ m', m' < m ∧ W (i + 1) m' H') ∧ ∀ x H', (RZ.ItzT K a b).yld i H x H' → g x (wipe σ vs) H' fun σ2 H2 => wipe σ2 vs = wipe σ vs ∧ tt σ2 H2 fun b H3 =>
        if b = true then tk σ2 H3 fun y H4 => tv σ2 H4 fun z H5 => ∃ kvs k, y = kV k ∧ H5 D = some (.dK kvs) ∧ kvs.length < sizeLine ∧ Nx (upd H5 D (.dK (putK kvs k z))) else Nx H3) := by
  refine ⟨fun i m H => m = xs.length - i ∧ i ≤ xs.length ∧ Pv i H, ⟨xs.length, rfl, Nat.zero_le _, h0⟩, ?_⟩
  rintro i m H ⟨rfl, hi, p⟩
  obtain ⟨qx, qy⟩ := hq i H p
  by_cases hlt : i < xs.length
  · have hx : xs[i]? = some xs[i] := List.getElem?_eq_getElem hlt
    have hlt2 : i < ys.length := by omega
    have hy : ys[i]? = some ys[i] := List.getElem?_eq_getElem hlt2
    refine .inr ⟨⟨xs, ys, _, _, qx, qy, hx, hy⟩, Pv (i + 1), fun H' p' => ⟨xs.length - (i + 1), by omega, rfl, hlt, p'⟩, fun v H' y => ?_⟩
    obtain ⟨T, x', y', rfl, hT, rfl, f1, f2⟩ := y
    exact hs i x' y' T H (f1 xs qx) (f2 ys qy) p hT
  · have e : i = xs.length := by omega
    subst e
    exact .inl ⟨⟨xs, ys, qx, qy, Or.inl (Nat.le_refl _)⟩, hd H p⟩
section
variable {P : Program} {w : World} {K : PySem.W.Frag} {mg : Str → Option Value} {base : Heap} {f C CT : Addr} {fd : FuncData}
/-- a dict by names -/
def dctO (l : List Str) (g : Str → V) : HO := .dK (l.map fun x => ((Sum.inr x : Key), g x))
/-- a credit as a share of a ride -/
def rt (c : Int) : Rat := Rat.divInt c 840
theorem nin_take {xs : List Str} (nd : xs.Nodup) {i : Nat} {z : Str} (h : xs[i]? = some z) : z ∉ xs.take i := fun hm => by
  obtain ⟨j, hj, e⟩ := List.mem_iff_getElem.mp hm
  rw [List.getElem_take] at e
  rw [List.length_take] at hj
  have e3 : xs[j]? = xs[i]? := by rw [h, List.getElem?_eq_getElem (by omega), e]
  have := (List.getElem?_inj (by omega) nd).mp e3
  omega
theorem map_ne {l : List Str} {z : Str} (h : z ∉ l) {f g : Str → V} (e : ∀ x, x ≠ z → f x = g x) : (l.map fun x => ((Sum.inr x : Key), f x)) = l.map fun x => ((Sum.inr x : Key), g x) :=
  List.map_congr_left fun x hx => by rw [e x fun q => h (q ▸ hx)]
def spSt (C CT : Addr) : Sp := fun vs H Q _ => ∃ (tu r ot hd kp ps : Addr) (xs : List Str) (g : Int) (c : Str → Int), vs = [.ref tu] ∧ Tr CT H tu r hd kp ps ∧ LeastR H r ot xs g ∧ Crd H hd xs c ∧
  ∀ (D : Addr) (H' : Hp) (ad : Str → Addr), Same H H' → H D = none → H' D = some (dctO xs fun x => .ref (ad x)) → (∀ x ∈ xs, Sh C H' (ad x) (pr (rt (c x)))) → Q (.ref D) H'
theorem ok_st (F : Dn K d_Turns_stands f fd) (b2 : Bl2 mg) (T : ClT K CT) (gp : ∃ t, mg "RIDE_PARTS" = some (.int 840 t)) (MS : MakS P w K mg base C) : FnOk P w K mg base CX0 4 f fd ["self"] (spSt C CT) := by
  refine F.ok sc_Turns_stands (fun vs H Q E h => ?_) (fun cdv A outer s H vs Q E hr h => ?_)
  · obtain ⟨tu, r, ot, hd, kp, ps, xs, g, c, rfl, _⟩ := h
    rfl
  · obtain ⟨tu, r, ot, hd, kp, ps, xs, g, c, rfl, ⟨dx, htu⟩, lr, hc, hQ⟩ := h
    obtain ⟨hrr, hot, ox, g0, g1⟩ := id lr
    obtain ⟨t, gp⟩ := gp
    have l8 := ox.l8
    refine ⟨_, PSs.nox (pss_one (ps_ret (pe_dc (own := [("name", 1), ("parts", 2)]) (g := gTup K 2 (gCons (gName 1) (gCons (gName 2) gNil))) (tt := tYes) rfl sc_Turns_stands.nd (RZ.pi_zipA rfl b2.zip (pa_cons (pe_ix ix_tup (pe_fld (pv 0) rfl) pe_int (fun _ _ => rfl)) (pa_cons (pe_fld (pv 0) rfl) pa_nil)))
      (blkOk_by (N := N_Turns_stands) (sc := defScope s_Turns_stands) (by decide +kernel)) (fun _ _ _ _ _ => pg_tup rfl (pgs_cons (pg_name (i := 1) sc_Turns_stands.nd rfl (.inl rfl)) (pgs_cons (pg_name (i := 2) sc_Turns_stands.nd rfl (.inl rfl)) pgs_nil))) (fun _ _ _ _ _ => pts_nil)
      (fun _ _ _ _ _ => pv 1) (fun _ _ _ _ _ => pe_mk MS hr (by decide) rfl (pa_cons (pv 2) (pa_cons (pe_glob (v := .int 840) rfl gp ⟨t, rfl⟩) pa_nil)))))), ?_⟩
    refine ⟨_, rfl, tu, CT, dx, _, _, rfl, htu, T.cl, T.nr, tr_rule _ _ _ _, r, _, _, _, rfl, rfl, SqT.of hrr, rfl, _, rfl, tu, CT, dx, _, _, rfl, htu, T.cl, T.nh, tr_held _ _ _ _, ot, hd, _, _, rfl, .inr ⟨SqT.of hot, SqT.of hc, fun D hD => ?_⟩⟩
    refine dc_zipT (by simp) (fun i H2 => ∃ ad : Str → Addr, H2 D = some (dctO (xs.take i) fun x => .ref (ad x)) ∧ Same H H2 ∧ ∀ x ∈ xs.take i, Sh C H2 (ad x) (pr (rt (c x))))
      ⟨fun _ => 0, upd_same, same_new hD, fun x hx => by simp at hx⟩ (fun i H2 ⟨_, _, sm, _⟩ => ⟨SqT.of (sm _ _ hot), SqT.of (sm _ _ hc)⟩) ?_ ?_
    · rintro i x y Tp H2 hx hy ⟨ad, hdd, sm, hval⟩ hT
      have hi' : i < xs.length := by
        have := (List.getElem?_eq_some_iff.mp hx).1
        simpa using this
      rw [List.getElem?_map] at hx hy
      obtain ⟨z, hz, rfl⟩ := Option.map_eq_some_iff.mp hx
      rw [hz] at hy
      cases hy
      have nz := nin_take ox.nd hz
      have et : xs.take (i + 1) = xs.take i ++ [z] := by rw [List.take_succ, hz]; rfl
      have sT := same_new (o := .tup [V.str z, V.int (c z)]) hT
      refine ⟨Tp, _, rfl, SqT.of upd_same, rfl, _, _, rfl, _, _, rfl, rfl, rfl, ?_⟩
      refine ⟨_, rfl, _, rfl, ?_⟩
      intro q dq nq nd ne
      refine mk_in (n := 10) nq nd (by decide) (by decide) (by decide) (by decide) fun H3 s3 hq => ⟨rfl, ?_⟩
      have s23 := sT.trans s3
      have hD3 := s23 _ _ hdd
      refine ⟨_, Sum.inr z, rfl, hD3, ?_, fun x => if x = z then q else ad x, ?_, ?_, ?_⟩
      · rw [List.length_map, List.length_take]
        exact Nat.lt_of_lt_of_le (by omega : min i xs.length < 64) (by decide)
      · rw [upd_same, et]
        have e1 : (xs.take i).map (fun x => ((Sum.inr x : Key), V.ref (ad x))) = (xs.take i).map fun x => ((Sum.inr x : Key), V.ref (if x = z then q else ad x)) := map_ne nz fun x n => by rw [if_neg n]
        unfold dctO
        rw [e1]
        have e2 := DQ.put_new (fun x => V.ref (if x = z then q else ad x)) nz
        rw [if_pos rfl] at e2
        rw [e2]
      · intro a o e
        rw [upd_ne (ne_of_none e hD)]
        exact s23 a o (sm a o e)
      · have keep : ∀ {p : Addr} {v : Int × Int} {o : HO}, Sh C H3 p v → Sh C (upd H3 D o) p v := fun {p v o} ⟨dp, hp⟩ => ⟨dp, by
          rw [upd_ne (fun e => by rw [e, hD3] at hp; cases hp)]
          exact hp⟩
        intro x hx
        rw [et] at hx
        rcases List.mem_append.mp hx with hx | hx
        · have n : x ≠ z := fun e => nz (e ▸ hx)
          show Sh C _ (if x = z then q else ad x) _
          rw [if_neg n]
          exact keep ((hval x hx).keep s23)
        · rw [List.mem_singleton] at hx
          show Sh C _ (if x = z then q else ad x) _
          rw [hx, if_pos rfl]
          exact keep hq
    · rintro H2 ⟨ad, hdd, sm, hval⟩
      rw [List.length_map, List.take_length] at hdd hval
      exact hQ D H2 ad sm hD hdd hval
def spDr (CT : Addr) : Sp := fun vs H Q _ => ∃ (tu r ot hd kp ps : Addr) (xs past : List Str) (g : Int), vs = [.ref tu] ∧ Tr CT H tu r hd kp ps ∧ LeastR H r ot xs g ∧ H ps = some (.lst (past.map V.str)) ∧
  ∀ (D : Addr) (H' : Hp), Same H H' → H D = none → H' D = some (dctO xs fun x => .int (past.count x : Nat)) → Q (.ref D) H'
theorem ok_dr (F : Dn K d_Turns_drives f fd) (T : ClT K CT) : FnOk P w K mg base CX0 1 f fd ["self"] (spDr CT) := by
  refine F.ok sc_Turns_drives (fun vs H Q E h => ?_) (fun cdv A outer s H vs Q E hr h => ?_)
  · obtain ⟨tu, r, ot, hd, kp, ps, xs, past, g, rfl, _⟩ := h
    rfl
  · obtain ⟨tu, r, ot, hd, kp, ps, xs, past, g, rfl, ⟨dx, htu⟩, lr, hps, hQ⟩ := h
    obtain ⟨hrr, hot, ox, g0, g1⟩ := id lr
    have l8 := ox.l8
    refine ⟨_, PSs.nox (pss_one (ps_ret (pe_dc (own := [("name", 1)]) (g := gName 1) (tt := tYes) (tv := tBM K "list" (CS.rCntS K) (tFld K (tVar 0) "past") (tCons (tVar 1) tNil)) rfl sc_Turns_drives.nd (pi_tup (pe_ix ix_tup (pe_fld (pv 0) rfl) pe_int (fun _ _ => rfl)))
      (blkOk_by (N := N_Turns_drives) (sc := defScope s_Turns_drives) (by decide +kernel)) (fun _ _ _ _ _ => pg_name (i := 1) sc_Turns_drives.nd rfl (.inl rfl)) (fun _ _ _ _ _ => pts_nil)
      (fun _ _ _ _ _ => pv 1) (fun _ _ _ _ _ => pe_bm (r := CS.rCntS K) PySem.F.plainAttrs_list PySem.F.slot_list_count PySem.F.type_list_count CS.mt_scount (pe_fld (pv 0) rfl) (pa_cons (pv 1) pa_nil))))), ?_⟩
    refine ⟨_, rfl, tu, CT, dx, _, _, rfl, htu, T.cl, T.nr, tr_rule _ _ _ _, r, _, _, _, rfl, rfl, SqT.of hrr, rfl, ot, rfl, ⟨_, SqT.of hot⟩, fun D hD => ?_⟩
    refine dc_tup (fun i H2 => H2 D = some (dctO (xs.take i) fun x => .int (past.count x : Nat)) ∧ Same H H2) ⟨upd_same, same_new hD⟩ (fun i H2 _ z => SqT.of (z.2 _ _ hot)) ?_ ?_
    · rintro i x H2 hx ⟨hdd, sm⟩
      have hi' : i < xs.length := by
        have := (List.getElem?_eq_some_iff.mp hx).1
        simpa using this
      rw [List.getElem?_map] at hx
      obtain ⟨z, hz, rfl⟩ := Option.map_eq_some_iff.mp hx
      have nz := nin_take ox.nd hz
      have et : xs.take (i + 1) = xs.take i ++ [z] := by rw [List.take_succ, hz]; rfl
      refine ⟨rfl, ?_⟩
      refine ⟨_, rfl, _, rfl, tu, CT, dx, _, _, rfl, sm _ _ htu, T.cl, T.np, tr_past _ _ _ _, Or.inl ⟨rfl, _, SqL.of (sm _ _ hps)⟩, _, rfl, ps, past, z, rfl, rfl, SqL.of (sm _ _ hps), ?_⟩
      refine ⟨_, Sum.inr z, rfl, hdd, ?_, ?_, ?_⟩
      · rw [List.length_map, List.length_take]
        exact Nat.lt_of_lt_of_le (by omega : min i xs.length < 64) (by decide)
      · rw [upd_same, et]
        exact congrArg (fun l => some (HO.dK l)) (DQ.put_new (fun x => V.int (past.count x : Nat)) nz)
      · intro a o e
        rw [upd_ne (ne_of_none e hD)]
        exact sm a o e
    · rintro H2 ⟨hdd, sm⟩
      rw [List.length_map, List.take_length] at hdd
      exact hQ D H2 sm hD hdd
def spLen (CT : Addr) : Sp := fun vs H Q _ => ∃ (tu r hd kp ps : Addr) (past : List V), vs = [.ref tu] ∧ Tr CT H tu r hd kp ps ∧ H ps = some (.lst past) ∧ Q (.int (past.length : Nat)) H
theorem ok_len (F : Dn K d_Turns_len f fd) (b : Bl mg) (T : ClT K CT) : FnOk P w K mg base CX0 1 f fd ["self"] (spLen CT) := by
  refine F.ok sc_Turns_len (fun vs H Q E h => ?_) (fun cdv A outer s H vs Q E hr h => ?_)
  · obtain ⟨tu, r, hd, kp, ps, past, rfl, _⟩ := h
    rfl
  · obtain ⟨tu, r, hd, kp, ps, past, rfl, ⟨dx, htu⟩, hps, hQ⟩ := h
    refine ⟨_, PSs.nox (pss_one (ps_ret (pe_callB call_len_seq rfl b.len boot_len (pa_cons (pe_fld (pv 0) rfl) pa_nil)))), ?_⟩
    exact ⟨_, rfl, tu, CT, dx, _, _, rfl, htu, T.cl, T.np, tr_past _ _ _ _, ps, _, rfl, .inl (SqL.of hps), hQ⟩
end
end K30
set_option Elab.async false
set_option linter.all false
set_option maxRecDepth 100000
set_option maxHeartbeats 4000000
namespace K30
open PySem PySem.Spec PyProof.Rows L2
open C8 (Cal Mak Met pe_c pe_mk pe_mt pe_mt0)
open KM (pr)
section
variable {P : Program} {w : World} {K : PySem.W.Frag} {mg : Str → Option Value} {base : Heap} {f C CT : Addr} {fd : FuncData}
def spMem (CT : Addr) : Sp := fun vs H Q _ => ∃ (tu r ot hd kp ps : Addr) (xs : List Str) (g : Int), vs = [.ref tu] ∧ Tr CT H tu r hd kp ps ∧ LeastR H r ot xs g ∧ Q (.ref kp) H
theorem ok_mem (F : Dn K d_Turns_memory f fd) (T : ClT K CT) : FnOk P w K mg base CX0 1 f fd ["self"] (spMem CT) := by
  refine F.ok sc_Turns_memory (fun vs H Q E h => ?_) (fun cdv A outer s H vs Q E hr h => ?_)
  · obtain ⟨tu, r, ot, hd, kp, ps, xs, g, rfl, _⟩ := h
    rfl
  · obtain ⟨tu, r, ot, hd, kp, ps, xs, g, rfl, ⟨dx, htu⟩, lr, hQ⟩ := h
    obtain ⟨hrr, hot, ox, g0, g1⟩ := id lr
    refine ⟨_, PSs.nox (pss_cons (ps_if (pt_cmpR op_eq (pe_ix ix_tup (pe_fld (pv 0) rfl) pe_int (fun _ _ => rfl)) pe_str (nomark _)) pss_never pss_nil) (pss_one (ps_ret (pe_fld (pv 0) rfl)))), ?_⟩
    refine ⟨_, rfl, tu, CT, dx, _, _, rfl, htu, T.cl, T.nr, tr_rule _ _ _ _, r, _, _, _, rfl, rfl, SqT.of hrr, rfl, rfl, _, rfl, ?_⟩
    rw [no_least]
    exact iteF ⟨_, rfl, tu, CT, dx, _, _, rfl, htu, T.cl, T.nk, tr_kept _ _ _ _, hQ⟩
end
end K30
set_option Elab.async false
set_option linter.all false
set_option maxRecDepth 100000
set_option maxHeartbeats 4000000
/-! OW: ==, !=, str and repr of instances of an own class by its own __eq__, __str__, __repr__. -/
namespace OW
open PySem PySem.Spec PyProof.Rows L2
/-- what is known of a special def of the class: where it stands, that it keeps its promise -/
structure Spc (P : Program) (w : World) (K : PySem.W.Frag) (mg : Str → Option Value) (base : Heap) (k : Nat) (C : Addr) (m : Str) (sp : Sp) : Prop where
  ex : ∃ (f : Addr) (fd : FuncData) (ps : List Str), PySem.W.findIn K (.ref C) m = some (some (.ref f)) ∧ PySem.W.isFn K (.ref f) = true ∧ FnOk P w K mg base CX0 k f fd ps sp ∧ Binds K fd ps []
section
variable {X : Cx} {pins : List (Addr × Obj)} {σ : L2.St} {H : Hp} {s : Shared} {Q : VK} {k : Nat} {C a b : Addr} {sp : Sp}
/-- a def called at any around with room -/
theorem run_at {f : Addr} {fd : FuncData} {ps : List Str} {A : Around} {us : List Value} {vs : List V} {E' : Value → Shared → Prop} (F : FnOk X.prog X.w X.K X.mg X.base CX0 k f fd ps sp) (hb : Binds X.K fd ps []) (hr : Room k A) (I : Inv X pins σ H s)
    (he : Env0 X.prog X.w X.K X.mg X.base A X.stack s H) (r : Vals vs us) (h : sp vs H Q E0) : wpAny (model X.prog X.w) A (call (.ref f) us) (EP X pins σ Q) E' s := by
  have hl : us.length = ps.length := by rw [← r.length]; exact F.len _ _ _ _ h
  have b := hb s us I.kIn (by rw [List.append_nil]; exact hl)
  rw [List.append_nil] at b
  refine wpAny_call (codeAny_mono (F.run A X.stack s H ⟨us, []⟩ us vs Q E0 hr he b r h) fun r s' hq => ?_)
  cases r with
  | error e => exact False.elim hq
  | ok fl =>
    cases fl with
    | ret u => exact I.after hq
    | next => exact False.elim hq
    | brk => exact False.elim hq
    | cont => exact False.elim hq
theorem same_first : PySem.W.notFirst X.K C (.ref C) = true := by
  unfold PySem.W.notFirst
  rw [beq_self_eq_true, Bool.true_or]
/-- x == y, both of the class -/
def rEqO (C : Addr) (sp : Sp) : R2 := fun x y H Q => ∃ a dx fs b dy gs, x = .ref a ∧ y = .ref b ∧ H a = some (.ins C dx fs) ∧ H b = some (.ins C dy gs) ∧ sp [x, y] H (fun v H' => ∃ z, v = .bl z ∧ Q (.bl z) H') E0
def rNeO (C : Addr) (sp : Sp) : R2 := fun x y H Q => ∃ a dx fs b dy gs, x = .ref a ∧ y = .ref b ∧ H a = some (.ins C dx fs) ∧ H b = some (.ins C dy gs) ∧ sp [x, y] H (fun v H' => ∃ z, v = .bl z ∧ Q (.bl (!z)) H') E0
theorem op_eqO (S : Spc X.prog X.w X.K X.mg X.base k C "__eq__" sp) (hr : Room k X.A) : OpR X (compareOp .Eq) (rEqO C sp) := by
  obtain ⟨f, fd, ps, h1, h2, F, hb⟩ := S.ex
  intro pins s σ H x y v u Q I rx ry h
  obtain ⟨a, dx, fs, b, dy, gs, rfl, rfl, ea, eb, q⟩ := h
  cases (show v = Value.ref a from rx)
  cases (show u = Value.ref b from ry)
  obtain ⟨mA, O, _⟩ := ins_get I.hok ea
  obtain ⟨od, J, _⟩ := O.look
  obtain ⟨mB, O', _⟩ := ins_get I.hok eb
  obtain ⟨od', J', _⟩ := O'.look
  obtain ⟨m, hF⟩ := I.fr
  show wpAny _ _ (richCompare .Eq (.ref a) (.ref b)) _ _ _
  refine PySem.W.cmp_K (op := .Eq) (tb := .ref C) hr.units0 hF I.ok.mod.kin J J'.type same_first h1 h2 ?_
  refine wpAny_mono (run_at (E' := X.xe) (vs := [.ref a, .ref b]) F hb hr I I.env0 (.cons rfl (.cons rfl .nil)) q) (fun w s' z => ?_) fun _ _ x => x
  obtain ⟨z', H', I', rz, z, rfl, qz⟩ := z
  cases (show w = Value.bool z from rz)
  exact ⟨.bl z, H', I', rfl, qz⟩
open Builtin in
theorem op_neO (S : Spc X.prog X.w X.K X.mg X.base (k + 1) C "__eq__" sp) (hn : PySem.W.findIn X.K (.ref C) "__ne__" = some (some (.builtin "object.__ne__"))) (hm : PySem.W.mroIn X.K C (.type "object") = some true) (hr : Room (k + 2) X.A) : OpR X (compareOp .NotEq) (rNeO C sp) := by
  obtain ⟨f, fd, ps, h1, h2, F, hb⟩ := S.ex
  intro pins s σ H x y v u Q I rx ry h
  obtain ⟨a, dx, fs, b, dy, gs, rfl, rfl, ea, eb, q⟩ := h
  cases (show v = Value.ref a from rx)
  cases (show u = Value.ref b from ry)
  obtain ⟨mA, O, _⟩ := ins_get I.hok ea
  obtain ⟨od, J, _⟩ := O.look
  obtain ⟨mB, O', _⟩ := ins_get I.hok eb
  obtain ⟨od', J', _⟩ := O'.look
  have KI := I.kIn
  have callEq : wpAny (model X.prog X.w) X.A.in1 (call (.ref f) [.ref a, .ref b]) (fun v s' => ∃ z, v = .bool z ∧ EP X pins σ Q (.bool (!z)) s') X.xe s := by
    refine wpAny_mono (run_at (E' := X.xe) (vs := [.ref a, .ref b]) F hb hr.in1 I I.env0.in1 (.cons rfl (.cons rfl .nil)) q) (fun w s' z => ?_) fun _ _ x => x
    obtain ⟨z', H', I', rz, z, rfl, qz⟩ := z
    exact ⟨z, rz, .bl (!z), H', I', rfl, qz⟩
  have slot := PySem.F.cmp_object.ne
  have sub : PySem.W.Looks (model X.prog X.w) s.heap (isInstance (.ref a) (.type "object")) true := J.type.andThen (PySem.W.looks_mroIn KI hm)
  have uu : X.A.in1.units < cLine := hr.in1.units0
  have body : wpAny (model X.prog X.w) X.A.in1 (Builtin.«object.__ne__» ⟨[.ref a, .ref b], []⟩) (fun fin s' => match fin with | .done f => (match f with | .ret v => EP X pins σ Q v s' ∧ ∃ z, v = .bool z | _ => False) | .again _ => False) X.xe s := by
    unfold Builtin.«object.__ne__»
    repeat (first
      | with_reducible refine wpAny_cRoomFor uu ?_
      | (refine wpAny_bind (m := callSpecialIfBound? (.ref a) (Str.ofString "__eq__") [.ref b]) (PySem.W.ifBound_K KI J h1 h2 (wpAny_mono callEq (fun r s' hr => by
          obtain ⟨z, rfl, hq⟩ := hr
          repeat (first | exact ⟨hq, _, rfl⟩ | exact wpAny_pure ⟨hq, _, rfl⟩ | (refine wpAny_bind (m := truthy (.bool _)) (wpAny_truthy_bool ?_)) | wp_step)) fun _ _ e => e)))
      | wp_step)
  have callNe : wpAny (model X.prog X.w) X.A (call (.builtin "object.__ne__") [.ref a, .ref b]) (fun v s' => EP X pins σ Q v s' ∧ ∃ z, v = .bool z) X.xe s := by
    refine wpAny_call (codeAny_call_builtin slot.plain PySem.F.cmpEntry_ne (PySem.W.check_slot PySem.F.cmpKind_ne PySem.F.cmpSplit_ne sub (PySem.F.cmpArgs_ne _ _) ?_))
    refine wpAny_mono body (fun fin s' z => ?_) fun _ _ x => x
    cases fin with
    | done fl =>
      cases fl with
      | ret v => exact z
      | next => exact z.elim
      | brk => exact z.elim
      | cont => exact z.elim
    | again c => exact z.elim
  show wpAny _ _ (richCompare .NotEq (.ref a) (.ref b)) _ _ _
  unfold richCompare
  simp only [oneThing_ref]
  refine wpAny_holding (wpAny_bind (wpAny_cRoomFor hr.units0 ?_))
  rw [cmpInfo_NotEq]
  dsimp only
  refine wpAny_bind (J.type.here (wpAny_bind (J'.type.here ?_)))
  rw [show (Value.ref C != Value.ref C) = false from by simp]
  simp only [Bool.false_eq_true, if_false]
  refine wpAny_bind (wpAny_pure ?_)
  simp only [Bool.false_eq_true, if_false, tryCompare]
  have fin : wpAny (model X.prog X.w) X.A (call (.builtin "object.__ne__") ([.ref a] ++ [.ref b]) >>= fun v => pure (some v)) (fun r s' => ∃ v, r = some v ∧ EP X pins σ Q v s' ∧ ∃ z, v = .bool z) X.xe s :=
    wpAny_bind (wpAny_mono callNe (fun v s' h' => wpAny_pure ⟨v, rfl, h'⟩) fun _ _ h' => h')
  have bound : wpAny (model X.prog X.w) X.A (callSpecialIfBound? (.ref a) "__ne__" [.ref b]) (fun r s' => ∃ v, r = some v ∧ EP X pins σ Q v s' ∧ ∃ z, v = .bool z) X.xe s := by
    simp only [callSpecialIfBound?, bindSpecialIfBound?]
    refine wpAny_holding (wpAny_bind (wpAny_bind (wpAny_bind (J.type.here ((PySem.W.looks_findIn KI hn).here ?_)))))
    simp only [slot.bind]
    refine wpAny_bind (wpAny_askSetting (wpAny_ite ?_))
    split
    · exact wpAny_bind (wpAny_pure (wpAny_pure fin))
    · exact wpAny_tryCatch (wpAny_bind (wpAny_pure (wpAny_pure fin)))
  refine wpAny_bind (wpAny_bind (wpAny_mono bound (fun r s' z => ?_) fun _ _ h => h))
  obtain ⟨v, rfl, hq, z, rfl⟩ := z
  first | exact wpAny_pure (wpAny_pure hq) | exact wpAny_pure hq
/-- str(x), repr(x) -/
def rStrO (C : Addr) (sp : Sp) : List V → Hp → VK → Prop := fun xs H Q => ∃ a dx fs, xs = [.ref a] ∧ H a = some (.ins C dx fs) ∧ sp [.ref a] H (fun v H' => ∃ z, v = .str z ∧ Q (.str z) H') E0
theorem call_strO (S : Spc X.prog X.w X.K X.mg X.base k C "__str__" sp) (hr : Room (k + 2) X.A) : CallR X (.type "str") (rStrO C sp) := by
  obtain ⟨f, fd, ps, h1, h2, F, hb⟩ := S.ex
  intro pins s σ H xs us Q I r h
  obtain ⟨a, dx, fs, rfl, ea, q⟩ := h
  obtain ⟨u, rfl, ru⟩ := vals1 r
  cases (show u = Value.ref a from ru)
  obtain ⟨mA, O, _⟩ := ins_get I.hok ea
  obtain ⟨od, J, _⟩ := O.look
  refine PySem.W.kso_call hr.in1.in1.units0 I.kIn J h1 h2 ?_
  refine wpAny_mono (run_at (E' := X.xe) (vs := [.ref a]) F hb hr.in1.in1 I I.env0.in1.in1 (.cons rfl .nil) q) (fun w s' z => ?_) fun _ _ x => x
  obtain ⟨z', H', I', rz, z, rfl, qz⟩ := z
  obtain ⟨t, rfl⟩ := rz
  exact ⟨.str z, H', I', ⟨t, rfl⟩, qz⟩
theorem call_reprO (S : Spc X.prog X.w X.K X.mg X.base k C "__repr__" sp) (hr : Room (k + 1) X.A) : CallR X (.builtin "repr") (rStrO C sp) := by
  obtain ⟨f, fd, ps, h1, h2, F, hb⟩ := S.ex
  intro pins s σ H xs us Q I r h
  obtain ⟨a, dx, fs, rfl, ea, q⟩ := h
  obtain ⟨u, rfl, ru⟩ := vals1 r
  cases (show u = Value.ref a from ru)
  obtain ⟨mA, O, _⟩ := ins_get I.hok ea
  obtain ⟨od, J, _⟩ := O.look
  obtain ⟨m, hF⟩ := I.fr
  refine PySem.W.repr_K hr.in1.units0 hF I.ok.mod.kin J h1 h2 ?_
  refine wpAny_mono (run_at (E' := X.xe) (vs := [.ref a]) F hb hr.in1 I I.env0.in1 (.cons rfl .nil) q) (fun w s' z => ?_) fun _ _ x => x
  obtain ⟨z', H', I', rz, z, rfl, qz⟩ := z
  obtain ⟨t, rfl⟩ := rz
  exact ⟨.str z, H', I', ⟨t, rfl⟩, qz⟩
end
end OW
set_option Elab.async false
set_option linter.all false
set_option maxRecDepth 100000
set_option maxHeartbeats 4000000
/-! len of an instance by its own __len__ -/
namespace OW
open PySem PySem.Spec PyProof.Rows L2
section
variable {X : Cx} {k : Nat} {C : Addr} {sp : Sp}
def rLenO (C : Addr) (sp : Sp) : List V → Hp → VK → Prop := fun xs H Q => ∃ a dx fs, xs = [.ref a] ∧ H a = some (.ins C dx fs) ∧ sp [.ref a] H (fun v H' => ∃ n : Nat, v = .int n ∧ n < 1000000 ∧ Q (.int n) H') E0
theorem call_lenO (S : Spc X.prog X.w X.K X.mg X.base k C "__len__" sp) (hr : Room (k + 1) X.A) : CallR X (.builtin "len") (rLenO C sp) := by
  obtain ⟨f, fd, ps, h1, h2, F, hb⟩ := S.ex
  intro pins s σ H xs us Q I r h
  obtain ⟨a, dx, fs, rfl, ea, q⟩ := h
  obtain ⟨u, rfl, ru⟩ := vals1 r
  cases (show u = Value.ref a from ru)
  obtain ⟨mA, O, _⟩ := ins_get I.hok ea
  obtain ⟨od, J, _⟩ := O.look
  obtain ⟨m, hF⟩ := I.fr
  refine PySem.W.len_K hF I.ok.mod.kin J h1 h2 ?_
  refine wpAny_mono (run_at (E' := X.xe) (vs := [.ref a]) F hb hr.in1 I I.env0.in1 (.cons rfl .nil) q) (fun w s' z => ?_) fun _ _ x => x
  obtain ⟨z', H', I', rz, n, rfl, hn, qz⟩ := z
  obtain ⟨t, rfl⟩ := rz
  exact ⟨⟨by omega, by omega⟩, .int n, H', I'.tok _, ⟨_, rfl⟩, qz⟩
end
end OW
set_option linter.all false
set_option Elab.async false
/-! IO: names put in order by worths, one behind another. -/
namespace IO
open PySem
/-- x is ahead of y, as texts -/
def slt (x y : Str) : Prop := x.cps.toList < y.cps.toList
instance (x y : Str) : Decidable (slt x y) := inferInstanceAs (Decidable (x.cps.toList < y.cps.toList))
theorem slt_trans_not {x y z : Str} (h1 : ¬ slt y x) (h2 : ¬ slt z y) : ¬ slt z x := by
  have a : x.cps.toList ≤ y.cps.toList := h1
  have b : y.cps.toList ≤ z.cps.toList := h2
  exact List.le_trans a b
theorem slt_antisymm {x y : Str} (h1 : ¬ slt y x) (h2 : ¬ slt x y) : x = y := by
  have a : x.cps.toList ≤ y.cps.toList := h1
  have b : y.cps.toList ≤ x.cps.toList := h2
  exact TL.ext_tl (List.le_antisymm a b)
theorem rising : ∀ (l : List Str) (p : Str), PyProof.Rows.risingS p l = true → (p :: l).Pairwise fun a b => ¬ slt b a
  | [], p, _ => List.pairwise_singleton ..
  | x :: r, p, h => by
    have h' : (!PySem.Spec.ltCps x.cps.toList p.cps.toList && PyProof.Rows.risingS x r) = true := h
    rw [Bool.and_eq_true, PyProof.Rows.ltCps_eq] at h'
    have h1 : ¬ slt x p := by
      have := h'.1
      simpa [slt] using this
    have ih := rising r x h'.2
    refine List.pairwise_cons.mpr ⟨fun y hy => ?_, ih⟩
    rcases List.mem_cons.mp hy with e | hy
    · rw [e]; exact h1
    · exact slt_trans_not h1 ((List.pairwise_cons.mp ih).1 y hy)
theorem sorted_pw {l : List Str} (h : PyProof.Rows.sortedS l = true) : l.Pairwise fun a b => ¬ slt b a := by
  cases l with
  | nil => exact List.Pairwise.nil
  | cons x r => exact rising r x h
/-- two lists in order, of the same texts, are one -/
theorem sorted_same {l m : List Str} (h1 : l.Pairwise fun a b => ¬ slt b a) (h2 : m.Pairwise fun a b => ¬ slt b a) (p : l.Perm m) : l = m :=
  List.Perm.eq_of_pairwise (le := fun a b => ¬ slt b a) (fun a b _ _ x y => slt_antisymm x y) h1 h2 p
/-- by worths, alike ones by names -/
def le (ρ : Str → Rat) (x y : Str) : Prop := ρ x < ρ y ∨ (ρ x = ρ y ∧ ¬ slt y x)
theorem le_rat {ρ : Str → Rat} {x y : Str} (h : le ρ x y) : ρ x ≤ ρ y := by
  rcases h with h | h
  · exact Rat.le_of_lt h
  · rw [h.1]; exact Rat.le_refl
theorem put_in {ρ : Str → Rat} {zs : List Str} {x : Str} {j : Nat} (hz : zs.Pairwise (le ρ)) (hx : ∀ z ∈ zs, ¬ slt x z) (hj : j ≤ zs.length) (hi : ∀ z ∈ zs.drop j, ρ x < ρ z) (lo : ∀ z ∈ zs.take j, ρ z ≤ ρ x) :
    (zs.take j ++ [x] ++ zs.drop j).Pairwise (le ρ) := by
  have h0 := hz
  rw [← List.take_append_drop j zs] at h0
  obtain ⟨h1, h2, h3⟩ := List.pairwise_append.mp h0
  rw [List.append_assoc]
  refine List.pairwise_append.mpr ⟨h1, ?_, fun a ha b hb => ?_⟩
  · exact List.pairwise_cons.mpr ⟨fun b hb => .inl (hi b hb), h2⟩
  · rcases List.mem_cons.mp hb with e | hb
    · subst e
      rcases Rat.le_iff_lt_or_eq.mp (lo a ha) with h | h
      · exact .inl h
      · exact .inr ⟨h, hx a (List.mem_of_mem_take ha)⟩
    · exact h3 a ha b hb
theorem put_perm {zs : List Str} {x : Str} (j : Nat) : (zs.take j ++ [x] ++ zs.drop j).Perm (x :: zs) := by
  rw [List.append_assoc]
  have h : (zs.take j ++ ([x] ++ zs.drop j)).Perm (x :: (zs.take j ++ zs.drop j)) := List.perm_middle
  rw [List.take_append_drop] at h
  exact h
end IO
set_option Elab.async false
set_option linter.all false
set_option maxRecDepth 100000
set_option maxHeartbeats 4000000
namespace K30
open PySem PySem.Spec PyProof.Rows L2
open C8 (Cal Mak Met pe_c pe_mk pe_mt pe_mt0)
open KM (pr)
open SX (S)
structure Bl3 (mg : Str → Option Value) : Prop where
  dict : mg "dict" = none
  srt : mg "sorted" = none
/-- the credits due, by names -/
def Due (H : Hp) (d : Addr) (xs : List Str) (c : Str → Int) : Prop := ∃ ad : Str → Addr, H d = some (dctO xs fun x => .ref (ad x)) ∧ ∀ x ∈ xs, H (ad x) = some (tupP (pr (rt (c x))))
theorem Due.keep {H H' : Hp} {d : Addr} {xs : List Str} {c : Str → Int} (h : Due H d xs c) (s : Same H H') : Due H' d xs c := by
  obtain ⟨ad, h1, h2⟩ := h
  exact ⟨ad, s _ _ h1, fun x hx => s _ _ (h2 x hx)⟩
theorem strOk_S {l : List Nat} (h : NM.ok l) : PyData.strOk (S l) = true := by
  unfold PyData.strOk
  rw [← Array.all_toList, List.all_eq_true]
  intro x hx
  have := h.2.2 x hx
  exact decide_eq_true (by omega)
theorem Ord.sok {xs : List Str} (o : Ord xs) : ∀ x ∈ xs, PyData.strOk x = true := fun x hx => by
  obtain ⟨l, rfl, hl⟩ := o.nm x hx
  exact strOk_S hl
theorem at_last {xs : List Str} (h : xs ≠ []) : ∃ y, y ∈ xs ∧ atI (xs.map V.str) (-1) = some (.str y) := by
  have hp : 0 < xs.length := List.length_pos_iff.mpr h
  refine ⟨xs[xs.length - 1], List.getElem_mem _, ?_⟩
  have e : ixN (xs.map V.str).length (-1) = some (xs.length - 1) := by
    unfold ixN
    rw [if_neg (by decide), List.length_map, if_pos (by omega)]
    congr 1
    omega
  unfold atI
  rw [e]
  show (xs.map V.str)[xs.length - 1]? = _
  rw [List.getElem?_map, List.getElem?_eq_getElem (by omega)]
  rfl
theorem at_first {xs : List Str} (h : xs ≠ []) : ∃ y, y ∈ xs ∧ atI (xs.map V.str) 0 = some (.str y) := by
  cases xs with
  | nil => exact absurd rfl h
  | cons x xs =>
    refine ⟨x, List.mem_cons_self, ?_⟩
    have e : ixN ((x :: xs).map V.str).length 0 = some 0 := by
      unfold ixN
      rw [if_pos (by decide), if_pos (by simp)]
      rfl
    unfold atI
    rw [e]
    rfl
theorem ne_nil_false : (!PyData.eqv (.list []) (.list [])) = false := by simp [PyData.eqv, PyData.eqvAll]
section
variable {P : Program} {w : World} {K : PySem.W.Frag} {mg : Str → Option Value} {base : Heap} {f C CT : Addr} {fd : FuncData}
def spSR (C CT : Addr) : Sp := fun vs H Q _ => ∃ (tu ot d r hd kp ps : Addr) (xs : List Str) (g : Int) (c : Str → Int), vs = [.ref tu, .ref ot, .ref d] ∧ Tr CT H tu r hd kp ps ∧ LeastR H r ot xs g ∧ Crd H hd xs c ∧ Due H d xs c ∧
  ∀ H', Same H H' → Q (.bl true) H'
theorem ok_sr (F : Dn K d_l_stands_right f fd) (b : Bl mg) (b3 : Bl3 mg) (mS : Met P w K mg base 4 CT "stands" (spSt C CT) []) (cP : Cal P w K mg base 1 "_law_pair" (spPair C) []) (M1 : MakS1 P w K mg base C) : FnOk P w K mg base CX0 5 f fd ["_law_turns", "_law_order", "_law_due"] (spSR C CT) := by
  refine F.ok sc_l_stands_right (fun vs H Q E h => ?_) (fun cdv A outer s H vs Q E hr h => ?_)
  · obtain ⟨tu, ot, d, r, hd, kp, ps, xs, g, c, rfl, _⟩ := h
    rfl
  · obtain ⟨tu, ot, d, r, hd, kp, ps, xs, g, c, rfl, tr, lr, hc, due, hQ⟩ := h
    obtain ⟨hrr, hot, ox, g0, g1⟩ := id lr
    obtain ⟨dx, htu⟩ := id tr
    have l8 := ox.l8
    have xpos : 0 < xs.length := List.length_pos_iff.mpr ox.ne
    have hu := hu_of hr
    have hu64 : (A.deeper (envOfC d_l_stands_right.qual d_l_stands_right.scope s.heap.objs.size f cdv)).units + 64 < cLine := by have := hr.un; omega
    refine ⟨_, PSs.nox (pss_cons (ps_set (i := 3) sc_l_stands_right.nd rfl (.inr rfl) (pe_mt0 mS hr (by decide) (pv 0)))
      (pss_cons (ps_if (PW.pt (pw_or (pt_not (pt_val (pe_callB call_isi rfl b.isi boot_isinstance (pa_cons (pv 3) (pa_cons (pe_bltn (v := .ty "dict") rfl b3.dict boot_dict rfl) pa_nil)))))
        (pw_or1 (pt_cmpR (op_neD hu64) (pe_callB (call_sortedD rfl) rfl b3.srt boot_sorted (pa_cons (pv 3) pa_nil)) (pe_callB (SRT.cr_sortedTx hu64) rfl b3.srt boot_sorted (pa_cons (pv 1) pa_nil)) (nomark _))))) pss_never pss_nil)
      (pss_cons (ps_if (pt_cmpR (op_neD hu64) (pe_lc (own := [("_law_name", 4)]) (g := gName 4) rfl sc_l_stands_right.nd (pi_tup (pv 1)) (blkOk_by (N := N_l_stands_right) (sc := defScope s_l_stands_right) (by decide +kernel))
          (fun _ _ _ _ _ => pg_name (i := 4) sc_l_stands_right.nd rfl (Or.inl rfl)) (fun _ _ _ _ _ => pts_one (pt_cmpR (r := rNeD K) (op_neD hu64) (pe_c cP hr (by decide) rfl (pa_cons (pe_dget hu (pv 3) (pv 4) (fun _ _ => rfl)) pa_nil)) (pe_dget hu (pv 2) (pv 4) (fun _ _ => rfl)) (nomark _))) (fun _ _ _ _ _ => pv 4))
          (pe_lst pa_nil) (nomark _)) pss_never pss_nil)
      (pss_cons (ps_dput hu (pv 3) (pe_ix ix_tup (pv 1) pe_int (fun _ _ => rfl)) (pe_mk M1 hr (by decide) rfl (pa_cons pe_int pa_nil)) rfl)
      (pss_cons (ps_expr (pe_dpop1 (pv 3) (pe_ix ix_tup (pv 1) (pe_un un_neg pe_int) (fun _ _ => rfl)) ⟨rfl, rfl, rfl, rfl⟩))
      (pss_one (ps_ret pe_bl))))))), ?_⟩
    refine ⟨_, rfl, tu, dx, _, rfl, htu, tr_no _ _ _ _ (by decide +kernel) (by decide +kernel) (by decide +kernel) (by decide +kernel), tu, r, ot, hd, kp, ps, xs, g, c, rfl, tr, lr, hc, fun D H1 ad s1 fD hD hval => ?_⟩
    obtain ⟨du, hdu, hdv⟩ := due.keep s1
    have hot1 := s1 _ _ hot
    refine ⟨_, rfl, _, _, _, _, true, rfl, ClsV.ty _, TyX.base (TyOf.dK hD), kit_ty (by decide +kernel), true, rfl, iteF ?_⟩
    refine ⟨_, rfl, D, _, xs, rfl, .inl hD, by rw [List.map_map]; rfl, by omega, fun ys p pm so fp => ?_⟩
    have sp := same_new (o := .lst (ys.map V.str)) fp
    refine ⟨_, rfl, ot, xs, rfl, .inr (SqT.of (sp _ _ hot1)), fun zs p2 pm2 pw2 fp2 => ?_⟩
    have sp2 := same_new (o := .lst (zs.map V.str)) fp2
    have ez : ys = zs := IO.sorted_same (IO.sorted_pw so) pw2 (pm.trans pm2.symm)
    subst ez
    have yok : ∀ x ∈ ys, PyData.strOk x = true := fun x hx => ox.sok x (pm.mem_iff.mp hx)
    refine ⟨_, _, Dp.lst (SqL.of (sp2 _ _ upd_same)) (DQ.dp_strs ys), Dp.lst (SqL.of upd_same) (DQ.dp_strs ys), DQ.sh_strs yok, DQ.sh_strs yok, _, rfl, ?_⟩
    rw [DQ.eq_strs]
    refine iteF ?_
    have s3 := sp.trans sp2
    generalize upd (upd H1 p (.lst (ys.map V.str))) p2 (.lst (ys.map V.str)) = H3 at s3
    have hot3 := s3 _ _ hot1
    have hD3 := s3 _ _ hD
    have hdu3 := s3 _ _ hdu
    refine ⟨_, rfl, ot, rfl, ⟨_, SqT.of hot3⟩, fun E2 hE2 => lc_tup (fun j H' => H' E2 = some (.lst []) ∧ Same H3 H') ⟨upd_same, same_new hE2⟩ (fun _ H' _ z => SqT.of (z.2 _ _ hot3)) ?_ ?_⟩
    · rintro j x Hj hx ⟨hej, sj⟩
      rw [List.getElem?_map] at hx
      obtain ⟨z, hz, rfl⟩ := Option.map_eq_some_iff.mp hx
      have hzx := List.mem_of_getElem? hz
      have dg : DGet Hj D (.str z) (some (.ref (ad z))) := by
        have := DGet.k (k := Sum.inr z) (sj _ _ hD3)
        rw [DQ.val_map (fun x => V.ref (ad x)) hzx] at this
        exact this
      refine ⟨rfl, ?_⟩
      refine ⟨_, rfl, _, rfl, D, _, rfl, dg, ad z, _, rfl, (hval z hzx).keep (s3.trans sj), fun pt Hk sk fk hpt => ?_⟩
      have dg2 : DGet Hk d (.str z) (some (.ref (du z))) := by
        have := DGet.k (k := Sum.inr z) (sk _ _ (sj _ _ hdu3))
        rw [DQ.val_map (fun x => V.ref (du x)) hzx] at this
        exact this
      refine ⟨_, rfl, _, rfl, d, _, rfl, dg2, _, _, DQ.dp_pair hpt, DQ.dp_pair (sk _ _ (sj _ _ (s3 _ _ (hdv z hzx)))), DQ.sh_pair _, DQ.sh_pair _, _, rfl, ?_⟩
      rw [DQ.eq_pair]
      exact ⟨sk _ _ hej, sj.trans sk⟩
    rintro Hj ⟨hej, sj⟩
    refine ⟨by show 0 ≤ sizeLine; decide, fun e fe => ?_⟩
    have se := same_new (o := .lst []) fe
    refine ⟨.list [], .list [], Dp.lst (SqL.of (se _ _ hej)) .nil, Dp.lst (SqL.of upd_same) .nil, by decide, by decide, _, rfl, ?_⟩
    rw [ne_nil_false]
    refine iteF ?_
    have s4 := sj.trans se
    generalize upd Hj e (.lst []) = H4 at s4
    -- the told dict is changed
    intro q dq nq nd ne
    refine mk_in (n := 1) nq nd (by decide) (by decide) (by decide) (by decide) fun H5 s5 hq => ⟨rfl, ?_⟩
    have s05 : Same H1 H5 := s3.trans (s4.trans s5)
    obtain ⟨x0, hx0, e0⟩ := at_first ox.ne
    obtain ⟨x1, hx1, e1⟩ := at_last ox.ne
    have hD5 := s05 _ _ hD
    refine ⟨_, rfl, _, rfl, ot, _, _, _, rfl, rfl, SqT.of (s05 _ _ hot1), e0, D, _, rfl, DPut.k (k := Sum.inr x0) hD5 (by rw [List.length_map]; exact Nat.lt_of_lt_of_le (by omega : xs.length < 64) (by decide)), ?_⟩
    have nDo : ot ≠ D := fun z => by rw [z, fD] at hot; cases hot
    rw [DQ.put_old (fun x => V.ref (ad x)) hx0]
    have hot6 : (upd H5 D (.dK (xs.map fun x => ((Sum.inr x : Key), if x = x0 then V.ref q else V.ref (ad x))))) ot = some (.tup (xs.map V.str)) := by
      rw [upd_ne nDo]
      exact s05 _ _ hot1
    refine ⟨_, rfl, D, rfl, .inl ⟨_, .inl upd_same⟩, _, rfl, 1, rfl, ot, _, _, _, rfl, rfl, SqT.of hot6, e1, _, Sum.inr x1, _, upd_same, rfl, DQ.val_map (fun x => if x = x0 then V.ref q else V.ref (ad x)) hx1, ?_⟩
    refine hQ _ fun a o ea => ?_
    have na := ne_of_none ea fD
    rw [upd_ne na, upd_ne na]
    exact s05 _ _ (s1 _ _ ea)
end
end K30
set_option Elab.async false
set_option linter.all false
set_option maxRecDepth 100000
set_option maxHeartbeats 4000000
namespace K30
open PySem PySem.Spec PyProof.Rows L2
open KM (pr)
theorem rt_add {c t : Int} {k m : Int} (hk : k ≠ 0) (h : (c * k + t * 840) * 840 = m * (840 * k)) : rt c + Rat.divInt t k = rt m := by
  unfold rt
  rw [Rat.divInt_add_divInt _ _ (by decide) hk, Rat.divInt_eq_divInt_iff (Int.mul_ne_zero (by decide) hk) (by decide)]
  exact h
theorem one_k {k : Int} (h1 : 1 ≤ k) (h8 : k ≤ 8) : ((-1 : Int), k) = pr (Rat.divInt (-1) k) := by
  rw [← KM.low_eq (by omega)]
  rcases (show k = 1 ∨ k = 2 ∨ k = 3 ∨ k = 4 ∨ k = 5 ∨ k = 6 ∨ k = 7 ∨ k = 8 by omega) with rfl | rfl | rfl | rfl | rfl | rfl | rfl | rfl <;> decide +kernel
theorem low_less (c : Int) {k : Int} (h1 : 1 ≤ k) (h8 : k ≤ 8) : KM.low ((pr (rt c)).1 * k + (-1) * (pr (rt c)).2) ((pr (rt c)).2 * k) = pr (rt (c - (840 : Int).fdiv k)) := by
  have e := KM.pr_plus (rt c) (Rat.divInt (-1) k)
  rw [← one_k h1 h8] at e
  have e2 : (c * k + (-1) * 840) * 840 = (c - (840 : Int).fdiv k) * (840 * k) := by
    rcases (show k = 1 ∨ k = 2 ∨ k = 3 ∨ k = 4 ∨ k = 5 ∨ k = 6 ∨ k = 7 ∨ k = 8 by omega) with rfl | rfl | rfl | rfl | rfl | rfl | rfl | rfl <;> simp [Int.fdiv] <;> omega
  rw [rt_add (by omega) e2] at e
  exact e
theorem low_plus (c : Int) : KM.low ((pr (rt c)).1 * 1 + 1 * (pr (rt c)).2) ((pr (rt c)).2 * 1) = pr (rt (c + 840)) := by
  have e := KM.pr_plus (rt c) (Rat.divInt 1 1)
  have e1 : pr (Rat.divInt 1 1) = (1, 1) := by decide +kernel
  rw [e1, rt_add (m := c + 840) (by decide) (by omega)] at e
  exact e
theorem sz_rt {c : Int} {n : Nat} (h : c.natAbs < 2 ^ n) (hn : 10 ≤ n) : KM.Sz n (rt c) := KM.sz_of_low (by decide) h (Nat.lt_of_lt_of_le (by decide : (840 : Int).natAbs < 2 ^ 10) (Nat.pow_le_pow_right (by decide) hn))
theorem rt_num (c : Int) : (pr (rt c)).1 * 840 = c * (pr (rt c)).2 := by
  have e : rt c = Rat.divInt (pr (rt c)).1 (pr (rt c)).2 := (Rat.num_divInt_den (rt c)).symm
  have e2 : Rat.divInt c 840 = Rat.divInt (pr (rt c)).1 (pr (rt c)).2 := e
  have e3 := (Rat.divInt_eq_divInt_iff (by decide) (show (pr (rt c)).2 ≠ 0 from KM.den_ne (rt c))).mp e2
  exact e3.symm
theorem rt_fdiv (c g : Int) : ((pr (rt c)).1 * g).fdiv (pr (rt c)).2 = (c * g).fdiv 840 := by
  have h := rt_num c
  have hp := KM.pr_bot (rt c)
  generalize (pr (rt c)).1 = n at h
  generalize (pr (rt c)).2 = d at h hp
  rw [Int.fdiv_eq_ediv_of_nonneg _ (Int.le_of_lt hp), Int.fdiv_eq_ediv_of_nonneg _ (by decide)]
  have e1 : n * g / d = (n * g * 840) / (d * 840) := (Int.mul_ediv_mul_of_pos_left _ _ (by decide)).symm
  have e2 : c * g / 840 = (c * g * d) / (840 * d) := (Int.mul_ediv_mul_of_pos_left _ _ hp).symm
  rw [e1, e2]
  have e3 : n * g * 840 = c * g * d := by
    rw [Int.mul_right_comm, h, Int.mul_right_comm]
  rw [e3, Int.mul_comm d 840]
theorem rt_lt (a b : Int) : ((pr (rt a)).1 * (pr (rt b)).2 < (pr (rt b)).1 * (pr (rt a)).2) ↔ a < b := by
  have ha := rt_num a
  have hb := rt_num b
  have pa := KM.pr_bot (rt a)
  have pb := KM.pr_bot (rt b)
  generalize (pr (rt a)).1 = n at ha
  generalize (pr (rt a)).2 = d at ha pa
  generalize (pr (rt b)).1 = m at hb
  generalize (pr (rt b)).2 = e at hb pb
  have hde : 0 < d * e := Int.mul_pos pa pb
  have e1 : n * e * 840 = a * (d * e) := by
    rw [Int.mul_right_comm, ha, Int.mul_assoc]
  have e2 : m * d * 840 = b * (d * e) := by
    rw [Int.mul_right_comm, hb, Int.mul_assoc, Int.mul_comm e d]
  constructor
  · intro h
    refine Int.lt_of_mul_lt_mul_right (a := d * e) ?_ (Int.le_of_lt hde)
    omega
  · intro h
    have := Int.mul_lt_mul_of_pos_right h hde
    omega
end K30
set_option Elab.async false
set_option linter.all false
set_option maxRecDepth 100000
set_option maxHeartbeats 4000000
namespace K30
open PySem PySem.Spec PyProof.Rows L2
open C8 (Cal Mak Met pe_c pe_mk pe_mt pe_mt0)
open KM (pr)
/-- credits behind some of a day's riders -/
def c1 (R : List Str) (i : Nat) (c : Str → Int) (x : Str) : Int := c x - (if x ∈ R.take i then (840 : Int).fdiv (R.length : Int) else 0)
theorem fd_small {k : Int} (h1 : 1 ≤ k) (h8 : k ≤ 8) : 0 ≤ (840 : Int).fdiv k ∧ (840 : Int).fdiv k ≤ 840 := by
  rcases (show k = 1 ∨ k = 2 ∨ k = 3 ∨ k = 4 ∨ k = 5 ∨ k = 6 ∨ k = 7 ∨ k = 8 by omega) with rfl | rfl | rfl | rfl | rfl | rfl | rfl | rfl <;> decide
section
variable {P : Program} {w : World} {K : PySem.W.Frag} {mg : Str → Option Value} {base : Heap} {f C CT : Addr} {fd : FuncData}
def spGo : Sp := fun vs H Q _ => ∃ (d rd : Addr) (xs R : List Str) (y : Str) (c : Str → Int), vs = [.ref d, .ref rd, .str y] ∧ Due H d xs c ∧ xs.length ≤ 8 ∧ H rd = some (.lst (R.map V.str)) ∧ DayOk xs R ∧ y ∈ R ∧ (∀ x ∈ xs, (c x).natAbs < 2 ^ 50) ∧
  ∀ (d' : Addr) (H' : Hp), Same H H' → H d' = none → Due H' d' xs (nxt R y c) → Q (.ref d') H'
theorem ok_go (F : Dn K d_l_gone f fd) (b : Bl mg) (b3 : Bl3 mg) (cA : Cal P w K mg base 2 "_law_add" spAdd []) : FnOk P w K mg base CX0 3 f fd ["_law_due", "_law_riders", "_law_driver"] spGo := by
  refine F.ok sc_l_gone (fun vs H Q E h => ?_) (fun cdv A outer s H vs Q E hr h => ?_)
  · obtain ⟨d, rd, xs, R, y, c, rfl, _⟩ := h
    rfl
  · obtain ⟨d, rd, xs, R, y, c, rfl, ⟨du, hdu, hdv⟩, l8, hrd, dy, hy, bnd, hQ⟩ := h
    have hu := hu_of hr
    have rpos : 0 < R.length := List.length_pos_iff.mpr dy.ne
    have rln := dy.ln
    have k1 : (1 : Int) ≤ (R.length : Int) := by omega
    have k8 : (R.length : Int) ≤ 8 := by omega
    obtain ⟨f0, f1⟩ := fd_small k1 k8
    have b840 : ∀ (x : Str) (i : Nat), x ∈ xs → (c1 R i c x).natAbs < 2 ^ 52 := fun x i hx => by
      have := bnd x hx
      unfold c1
      split <;> omega
    refine ⟨_, PSs.nox (pss_cons (ps_set (i := 3) sc_l_gone.nd rfl (.inl rfl) (pe_callTy call_dictD rfl b3.dict boot_dict (pa_cons (pv 0) pa_nil)))
      (pss_cons (ps_for PassesOwn.never rfl (pi_list (pv 1)) (pg_name (i := 4) sc_l_gone.nd rfl (.inl rfl))
        (pss_one (ps_dput hu (pv 3) (pv 4) (pe_c cA hr (by decide) rfl (pa_cons (pe_dget hu (pv 3) (pv 4) (fun _ _ => rfl)) (pa_cons (pe_tup (pa_cons (pe_un un_neg pe_int) (pa_cons (pe_callB call_len_seq rfl b.len boot_len (pa_cons (pv 1) pa_nil)) pa_nil))) pa_nil))) rfl)))
      (pss_cons (ps_dput hu (pv 3) (pv 2) (pe_c cA hr (by decide) rfl (pa_cons (pe_dget hu (pv 3) (pv 2) (fun _ _ => rfl)) (pa_cons (pe_tup (pa_cons pe_int (pa_cons pe_int pa_nil))) pa_nil))) rfl)
      (pss_one (ps_ret (pv 3)))))), ?_⟩
    refine ⟨_, rfl, d, _, rfl, .inl hdu, fun be fbe => ?_⟩
    have sbe := same_new (o := dctO xs fun x => .ref (du x)) fbe
    have upK : ∀ {Hb Ht : Hp} {ad : Str → Addr} {cc : Str → Int} {z : Str} {T t2 : Addr} {o : HO} {m : Int}, Same H Hb → Hb be = some (dctO xs fun x => .ref (ad x)) → (∀ x ∈ xs, Hb (ad x) = some (tupP (pr (rt (cc x))))) → z ∈ xs → Hb T = none → (upd Hb T o) t2 = none →
        ∃ ad' : Str → Addr, (upd (upd (upd Hb T o) t2 (tupP (pr (rt m)))) be (.dK (putK (xs.map fun x => ((Sum.inr x : Key), V.ref (ad x))) (Sum.inr z) (.ref t2)))) be = some (dctO xs fun x => .ref (ad' x)) ∧
          (∀ x ∈ xs, (upd (upd (upd Hb T o) t2 (tupP (pr (rt m)))) be (.dK (putK (xs.map fun x => ((Sum.inr x : Key), V.ref (ad x))) (Sum.inr z) (.ref t2)))) (ad' x) = some (tupP (pr (rt (if x = z then m else cc x))))) ∧
          Same H (upd (upd (upd Hb T o) t2 (tupP (pr (rt m)))) be (.dK (putK (xs.map fun x => ((Sum.inr x : Key), V.ref (ad x))) (Sum.inr z) (.ref t2)))) := fun {Hb Ht ad cc z T t2 o m} sb hb ha hz fT ft => by
      have sT := same_new (o := o) fT
      have st := same_new (o := tupP (pr (rt m))) ft
      have s2 := sT.trans st
      have nbt : t2 ≠ be := fun e => by rw [e, sT _ _ hb] at ft; cases ft
      refine ⟨fun x => if x = z then t2 else ad x, ?_, fun x hx => ?_, fun a u e => ?_⟩
      · rw [upd_same, DQ.put_old (fun x => V.ref (ad x)) hz]
        unfold dctO
        refine congrArg (fun l => some (HO.dK l)) (List.map_congr_left fun x _ => ?_)
        show ((Sum.inr x : Key), if x = z then V.ref t2 else V.ref (ad x)) = (Sum.inr x, V.ref (if x = z then t2 else ad x))
        by_cases e : x = z
        · rw [if_pos e, if_pos e]
        · rw [if_neg e, if_neg e]
      · show (upd _ be _) (if x = z then t2 else ad x) = _
        by_cases e : x = z
        · rw [if_pos e, if_pos e, upd_ne nbt, upd_same]
        · rw [if_neg e, if_neg e]
          have := s2 _ _ (ha x hx)
          rw [upd_ne (fun q => by rw [q, s2 _ _ hb] at this; cases this)]
          exact this
      · rw [upd_ne (ne_of_none e fbe)]
        exact s2 _ _ (sb _ _ e)
    refine ⟨_, rfl, rd, rfl, ⟨_, SqL.of (sbe _ _ hrd)⟩, for_list (K := K) (xs := R.map V.str) (fun i σ H2 => ∃ (v : Option V) (ad : Str → Addr), σ = [some (.ref d), some (.ref rd), some (.str y), some (.ref be), v] ∧ H2 be = some (dctO xs fun x => .ref (ad x)) ∧ (∀ x ∈ xs, H2 (ad x) = some (tupP (pr (rt (c1 R i c x))))) ∧ Same H H2)
      ⟨_, du, rfl, upd_same, fun x hx => ?_, sbe⟩ (fun i σ H2 _ ⟨_, _, _, _, _, sm⟩ => SqL.of (sm _ _ hrd)) ?_ ?_⟩
    · have e : c1 R 0 c x = c x := by unfold c1; simp
      rw [e]
      exact sbe _ _ (hdv x hx)
    · rintro i v σ H2 hi ⟨v4, ad, rfl, hbe, had, sm⟩
      rw [List.getElem?_map] at hi
      obtain ⟨z, hz, rfl⟩ := Option.map_eq_some_iff.mp hi
      have hzR := List.mem_of_getElem? hz
      have hzx := dy.sub z hzR
      have nz := nin_take dy.nd hz
      have et : R.take (i + 1) = R.take i ++ [z] := by rw [List.take_succ, hz]; rfl
      have dg : DGet H2 be (.str z) (some (.ref (ad z))) := by
        have := DGet.k (k := Sum.inr z) hbe
        rw [DQ.val_map (fun x => V.ref (ad x)) hzx] at this
        exact this
      refine ⟨_, rfl, _, rfl, be, _, rfl, dg, _, rfl, _, rfl, rd, _, rfl, .inl (SqL.of (sm _ _ hrd)), by show 2 ≤ sizeLine; decide, fun T fT => ?_⟩
      have sT := same_new (o := .tup [.int (-1), .int (((R.map V.str).length : Nat) : Int)]) fT
      have sz := sz_rt (b840 z i hzx) (by decide)
      refine ⟨ad z, T, _, (-1, (R.length : Int)), 52, rfl, sT _ _ (had z hzx), ?_, ⟨bd_of sz, ⟨by show (-1 : Int).natAbs < 2 ^ 52; decide, by show (0 : Int) < R.length; omega, by show (R.length : Int).natAbs < 2 ^ 52; omega⟩, by decide, by decide⟩, fun t2 ft => ?_⟩
      · show (upd H2 T _) T = _
        rw [upd_same, List.length_map]
        rfl
      rw [low_less _ k1 k8]
      refine ⟨_, rfl, _, rfl, be, _, rfl, DPut.k (k := Sum.inr z) (same_new ft _ _ (sT _ _ hbe)) (by rw [List.length_map]; exact Nat.lt_of_lt_of_le (by omega : xs.length < 64) (by decide)), ?_⟩
      obtain ⟨ad', h1, h2, h3⟩ := upK (cc := c1 R i c) (m := c1 R i c z - (840 : Int).fdiv (R.length : Int)) (Ht := H) sm hbe had hzx fT ft
      refine ⟨_, ad', rfl, h1, fun x hx => ?_, h3⟩
      rw [h2 x hx]
      have e : (if x = z then c1 R i c z - (840 : Int).fdiv (R.length : Int) else c1 R i c x) = c1 R (i + 1) c x := by
        unfold c1
        rw [et]
        by_cases q : x = z
        · rw [if_pos q, if_neg nz, q, if_pos (by simp)]
          omega
        · rw [if_neg q]
          have : (x ∈ R.take i ++ [z]) ↔ x ∈ R.take i := by simp [q]
          simp only [this]
      rw [e]
    · rintro σ H2 ⟨v4, ad, rfl, hbe, had, sm⟩
      rw [List.length_map] at had
      have hyx := dy.sub y hy
      have dg : DGet H2 be (.str y) (some (.ref (ad y))) := by
        have := DGet.k (k := Sum.inr y) hbe
        rw [DQ.val_map (fun x => V.ref (ad x)) hyx] at this
        exact this
      refine ⟨_, rfl, _, rfl, be, _, rfl, dg, by show 2 ≤ sizeLine; decide, fun T fT => ?_⟩
      have sT := same_new (o := .tup [.int 1, .int 1]) fT
      have sz := sz_rt (b840 y R.length hyx) (by decide)
      refine ⟨ad y, T, _, (1, 1), 52, rfl, sT _ _ (had y hyx), upd_same, ⟨bd_of sz, ⟨by decide, by decide, by decide⟩, by decide, by decide⟩, fun t2 ft => ?_⟩
      rw [low_plus]
      refine ⟨_, rfl, _, rfl, be, _, rfl, DPut.k (k := Sum.inr y) (same_new ft _ _ (sT _ _ hbe)) (by rw [List.length_map]; exact Nat.lt_of_lt_of_le (by omega : xs.length < 64) (by decide)), ?_⟩
      obtain ⟨ad', h1, h2, h3⟩ := upK (cc := c1 R R.length c) (m := c1 R R.length c y + 840) (Ht := H) sm hbe had hyx fT ft
      refine ⟨_, rfl, hQ be _ h3 fbe ⟨ad', h1, fun x hx => ?_⟩⟩
      rw [h2 x hx]
      have e : (if x = y then c1 R R.length c y + 840 else c1 R R.length c x) = nxt R y c x := by
        unfold c1 nxt
        rw [List.take_length]
        by_cases q : x = y
        · rw [if_pos q, if_pos q, q]
        · rw [if_neg q, if_neg q]
          omega
      rw [e]
end
end K30
set_option Elab.async false
set_option linter.all false
set_option maxRecDepth 100000
set_option maxHeartbeats 4000000
/-! xs.count(x), the items and x data of any depth -/
namespace CD
open PySem PySem.Spec PyProof.Rows L2
def rCntD (K : PySem.W.Frag) : V → List V → Hp → VK → Prop := fun x xs H Q => ∃ (p : Addr) (y : V) (zs : List V) (d : PyData) (ds : List PyData), x = .ref p ∧ xs = [y] ∧ SqL K H p zs ∧ DpAll K H zs ds ∧ Dp K H y d ∧
  SeqAt.shaped (.list ds) = true ∧ SeqAt.shaped d = true ∧ Q (.int ((ds.countP fun z => PyData.eqv z d : Nat) : Int)) H
theorem mt_dcount {X : Cx} (hu : X.A.units + 65 < cLine) : MtR X "list.count" (rCntD X.K) := by
  intro pins s σ H x xs v us Q I rx rxs h
  obtain ⟨p, y, zs, d, ds, rfl, rfl, hs, ha, hy, sl, sd, q⟩ := h
  cases rx
  obtain ⟨u, rfl, ru⟩ := rxs.one
  obtain ⟨its, rv, ⟨⟨cls, dd, data, slots⟩, n, ho, hc, hdn, hd⟩, hlen⟩ := I.list hs
  simp only at hc hd
  subst hc hd
  obtain ⟨bs, r1⟩ := Dp.reads I d y u hy ru
  obtain ⟨as, r2⟩ := Dp.readsAll I ds _ its ha rv
  have lay : PyData.canLayAll0 ds = true := SeqAt.canLay_of_shaped sl
  have room : X.A.units + 1 + min (PyData.depthAll ds) d.depth < cLine := room_in_shaped sd hu
  have em : its.map (SeqAt.readOf s.heap) = ds := SeqAt.readsAll_map ds its as lay r2
  refine call_meets PySem.F.slot_list_count ⟨_, ho, rfl⟩ PySem.F.entry_list_count (PySem.F.args_list_count_2 _ _) (SeqAt.list_countAt p its.toArray n dd slots u (fun w => PyData.eqv (SeqAt.readOf s.heap w) d))
    ⟨ho, SeqAt.items_eqAt (vs := its.toArray) (show ReadsAll s.heap its.toArray.toList ds as from r2) r1 lay (SeqAt.canLay_of_shaped sd) room, ?_⟩
  have ec : its.toArray.toList.countP (fun w => PyData.eqv (SeqAt.readOf s.heap w) d) = ds.countP fun z => PyData.eqv z d := by
    rw [← em, List.countP_map]
    rfl
  rw [ec]
  exact ⟨.int _, H, I.tok _, ⟨_, rfl⟩, q⟩
/-- texts, in a tuple -/
def tD (ns : List Str) : PyData := .tuple (ns.map .str)
theorem eqvA_strs : ∀ a b : List Str, PyData.eqvAll (a.map .str) (b.map .str) = decide (a = b)
  | [], [] => by simp [PyData.eqvAll]
  | [], _ :: _ => by simp [PyData.eqvAll]
  | _ :: _, [] => by simp [PyData.eqvAll]
  | x :: a, y :: b => by
    rw [List.map_cons, List.map_cons, PySem.W.eqv_all_cons, eqvA_strs a b]
    by_cases e : x = y <;> simp [PyData.eqv, e]
theorem eqv_tD (a b : List Str) : PyData.eqv (tD a) (tD b) = decide (a = b) := by
  unfold tD
  rw [show PyData.eqv (.tuple (a.map .str)) (.tuple (b.map .str)) = PyData.eqvAll (a.map .str) (b.map .str) by rw [PyData.eqv], eqvA_strs]
/-- how often a tuple of texts stands among others -/
theorem cnt_tD (ns : List Str) : ∀ l : List (List Str), ((l.map tD).countP fun z => PyData.eqv z (tD ns)) = l.count ns
  | [] => rfl
  | a :: l => by
    rw [List.map_cons, List.countP_cons, List.count_cons, cnt_tD ns l, eqv_tD]
    by_cases e : a = ns <;> simp [e]
end CD
set_option Elab.async false
set_option linter.all false
set_option maxRecDepth 100000
set_option maxHeartbeats 4000000
namespace RM
open PySem PySem.Spec PyProof.Rows L2
/-- the sets amid their round among the first i days -/
structure Pre (rode : List (List Str)) (i : Nat) (P : List Pr) : Prop where
  nd : (P.map (·.1)).Nodup
  mem : ∀ ns m, (ns, m) ∈ P ↔ (ns ∈ rode.take i ∧ m = rode.count ns % ns.length ∧ 0 < m)
  ln : P.length ≤ i
theorem Pre.zero (rode : List (List Str)) : Pre rode 0 [] := ⟨by simp, fun ns m => by simp, Nat.le_refl _⟩
theorem Pre.all {rode : List (List Str)} {P : List Pr} (p : Pre rode rode.length P) : Amid rode P := ⟨p.nd, fun ns m => by rw [p.mem, List.take_length], p.ln⟩
section
variable {rode : List (List Str)} {i : Nat} {P : List Pr} {z : List Str}
theorem take_z (hz : rode[i]? = some z) : rode.take (i + 1) = rode.take i ++ [z] := by rw [List.take_succ, hz]; rfl
theorem Pre.skip0 (p : Pre rode i P) (hz : rode[i]? = some z) (h : rode.count z % z.length = 0) : Pre rode (i + 1) P := by
  refine ⟨p.nd, fun ns m => ?_, Nat.le_succ_of_le p.ln⟩
  rw [p.mem, take_z hz, List.mem_append, List.mem_singleton]
  constructor
  · rintro ⟨a, b, c⟩
    exact ⟨.inl a, b, c⟩
  · rintro ⟨a | a, b, c⟩
    · exact ⟨a, b, c⟩
    · rw [a, h] at b
      omega
theorem Pre.skipIn (p : Pre rode i P) (hz : rode[i]? = some z) (h : z ∈ P.map (·.1)) : Pre rode (i + 1) P := by
  refine ⟨p.nd, fun ns m => ?_, Nat.le_succ_of_le p.ln⟩
  obtain ⟨q, hq, e⟩ := List.mem_map.mp h
  have hz2 : z ∈ rode.take i := by
    rw [← e]
    exact ((p.mem q.1 q.2).mp hq).1
  rw [p.mem, take_z hz, List.mem_append, List.mem_singleton]
  constructor
  · rintro ⟨a, b, c⟩
    exact ⟨.inl a, b, c⟩
  · rintro ⟨a | a, b, c⟩
    · exact ⟨a, b, c⟩
    · exact ⟨a ▸ hz2, b, c⟩
theorem Pre.add (p : Pre rode i P) (hz : rode[i]? = some z) (h : z ∉ P.map (·.1)) (h0 : 0 < rode.count z % z.length) : Pre rode (i + 1) (P ++ [(z, rode.count z % z.length)]) := by
  refine ⟨?_, fun ns m => ?_, by rw [List.length_append]; have := p.ln; simp; omega⟩
  · rw [List.map_append]
    refine List.nodup_append.mpr ⟨p.nd, by simp, ?_⟩
    intro a ha b hb e
    simp at hb
    exact h (by rw [← hb, ← e]; exact ha)
  · rw [List.mem_append, List.mem_singleton, p.mem, take_z hz, List.mem_append, List.mem_singleton]
    constructor
    · rintro (⟨a, b, c⟩ | e)
      · exact ⟨.inl a, b, c⟩
      · cases e
        exact ⟨.inr rfl, rfl, h0⟩
    · rintro ⟨a | a, b, c⟩
      · exact .inl ⟨a, b, c⟩
      · subst a
        exact .inr (by rw [b])
end
theorem any_tD (ns : List Str) : ∀ l : List (List Str), ((l.map CD.tD).any fun z => PyData.eqv z (CD.tD ns)) = decide (ns ∈ l)
  | [] => rfl
  | a :: l => by
    rw [List.map_cons, List.any_cons, any_tD ns l, CD.eqv_tD]
    by_cases e : a = ns
    · simp [e]
    · have e2 : ¬ ns = a := fun z => e z.symm
      simp [e, e2]
theorem lay_tD {ns : List Str} (h : ∀ x ∈ ns, PyData.strOk x = true) : (CD.tD ns).canLay0 = true ∧ (CD.tD ns).depth = 1 := by
  obtain ⟨a, b⟩ := DQ.all_strs ns h
  unfold CD.tD
  exact ⟨by rw [PyData.canLay0]; exact a, by rw [PyData.depth, b]⟩
theorem lay_tDs : ∀ {l : List (List Str)}, (∀ ns ∈ l, ∀ x ∈ ns, PyData.strOk x = true) → PyData.canLayAll0 (l.map CD.tD) = true ∧ PyData.depthAll (l.map CD.tD) ≤ 1
  | [], _ => by simp [PyData.canLayAll0, PyData.depthAll]
  | ns :: l, h => by
    obtain ⟨a, b⟩ := lay_tD (h ns List.mem_cons_self)
    obtain ⟨c, d⟩ := lay_tDs fun x hx => h x (List.mem_cons_of_mem _ hx)
    rw [List.map_cons, PyData.canLayAll0, PyData.depthAll, a, b, c]
    exact ⟨rfl, by omega⟩
theorem sh_tD {ns : List Str} (h : ∀ x ∈ ns, PyData.strOk x = true) : SeqAt.shaped (CD.tD ns) = true := by
  obtain ⟨a, b⟩ := lay_tD h
  show ((CD.tD ns).canLay0 && decide ((CD.tD ns).depth ≤ 64)) = true
  rw [a, b]
  rfl
theorem sh_tDs {l : List (List Str)} (h : ∀ ns ∈ l, ∀ x ∈ ns, PyData.strOk x = true) : SeqAt.shaped (.list (l.map CD.tD)) = true := by
  obtain ⟨a, b⟩ := lay_tDs h
  show ((PyData.list (l.map CD.tD)).canLay0 && decide ((PyData.list (l.map CD.tD)).depth ≤ 64)) = true
  rw [PyData.canLay0, PyData.depth, a, Bool.true_and]
  exact decide_eq_true (by omega)
end RM
namespace K30
open PySem PySem.Spec PyProof.Rows L2
open C8 (Cal Mak Met pe_c pe_mk pe_mt pe_mt0)
open SX (S)
/-- the sets that rode, a tuple each -/
def Rode (H : Hp) (xs : List Str) (ro : Addr) (rs : List (Addr × List Str)) : Prop := H ro = some (.lst (rs.map fun p => V.ref p.1)) ∧ ∀ p ∈ rs, H p.1 = some (.tup (p.2.map V.str)) ∧ p.2 ≠ [] ∧ (∀ x ∈ p.2, x ∈ xs) ∧ p.2.length ≤ 8
theorem Rode.same {H H' : Hp} {xs : List Str} {ro : Addr} {rs : List (Addr × List Str)} (d : Rode H xs ro rs) (s : Same H H') : Rode H' xs ro rs := ⟨s _ _ d.1, fun p hp => ⟨s _ _ (d.2 p hp).1, (d.2 p hp).2⟩⟩
theorem dp_t {K : PySem.W.Frag} {H : Hp} {a : Addr} {ns : List Str} (h : H a = some (.tup (ns.map V.str))) : Dp K H (.ref a) (CD.tD ns) := Dp.tup (SqT.of h) (dpStrs ns)
theorem dp_ts {K : PySem.W.Frag} {H : Hp} : ∀ {rs : List (Addr × List Str)}, (∀ p ∈ rs, H p.1 = some (.tup (p.2.map V.str))) → DpAll K H (rs.map fun p => V.ref p.1) ((rs.map (·.2)).map CD.tD)
  | [], _ => .nil
  | p :: rs, h => .cons (dp_t (h p List.mem_cons_self)) (dp_ts fun x hx => h x (List.mem_cons_of_mem _ hx))
theorem dp_nts {K : PySem.W.Frag} {H : Hp} : ∀ {es : List Ent}, (∀ e ∈ es, EntOk H e) → DpAll K H (es.map fun e => V.ref e.nt) ((es.map fun e => e.p.1).map CD.tD)
  | [], _ => .nil
  | p :: rs, h => .cons (dp_t (h p List.mem_cons_self).2) (dp_nts fun x hx => h x (List.mem_cons_of_mem _ hx))
section
variable {P : Program} {w : World} {K : PySem.W.Frag} {mg : Str → Option Value} {base : Heap} {f C : Addr} {fd : FuncData}
def spMm : Sp := fun vs H Q _ => ∃ (ot ro : Addr) (xs : List Str) (rs : List (Addr × List Str)), vs = [.ref ot, .ref ro] ∧ Ord xs ∧ Rode H xs ro rs ∧ rs.length ≤ 1000 ∧
  ∀ (t : Addr) (H' : Hp), Same H H' → KeptX (rs.map (·.2)) H' t → Q (.ref t) H'
theorem ok_mm (F : Dn K d_l_memory f fd) (b : Bl mg) (b2 : Bl2 mg) (srt : mg "sorted" = none) : FnOk P w K mg base CX0 1 f fd ["_law_order", "_law_rode"] spMm := by
  refine F.ok sc_l_memory (fun vs H Q E h => ?_) (fun cdv A outer s H vs Q E hr h => ?_)
  · obtain ⟨ot, ro, xs, rs, rfl, _⟩ := h
    rfl
  · obtain ⟨ot, ro, xs, rs, rfl, ox, ⟨hro, hrs⟩, n1, hQ⟩ := h
    have hu64 : (A.deeper (envOfC d_l_memory.qual d_l_memory.scope s.heap.objs.size f cdv)).units + 64 < cLine := by have := hr.un; omega
    have hu65 : (A.deeper (envOfC d_l_memory.qual d_l_memory.scope s.heap.objs.size f cdv)).units + 65 < cLine := by have := hr.un; omega
    have sok : ∀ p ∈ rs, ∀ x ∈ p.2, PyData.strOk x = true := fun p hp x hx => ox.sok x ((hrs p hp).2.2.1 x hx)
    refine ⟨_, PSs.nox (pss_cons (ps_set (i := 2) sc_l_memory.nd rfl (.inl rfl) (pe_lst pa_nil))
      (pss_cons (ps_for PassesOwn.never rfl (pi_list (pv 1)) (pg_name (i := 3) sc_l_memory.nd rfl (.inl rfl))
        (pss_one (ps_if (PW.pt (pw_and (pt_cmpR (op_notInD hu65) (pv 3) (pe_lc (own := [("_law_row", 4)]) (g := gName 4) (tt := tYes) rfl sc_l_memory.nd (pi_list (pv 2)) (blkOk_by (N := N_l_memory) (sc := defScope s_l_memory) (by decide +kernel))
              (fun _ _ _ _ _ => pg_name (i := 4) sc_l_memory.nd rfl (Or.inl rfl)) (fun _ _ _ _ _ => pts_nil) (fun _ _ _ _ _ => pe_ix (r := rIxT K) ix_tup (pv 4) pe_int (fun _ _ => rfl))) (by rfl))
            (pw_and (pt_cmpR op_gt (pe_callB call_len_seq rfl b.len boot_len (pa_cons (pv 3) pa_nil)) pe_int (nomark _))
            (pw_and1 (pt_cmpR op_gt (pe_op op_mod (pe_bm (r := CD.rCntD K) PySem.F.plainAttrs_list PySem.F.slot_list_count PySem.F.type_list_count (CD.mt_dcount hu65) (pv 1) (pa_cons (pv 3) pa_nil)) (pe_callB call_len_seq rfl b.len boot_len (pa_cons (pv 3) pa_nil))) pe_int (nomark _))))))
          (pss_one (ps_expr (pe_bm PySem.F.plainAttrs_list PySem.F.slot_list_append PySem.F.type_list_append mt_append (pv 2) (pa_cons (pe_tup (pa_cons (pv 3) (pa_cons (pe_op op_mod (pe_bm (r := CD.rCntD K) PySem.F.plainAttrs_list PySem.F.slot_list_count PySem.F.type_list_count (CD.mt_dcount hu65) (pv 1) (pa_cons (pv 3) pa_nil)) (pe_callB call_len_seq rfl b.len boot_len (pa_cons (pv 3) pa_nil))) pa_nil))) pa_nil)))) pss_nil)))
      (pss_one (ps_ret (pe_callTy call_tuple_of rfl b2.tup boot_tuple (pa_cons (pe_callB (SRT.cr_sortedD hu64) rfl srt boot_sorted (pa_cons (pv 2) pa_nil)) pa_nil)))))), ?_⟩
    refine ⟨by show 0 ≤ sizeLine; decide, fun fo ffo => ?_⟩
    have sfo := same_new (o := .lst []) ffo
    refine ⟨_, rfl, ro, rfl, ⟨_, SqL.of (sfo _ _ hro)⟩, for_list (K := K) (xs := rs.map fun p => V.ref p.1) (fun i σ H' => ∃ (v : Option V) (es : List Ent), σ = [some (.ref ot), some (.ref ro), some (.ref fo), v, none] ∧ H' fo = some (.lst (es.map fun e => V.ref e.pt)) ∧ (∀ e ∈ es, EntOk H' e ∧ ∀ x ∈ e.p.1, PyData.strOk x = true) ∧ RM.Pre (rs.map (·.2)) i (es.map Ent.p) ∧ Same H H')
      ⟨_, [], rfl, upd_same, fun e he => (nomatch he), RM.Pre.zero _, sfo⟩ (fun i σ H' _ z => by obtain ⟨_, _, _, _, _, _, sm⟩ := z; exact SqL.of (sm _ _ hro)) ?_ ?_⟩
    · rintro i v σ H2 hi ⟨v3, es, rfl, hfo, hes, pre, sm⟩
      rw [List.getElem?_map] at hi
      obtain ⟨p, hp, rfl⟩ := Option.map_eq_some_iff.mp hi
      have hpm := List.mem_of_getElem? hp
      obtain ⟨hpt, pne, _⟩ := hrs p hpm
      have hz : (rs.map (·.2))[i]? = some p.2 := by rw [List.getElem?_map, hp]; rfl
      have ppos : 0 < p.2.length := List.length_pos_iff.mpr pne
      have hil : i < rs.length := (List.getElem?_eq_some_iff.mp hp).1
      have esl : es.length ≤ 1000 := by
        have := pre.ln
        rw [List.length_map] at this
        omega
      refine ⟨_, rfl, _, rfl, fo, rfl, ⟨_, SqL.of hfo⟩, fun D hD => lc_list (fun j H' => H' D = some (.lst ((es.take j).map fun e => V.ref e.nt)) ∧ Same H2 H') ⟨upd_same, same_new hD⟩ (fun j H' _ z => SqL.of (z.2 _ _ hfo)) ?_ ?_⟩
      · rintro j y H3 hy ⟨hdd, s3⟩
        rw [List.getElem?_map] at hy
        obtain ⟨e, he, rfl⟩ := Option.map_eq_some_iff.mp hy
        have et : es.take (j + 1) = es.take j ++ [e] := by rw [List.take_succ, he]; rfl
        have hjl : j < es.length := (List.getElem?_eq_some_iff.mp he).1
        obtain ⟨h1, h2⟩ := ((hes e (List.mem_of_getElem? he)).1).ext fun a ys z => s3 _ _ z
        refine ⟨rfl, ?_⟩
        refine ⟨_, rfl, e.pt, _, _, _, rfl, rfl, SqT.of h1, rfl, _, hdd, Nat.lt_of_le_of_lt (by rw [List.length_map, List.length_take]; omega : _ ≤ 2000) (by decide), ?_, ?_⟩
        · rw [upd_same, et, List.map_append]
          rfl
        · intro a o z
          rw [upd_ne (ne_of_none z hD)]
          exact s3 a o z
      rintro H3 ⟨hdd, s3⟩
      rw [List.length_map, List.take_length] at hdd
      have s03 := sm.trans s3
      have hpt3 := s03 _ _ hpt
      have hro3 := s03 _ _ hro
      have hes3 : ∀ e ∈ es, EntOk H3 e := fun e he => ((hes e he).1).ext fun a ys z => s3 _ _ z
      have hesk : ∀ e ∈ es, EntOk H3 e ∧ ∀ x ∈ e.p.1, PyData.strOk x = true := fun e he => ⟨hes3 e he, (hes e he).2⟩
      have hfo3 := s3 _ _ hfo
      have names : (es.map Ent.p).map (·.1) = es.map fun e => e.p.1 := by rw [List.map_map]; rfl
      refine ⟨_, _, dp_t hpt3, Dp.lst (SqL.of hdd) (dp_nts hes3), RM.sh_tD (sok p hpm), RM.sh_tDs (fun ns hns x hx => by
        obtain ⟨e, he, rfl⟩ := List.mem_map.mp hns
        exact (hes e he).2 x hx), _, rfl, ?_⟩
      rw [RM.any_tD]
      have shs : SeqAt.shaped (.list ((rs.map (·.2)).map CD.tD)) = true := RM.sh_tDs (fun ns hns x hx => by
        obtain ⟨q, hq, rfl⟩ := List.mem_map.mp hns
        exact sok q hq x hx)
      have cmod : ∀ n : Nat, ((n : Nat) : Int) % (((p.2.map V.str).length : Nat) : Int) = ((n % p.2.length : Nat) : Int) := fun n => by
        rw [List.length_map]
        push_cast
        rfl
      by_cases hin : p.2 ∈ es.map fun e => e.p.1
      · rw [decide_eq_true hin]
        exact iteF ⟨_, es, rfl, hfo3, hesk, pre.skipIn hz (by rw [names]; exact hin), s03⟩
      rw [decide_eq_false hin]
      refine iteT ?_
      refine ⟨_, rfl, p.1, _, rfl, .inr (SqT.of hpt3), _, _, rfl, rfl, _, rfl, ite2 (fun hl => ?_) (fun hl => ?_)⟩
      · refine ⟨_, rfl, .inl ⟨rfl, _, SqL.of hro3⟩, _, rfl, ro, _, _, CD.tD p.2, _, rfl, rfl, SqL.of hro3, dp_ts (fun q hq => s03 _ _ (hrs q hq).1), dp_t hpt3, shs, RM.sh_tD (sok p hpm), ?_⟩
        rw [CD.cnt_tD]
        refine ⟨_, rfl, p.1, _, rfl, .inr (SqT.of hpt3), _, _, rfl, rfl, by rw [List.length_map]; exact Int.natCast_pos.mpr ppos, _, _, rfl, rfl, _, rfl, ite2 (fun hm => ?_) (fun hm => ?_)⟩
        · have hm0 : 0 < (rs.map (·.2)).count p.2 % p.2.length := by
            have := of_decide_eq_true hm
            rw [cmod] at this
            omega
          refine ⟨_, rfl, .inl ⟨rfl, _, SqL.of hfo3⟩, _, rfl, _, rfl, .inl ⟨rfl, _, SqL.of hro3⟩, _, rfl, ro, _, _, CD.tD p.2, _, rfl, rfl, SqL.of hro3, dp_ts (fun q hq => s03 _ _ (hrs q hq).1), dp_t hpt3, shs, RM.sh_tD (sok p hpm), ?_⟩
          rw [CD.cnt_tD]
          refine ⟨_, rfl, p.1, _, rfl, .inr (SqT.of hpt3), _, _, rfl, rfl, by rw [List.length_map]; exact Int.natCast_pos.mpr ppos, by show 2 ≤ sizeLine; decide, fun T fT => ?_⟩
          have sT := same_new (o := .tup [.ref p.1, .int ((((rs.map (·.2)).count p.2 : Nat) : Int) % (((p.2.map V.str).length : Nat) : Int))]) fT
          have hfoT := sT _ _ hfo3
          refine ⟨fo, _, _, rfl, rfl, hfoT, Nat.lt_of_le_of_lt (by rw [List.length_map]; omega : _ ≤ 2000) (by decide), _, es ++ [⟨T, p.1, (p.2, (rs.map (·.2)).count p.2 % p.2.length)⟩], rfl, ?_, ?_, ?_, ?_⟩
          · rw [upd_same, List.map_append]
            rfl
          · intro e he
            have keep : ∀ {e : Ent}, EntOk (upd H3 T (.tup [.ref p.1, .int ((((rs.map (·.2)).count p.2 : Nat) : Int) % (((p.2.map V.str).length : Nat) : Int))])) e → EntOk (upd (upd H3 T (.tup [.ref p.1, .int ((((rs.map (·.2)).count p.2 : Nat) : Int) % (((p.2.map V.str).length : Nat) : Int))])) fo (.lst ((es.map fun e => V.ref e.pt) ++ [.ref T]))) e := fun h => h.ext fun a ys z => by
              rw [upd_ne (fun q => by rw [q, hfoT] at z; cases z)]
              exact z
            rcases List.mem_append.mp he with he | he
            · exact ⟨keep ((hes3 e he).ext fun a ys z => sT _ _ z), (hes e he).2⟩
            · rw [List.mem_singleton] at he
              subst he
              refine ⟨keep ⟨?_, sT _ _ hpt3⟩, sok p hpm⟩
              rw [upd_same, cmod]
          · rw [List.map_append]
            exact pre.add hz (by rw [names]; exact hin) hm0
          · intro a o z
            rw [upd_ne (ne_of_none z ffo)]
            exact sT _ _ (s03 _ _ z)
        · have hm0 : (rs.map (·.2)).count p.2 % p.2.length = 0 := by
            have : ¬ _ := fun z => hm (decide_eq_true z)
            rw [cmod] at this
            omega
          exact ⟨_, es, rfl, hfo3, hesk, pre.skip0 hz hm0, s03⟩
      · have hl1 : p.2.length = 1 := by
          have : ¬ _ := fun z => hl (decide_eq_true z)
          rw [List.length_map] at this
          omega
        exact ⟨_, es, rfl, hfo3, hesk, pre.skip0 hz (by rw [hl1, Nat.mod_one]), s03⟩
    · rintro σ H2 ⟨v3, es, rfl, hfo, hes, pre, sm⟩
      have am : RM.Amid (rs.map (·.2)) (es.map Ent.p) := by
        have : (rs.map fun p => V.ref p.1).length = (rs.map (·.2)).length := by rw [List.length_map, List.length_map]
        rw [this] at pre
        exact pre.all
      refine ⟨_, rfl, fo, _, es.map fun e => ES.pD e.p, rfl, .inl (SqL.of hfo), dp_ents (fun e he => (hes e he).1), ?_, ?_, ?_, fun sl fsl => ?_⟩
      · intro x hx y hy
        obtain ⟨e, _, rfl⟩ := List.mem_map.mp hx
        obtain ⟨e', _, rfl⟩ := List.mem_map.mp hy
        exact alikeP _ _
      · refine .inl fun x hx => ?_
        obtain ⟨e, _, rfl⟩ := List.mem_map.mp hx
        exact ⟨_, _, rfl⟩
      · intro x hx
        obtain ⟨e, _, rfl⟩ := List.mem_map.mp hx
        exact depthP _
      obtain ⟨gs, eg, pm, pw⟩ := ES.srtE (fun e : Ent => V.ref e.pt) Ent.p es
      rw [eg]
      have ss := same_new (o := .lst (gs.map fun e => V.ref e.pt)) fsl
      exact ⟨sl, _, rfl, .inl ⟨SqL.of upd_same, fun l fl => hQ l _ ((sm.trans ss).trans (same_new fl)) ⟨gs, upd_same, fun e he => ((hes e (pm.mem_iff.mp he)).1).ext fun a ys z => same_new fl _ _ (ss _ _ z), am.of_perm (pm.map _), pw⟩⟩⟩
end
end K30
set_option Elab.async false
set_option linter.all false
set_option maxRecDepth 100000
set_option maxHeartbeats 4000000
/-! KB: what a call by keywords binds, for a def without keyword-only parameters. -/
namespace KW
open PySem PySem.Spec PyProof.Rows L2
section
variable {K : PySem.W.Frag} {x qual : Str} {params : Arguments} {body : List Stmt} {scope : Scope} {dvs : List V} {kws : List (Str × V)} {f : Addr} {fd : FuncData} {ps : List Str}
theorem kb1 (F : FunD K x qual params body scope dvs kws f fd) (n : Nat) (ks : List Str) (g : {α : Type} → List α → List α → List α → List α) (hd : dvs ≠ [])
    (hrel : ∀ {vs ds zs : List V} {us its ws : List Value}, Vals vs us → Vals ds its → Vals zs ws → Vals (g vs ds zs) (g us its ws))
    (h : ∀ (T : Addr) (kV doc pm : Value) (an : Option Addr) (cdv ct : Value) (us its ws : List Value), us.length = n → its.length = dvs.length → ws.length = ks.length →
      ∃ k, bindArgs (PySem.W.fnOf x qual params body scope (.ref T) kV doc pm an cdv ct) ⟨us, ks.zip ws⟩ = seqItems? (.ref T) >>= k ∧ k (some its.toArray) = pure (ps.zip (g us its ws))) :
    ∃ its : List Value, KBn K fd ps n ks (fun us ws => g us its ws) (fun vs zs => g vs dvs zs) := by
  obtain ⟨oc, od, dV, kV, doc, pm, an, cdv, ct, osl, rfl, lk, hcd, hD, hK⟩ := F.ex
  rcases hD with ⟨e, _⟩ | ⟨_, T, o, its, m, rfl, lT, oT, rT⟩
  · exact absurd e hd
  · refine ⟨its, ⟨fun s us ws X l1 l2 => ?_, fun r1 r2 => hrel r1 rT r2⟩⟩
    obtain ⟨k, e1, e2⟩ := h T kV doc pm an cdv ct us its ws l1 rT.length.symm l2
    refine BindsTo.of_looks fun M => ?_
    rw [e1]
    exact looks_items X lT oT (.of_pure e2)
theorem kb0 (F : FunD K x qual params body scope [] kws f fd) (n : Nat) (ks : List Str) (g : {α : Type} → List α → List α → List α)
    (hrel : ∀ {vs zs : List V} {us ws : List Value}, Vals vs us → Vals zs ws → Vals (g vs zs) (g us ws))
    (h : ∀ (kV doc pm : Value) (an : Option Addr) (cdv ct : Value) (us ws : List Value), us.length = n → ws.length = ks.length →
      bindArgs (PySem.W.fnOf x qual params body scope .none kV doc pm an cdv ct) ⟨us, ks.zip ws⟩ = pure (ps.zip (g us ws))) :
    KBn K fd ps n ks (fun us ws => g us ws) (fun vs zs => g vs zs) := by
  obtain ⟨oc, od, dV, kV, doc, pm, an, cdv, ct, osl, rfl, lk, hcd, hD, hK⟩ := F.ex
  rcases hD with ⟨_, rfl⟩ | ⟨e, _⟩
  · exact ⟨fun s us ws X l1 l2 => .of_eq (h kV doc pm an cdv ct us ws l1 l2), fun r1 r2 => hrel r1 r2⟩
  · exact absurd rfl e
end
end KW
set_option Elab.async false
set_option linter.all false
set_option maxRecDepth 100000
set_option maxHeartbeats 4000000
/-! GL: promises of defs that are asked only where no repr is under way (A.guards = some []); what such a def may do more: repr of lists and tuples. -/
namespace GL
open PySem PySem.Spec PyProof.Rows L2
/-- a def's promise, where no repr is under way -/
structure FnG (P : Program) (w : World) (K : PySem.W.Frag) (mg : Str → Option Value) (base : Heap) (k : Nat) (f : Addr) (fd : FuncData) (ps : List Str) (sp : Sp) : Prop where
  len : ∀ vs H Q E, sp vs H Q E → vs.length = ps.length
  run : ∀ (A : Around) (outer : List Env) (s : Shared) (H : Hp) (args : Args) (us : List Value) (vs : List V) (Q : VK) (E : XK), A.guards = some [] → Room k A → Env0 P w K mg base A outer s H → BindsTo s fd args (ps.zip us) → Vals vs us → sp vs H Q E →
    codeAny (model P w) A (.call (.ref f) args) (CR CX0 outer P w H s Q E) s
section
variable {P : Program} {w : World} {K : PySem.W.Frag} {mg : Str → Option Value} {base : Heap} {k : Nat} {f : Addr} {fd : FuncData} {ps : List Str} {sp : Sp}
theorem FnG.of (F : FnOk P w K mg base CX0 k f fd ps sp) : FnG P w K mg base k f fd ps sp := ⟨F.len, fun A outer s H args us vs Q E _ => F.run A outer s H args us vs Q E⟩
/-- by its body -/
theorem okG {x qual : Str} {params : Arguments} {body : List Stmt} {scope : Scope} {dvs : List V} {kws : List (Str × V)} {N : List Str} (F : FunD K x qual params body scope dvs kws f fd) (S : FnScope N ps scope) (len : ∀ vs H Q E, sp vs H Q E → vs.length = ps.length)
    (hbody : ∀ (cdv : Value) (A : Around) (outer : List Env) (s : Shared) (H : Hp) (vs : List V) (Q : VK) (E : XK), A.guards = some [] → Room k (A.deeper (envOfC qual scope s.heap.objs.size f cdv)) → sp vs H Q E →
      ∃ t, PSs (cxOf CX0 P w K mg base N qual scope f cdv A outer s H E) body t ∧ t { nx := fun _ H' => Q .non H', rt := Q } (start N vs) H) : FnG P w K mg base (k + 1) f fd ps sp := by
  refine ⟨len, fun A outer s H args us vs Q E hg hr e0 hb r hsp => ?_⟩
  obtain ⟨oc, od, dV, kV, doc, pm, an, cdv, ct, osl, hfd, lk, hcd, _, _⟩ := F.ex
  subst hfd
  obtain ⟨t, ht, hq⟩ := hbody cdv A outer s H vs Q E hg (hr.deeper _) hsp
  have keep : ∀ b o, base.get? b = some o → s.heap.get? b = some o := fun b o e => (e0.bs b o e).1
  have KX : K.In s.heap := e0.mod.kin.keeps keep
  refine codeAny_call_function hr.depth (KX _ _ lk) rfl S.co S.gen rfl (PySem.W.codeRec_of KX hcd) (hb _ _ _ _ (wpAny_newFunctionEnv_cells S.kind (fun y hy => ?_) fun env he s1 x => ?_))
  · exact (S.par y.1 (List.of_mem_zip hy).1).imp id fun q => ⟨q, PySem.W.cellsFrom_some _ _ _ (.inl q)⟩
  · subst he
    refine ⟨(e0.mod.nolimit.keeps keep).keeps x.toInCall.keep, codeAny_func (wpAny_mono (ht.run [] s1 (start N vs) H _ (inv_start S hr.hd e0 (len _ _ _ _ hsp) r x) hq) (fun fl s' hs => ?_) fun e s' hs => hs)⟩
    match fl, hs with
    | .ret u, ⟨v, σ', H', J, rv, q⟩ => exact ⟨v, H', J.os, J.bare, J.base, J.hok, rv, q⟩
    | .next, ⟨σ', H', J, q⟩ => exact ⟨.non, H', J.os, J.bare, J.base, J.hok, rfl, q⟩
    | .brk, ⟨_, _, _, q⟩ => exact q.elim
    | .cont, ⟨_, _, _, q⟩ => exact q.elim
end
/-- the package of a def of this kind -/
structure CalG (P : Program) (w : World) (K : PySem.W.Frag) (mg : Str → Option Value) (base : Heap) (k : Nat) (x : Str) (sp : Sp) (dvs : List V) : Prop where
  ex : ∃ (f : Addr) (fd : FuncData) (ps : List Str) (ds : List Value), FnG P w K mg base k f fd ps sp ∧ mg x = some (.ref f) ∧ PySem.W.keepIn K (.ref f) = true ∧ Binds K fd ps ds ∧ Vals dvs ds
section
variable {X : Cx} {k j : Nat} {x : Str} {sp : Sp} {dvs : List V} {e : Expr} {es : List Expr} {t : TA} {p pos : Pos}
theorem pe_cG (c : CalG X.prog X.w X.K X.mg X.base k x sp dvs) (hgd : X.A.guards = some []) (hr : Room j X.A) (hk : k ≤ j) (hg : Gl X x) (ha : PA X (e :: es) t)
    (hdb : (x == ("__debug__" : Str)) = false := by decide) (he : starEach (e :: es) X.env = (false, eval e X.env) :: starEach es X.env := by rfl) (hpl : (backTo pos (starEach es X.env)).any (·.1) = false := by rfl) :
    PE X (.Call (.Name x p) (e :: es) [] pos) (tCall sp dvs E0 t) := by
  obtain ⟨f, fd, ps, ds, F, hm, kp, b, d⟩ := c.ex
  refine ⟨fun pins s σ H Q I h => wpAny_Call_Name_kw (ld_glob I hg hm (PySem.W.callWith_K (h₀ := X.base) I.ok.mod.kin kp (thn (ha.run pos pins s σ H _ I h) fun us s1 ⟨vs, H1, I1, r, q⟩ => ⟨I1.kIn, ?_⟩) he hpl) hdb)⟩
  have r2 := r.append d
  refine wpAny_call (codeAny_mono (F.run X.A X.stack s1 H1 ⟨us, []⟩ (us ++ ds) (vs ++ dvs) Q E0 hgd (hr.mono hk) I1.env0 (b s1 us I1.kIn (r2.length.symm.trans (F.len _ _ _ _ q))) r2 q) fun r s' hq => ?_)
  match r, hq with
  | .error _, hq => exact hq.elim
  | .ok (.ret u), hq => exact I1.after hq
  | .ok .next, hq => exact hq.elim
  | .ok .brk, hq => exact hq.elim
  | .ok .cont, hq => exact hq.elim
/-- repr of what is flat, of lists and tuples -/
def rRepr (K : PySem.W.Frag) : List V → Hp → VK → Prop := fun xs H Q => ∃ (y : V) (d : PyData), xs = [y] ∧ Dp K H y d ∧ d.showable = true ∧ d.hasDict = false ∧ d.depth ≤ 60 ∧ d.shown.length ≤ sizeLine ∧ Q (.str d.shown) H
theorem call_reprD (hgd : X.A.guards = some []) (hu : X.A.units + 64 < cLine) : CallR X (.builtin "repr") (rRepr X.K) := by
  intro pins s σ H xs us Q I r h
  obtain ⟨y, d, rfl, hd, hs, hn, hdp, hsz, q⟩ := h
  obtain ⟨u, rfl, ru⟩ := r.one
  obtain ⟨as, rd⟩ := Dp.reads I d y u hd ru
  have fin : ∀ h' tk t, (∀ b o, s.heap.get? b = some o → h'.get? b = some o) → EP X pins σ Q (.str d.shown t) { s with heap := h', toks := tk } := fun h' tk t hk => ⟨.str d.shown, H, I.kept hk, ⟨t, rfl⟩, q⟩
  cases hd with
  | non => cases ru; exact PySem.P.repr_of_none (fin s.heap _ _ fun _ _ e => e)
  | bl b => cases ru; exact PySem.P.repr_of_bool (fin s.heap _ _ fun _ _ e => e)
  | int i =>
    obtain ⟨t, rfl⟩ := ru
    exact PySem.P.repr_of_int (of_decide_eq_true hs) (fin s.heap _ _ fun _ _ e => e)
  | str z =>
    obtain ⟨t, rfl⟩ := ru
    exact PySem.P.repr_of_str (fin s.heap _ _ fun _ _ e => e) hsz
  | lst _ _ =>
    cases ru
    exact repr_of_reads' rd hs (fun z => absurd z (by rw [hn]; decide)) hgd (by omega) (fun _ _ e => e) (fun h' u tk hk => fin h' tk u hk) hsz
  | tup _ _ =>
    cases ru
    exact repr_of_reads' rd hs (fun z => absurd z (by rw [hn]; decide)) hgd (by omega) (fun _ _ e => e) (fun h' u tk hk => fin h' tk u hk) hsz
end
end GL
set_option Elab.async false
set_option linter.all false
set_option maxRecDepth 100000
set_option maxHeartbeats 4000000
/-! GE: a law's end by a promise that is asked only where no repr is under way. -/
namespace GL
open PySem PySem.Spec PyProof.Rows L2
theorem lawG {P : Program} {w : World} {K : PySem.W.Frag} {mg mb : Str → Option Value} {k : Nat} {fa a : Addr} {fd : FuncData} {x : Str} {sp : Sp} {s₁ : Shared} {vs : List Value} {ns : List Int}
    (KX : K.In s₁.heap) (hns : s₁.heap.Ns mainGlobals mg) (hb : s₁.heap.Ns builtinsNs mb) (hbb : ∀ x : Str, x ≠ "__name__" → mb x = bootBuiltins x) (hlim : s₁.heap.NoLimit) (hg : s₁.gens = #[])
    (ha : s₁.heap.get? a = some { cls := .type "list", data := .seq vs.toArray }) (hi : IntsAre vs ns) (hl : ns.length ≤ sizeLine) (hr : Room k callerA)
    (F : ∀ base : Heap, K.In base → base.Ns mainGlobals mg → FnG P w K mg base k fa fd [x] sp) (hbind : ∀ (s : Shared) (u : Value), BindsTo s fd ⟨[u], []⟩ [(x, u)])
    (hsp : ∀ H : Hp, SqL K H a (ns.map V.int) → sp [.ref a] H (fun v _ => v = .bl true) fun _ _ _ => False) :
    codeAny (model P w) callerA (.call (.ref fa) ⟨[.ref a], []⟩) (fun r s' => r = .ok (.ret (.bool true)) ∧ OldK s₁.heap s'.heap ∧ s'.os = s₁.os ∧ AllBare s'.gens) s₁ := by
  -- the script alone is tracked, as it is, or nothing
  have from_ : ∀ H : Hp, SqL K H a (ns.map V.int) → HOk P w H s₁.heap → (∀ b u, H b = some u → b = a ∧ K.lookup a = none ∧ ∃ o xs, u = .frz o (.lst xs)) →
      codeAny (model P w) callerA (.call (.ref fa) ⟨[.ref a], []⟩) (fun r s' => r = .ok (.ret (.bool true)) ∧ OldK s₁.heap s'.heap ∧ s'.os = s₁.os ∧ AllBare s'.gens) s₁ := by
    intro H hS hok hA
    have off : ∀ b, (b = a → K.lookup a ≠ none) → H b = none := fun b n => by
      cases q : H b with
      | none => rfl
      | some u => exact absurd (hA b u q).2.1 (n (hA b u q).1)
    have nsK : ∀ {b : Addr} {m : Str → Option Value}, s₁.heap.Ns b m → (hidT s₁.heap H).Ns b m := by
      rintro b m ⟨o, es, ep, e, d, r⟩
      refine ⟨o, es, ep, hidT_get e (off b fun z => ?_), d, r⟩
      subst z
      rw [ha] at e
      cases e
      cases d
    have inK : K.In (hidT s₁.heap H) := fun b o e => hidT_get (KX b o e) (off b fun z => by rw [← z, e]; simp)
    have hM : Mod K mg (hidT s₁.heap H) := ⟨inK, nsK hns, ⟨mb, nsK hb, hbb⟩, by obtain ⟨mc, h1, h2⟩ := hlim; exact ⟨mc, nsK h1, h2⟩⟩
    have nofr : ∀ b : Addr, b ∉ frs ([] : List Env) := fun b z => nomatch z
    have e0 : Env0 P w K mg (hidT s₁.heap H) callerA [] s₁ H := ⟨rfl, hM, fun b o e => of_hidT e, Nat.le_of_eq (hidT_size _ _), trivial, fun b z => absurd z (nofr b), hok, .of_eq hg⟩
    refine codeAny_mono ((F _ inK (nsK hns)).run callerA [] s₁ H ⟨[.ref a], []⟩ [.ref a] [.ref a] _ _ rfl hr e0 (hbind s₁ (.ref a)) (.cons rfl .nil) (hsp H hS)) fun r s' h => ?_
    match r, h with
    | .error e, h => exact False.elim h
    | .ok .next, h => exact False.elim h
    | .ok .brk, h => exact False.elim h
    | .ok .cont, h => exact False.elim h
    | .ok (.ret u), ⟨v, H', os, bare, un, hok', r', q⟩ =>
      cases (show v = .bl true from q)
      cases (show u = Value.bool true from r')
      refine ⟨rfl, OldK.of_keep fun b o e => ?_, os, bare⟩
      cases q : H b with
      | none => exact un.keep b o e q (nofr b) (by simp)
      | some u =>
        obtain ⟨_, _, ob, xs, rfl⟩ := hA b u q
        have e1 := (hok b _ q).1
        have e2 := (hok' b _ (un.frzs b ob _ q)).1
        rw [e] at e1
        cases e1
        exact e2
  have rv := vals_ints hi
  cases hk : K.lookup a with
  | some o =>
    have e := KX a o hk
    rw [ha] at e
    cases e
    exact from_ (fun _ => none) (.inr ⟨_, vs.toArray, _, hk, rfl, rfl, rfl, by rw [List.size_toArray, hi.length]; exact hl, by simpa using rv⟩) (fun b u z => nomatch z) (fun b u z => nomatch z)
  | none =>
    have at_ : ∀ (b : Addr) (u : HO), (if b = a then some (HO.frz { cls := .type "list", data := .seq vs.toArray } (.lst (ns.map V.int))) else none) = some u → b = a ∧ u = HO.frz { cls := .type "list", data := .seq vs.toArray } (.lst (ns.map V.int)) := fun b u z => by
      by_cases h : b = a
      · rw [if_pos h] at z
        exact ⟨h, (Option.some.inj z).symm⟩
      · rw [if_neg h] at z
        cases z
    refine from_ (fun b => if b = a then some (.frz { cls := .type "list", data := .seq vs.toArray } (.lst (ns.map V.int))) else none) (.inl (.inr ⟨{ cls := .type "list", data := .seq vs.toArray }, if_pos rfl⟩)) (fun b u z => ?_) (fun b u z => ?_)
    · obtain ⟨rfl, rfl⟩ := at_ b u z
      exact ⟨ha, by rw [List.length_map]; exact hl, vs, _, rv, ha⟩
    · obtain ⟨rfl, rfl⟩ := at_ b u z
      exact ⟨rfl, hk, _, _, rfl⟩
/-- a law: F gives the written part, the function object, the promise over every base -/
theorem walkG {l : PySem.W.OpenLaw} {n k : Nat} {q : Program} {loose : List Str} {XP : (Str → Option Value) → Heap → Prop} {YP : World → Heap → Prop} {d : DefRec} {x : Str} (hn : l.most = some n) (hn2 : n ≤ sizeLine) (hdf : d.params.defaults = []) (hr : Room k callerA)
    (F : ∀ (w : World) (mg : Str → Option Value) (fa : Addr) (h : Heap), YP w h → h.Ns mainGlobals mg → mg d.name = some (.ref fa) →
      ∃ (K : PySem.W.Frag) (fd : FuncData) (sp : Sp), K.In h ∧ (∀ (s : Shared) (u : Value), BindsTo s fd ⟨[u], []⟩ [(x, u)]) ∧
        (∀ (H : Hp) (a : Addr) (ns : List Int), ns.length ≤ n → SqL K H a (ns.map V.int) → sp [.ref a] H (fun v _ => v = .bl true) fun _ _ _ => False) ∧
        ∀ base : Heap, K.In base → base.Ns mainGlobals mg → FnG l.prog w K mg base k fa fd [x] sp) : PySem.W.WalkO q loose XP YP l.row.toRowW d [] (fun f vs => PySem.call f vs) := by
  refine Att.attach_call hn hdf fun w s₀ s₁ mg mb fa o pm cd doc a vs ns G Y ho hd hcd hmg hobj hints hlen hg => ?_
  obtain ⟨K, fd, sp, KX, hb, hsp, hF⟩ := F w mg fa _ Y G.T.g hmg
  exact lawG KX G.T.g G.T.b G.T.builtins G.T.nolimit hg hobj hints (Nat.le_trans hlen hn2) hr hF hb fun H hS => hsp H a ns hlen hS
end GL
set_option Elab.async false
set_option linter.all false
set_option maxRecDepth 100000
set_option maxHeartbeats 4000000
/-! RP: repr of a tuple (or list) of few short texts. -/
namespace RP
open PySem PySem.Spec PyProof.Rows L2
theorem allS : ∀ {xs : List Str} {n : Nat}, (∀ x ∈ xs, PyData.strOk x = true ∧ x.length ≤ n) → PyData.showableAll (xs.map .str) = true ∧ PyData.hasDictAll (xs.map .str) = false ∧ PyData.depthAll (xs.map .str) = 0 ∧ PyData.leavesShortAll 8 (xs.map .str) = true ∧ PyData.weightAll (xs.map .str) ≤ (n + 1) * xs.length
  | [], n, _ => ⟨by simp [PyData.showableAll], by simp [PyData.hasDictAll], by simp [PyData.depthAll], by simp [PyData.leavesShortAll], by simp [PyData.weightAll]⟩
  | x :: xs, n, h => by
    obtain ⟨i1, i2, i3, i4, i5⟩ := allS (xs := xs) (n := n) fun y hy => h y (List.mem_cons_of_mem _ hy)
    obtain ⟨hx, hn⟩ := h x List.mem_cons_self
    have hn' : x.cps.size ≤ n := hn
    have hc : x.cps.toList.all (fun c => decide (c < 16 ^ 8)) = true := by
      unfold PyData.strOk at hx
      rw [← Array.all_toList, List.all_eq_true] at hx
      rw [List.all_eq_true]
      intro c hc
      have := of_decide_eq_true (hx c hc)
      exact decide_eq_true (by omega)
    refine ⟨by simp [PyData.showableAll, PyData.showable, i1], by simp [PyData.hasDictAll, PyData.hasDict, i2], by simp [PyData.depthAll, PyData.depth, i3], by simp only [List.map_cons, PyData.leavesShortAll, PyData.leavesShort, i4, hc, Bool.and_self], ?_⟩
    simp only [List.map_cons, PyData.weightAll, PyData.weight, List.length_cons]
    have : (n + 1) * (xs.length + 1) = (n + 1) * xs.length + (n + 1) := by rw [Nat.mul_add, Nat.mul_one]
    omega
theorem tupS {xs : List Str} {n : Nat} (h : ∀ x ∈ xs, PyData.strOk x = true ∧ x.length ≤ n) (hn : 10 * ((n + 1) * xs.length) + 8 ≤ sizeLine) : (PyData.tuple (xs.map .str)).showable = true ∧ (PyData.tuple (xs.map .str)).hasDict = false ∧ (PyData.tuple (xs.map .str)).depth ≤ 60 ∧ (PyData.tuple (xs.map .str)).shown.length ≤ sizeLine := by
  obtain ⟨i1, i2, i3, i4, i5⟩ := allS h
  have hl := PyData.shown_le 8 (Nat.le_refl _) (.tuple (xs.map .str)) (by simp only [PyData.leavesShort]; exact i4)
  refine ⟨by simp only [PyData.showable]; exact i1, by simp only [PyData.hasDict]; exact i2, by simp only [PyData.depth, i3]; decide, Nat.le_trans hl ?_⟩
  simp only [PyData.weight]
  omega
end RP
set_option Elab.async false
set_option linter.all false
set_option maxRecDepth 100000
set_option maxHeartbeats 4000000
namespace K30
open PySem PySem.Spec PyProof.Rows L2
open KM (pr)
open SX (S)
theorem paired_map {α : Type} {R : Addr → Key × V → Prop} {g : α → Addr} {k : α → Key × V} : ∀ {l : List α}, (∀ x ∈ l, R (g x) (k x)) → Paired R (l.map g) (l.map k)
  | [], _ => .nil
  | x :: l, h => .cons (h x List.mem_cons_self) (paired_map fun y hy => h y (List.mem_cons_of_mem _ hy))
/-- all is kept but what stands in a list -/
def Xk (Z : List Addr) (H H' : Hp) : Prop := ∀ a o, H a = some o → a ∉ Z → H' a = some o
/-- where the law's things stand -/
structure Ad where
  CT : Addr
  h : Addr
  tu : Addr
  rt : Addr
  ot : Addr
  ps : Addr
  ro : Addr
  dl : Addr
def Ad.Z (a : Ad) : List Addr := [a.h, a.tu, a.ps, a.ro, a.dl]
/-- days that stand -/
def Some30 (H : Hp) (Z : List Addr) (xs : List Str) (so : Addr) (ds : List (Addr × List Str)) : Prop := H so = some (.lst (ds.map fun p => V.ref p.1)) ∧ so ∉ Z ∧ ∀ p ∈ ds, H p.1 = some (.lst (p.2.map V.str)) ∧ DayOk xs p.2 ∧ p.1 ∉ Z
theorem Some30.xk {H H' : Hp} {Z : List Addr} {xs : List Str} {so : Addr} {ds : List (Addr × List Str)} (s : Some30 H Z xs so ds) (k : Xk Z H H') : Some30 H' Z xs so ds := ⟨k _ _ s.1 s.2.1, s.2.1, fun p hp => ⟨k _ _ (s.2.2 p hp).1 (s.2.2 p hp).2.2, (s.2.2 p hp).2⟩⟩
theorem Some30.same {H H' : Hp} {Z : List Addr} {xs : List Str} {so : Addr} {ds : List (Addr × List Str)} (s : Some30 H Z xs so ds) (k : Same H H') : Some30 H' Z xs so ds := s.xk fun a o e _ => k a o e
theorem Some30.kp {H H' : Hp} {a : Ad} {xs : List Str} {so : Addr} {ds : List (Addr × List Str)} (s : Some30 H a.Z xs so ds) (k : Kp a.h H H') : Some30 H' a.Z xs so ds := s.xk fun b o e nz => k.1 _ _ e fun z => nz (by rw [z]; unfold Ad.Z; exact List.mem_cons_self)
/-- what stands while the law goes -/
structure M0 (a : Ad) (xs : List Str) (g : Int) (hd kp d : Addr) (c : Str → Int) (rs : List (Addr × List Str)) (drs : List Str) (n : Nat) (H : Hp) : Prop where
  held : Held H a.h n
  rl : LeastR H a.rt a.ot xs g
  tr : Tr a.CT H a.tu a.rt hd kp a.ps
  ch : Crd H hd xs c
  ck : KeptX (rs.map (·.2)) H kp
  pa : H a.ps = some (.lst (drs.map V.str))
  ro : Rode H xs a.ro rs
  dr : H a.dl = some (.lst (drs.map V.str))
  du : Due H d xs c
  dz : d ∉ a.Z
  ll : rs.length = drs.length
  ce : Cel a.h a.ps H ∧ Cel a.h a.ro H ∧ Cel a.h a.dl H
  zn : a.Z.Nodup
section
variable {a : Ad} {xs : List Str} {g : Int} {hd kp d so hd' kp' d' : Addr} {c c' : Str → Int} {ds rs rs' : List (Addr × List Str)} {drs drs' : List Str} {n n' : Nat} {H H' : Hp}
theorem M0.cases (m : M0 a xs g hd kp d c rs drs n H) {x : Addr} (z : x ∈ a.Z) : (∃ o, H x = some o) ∧ ∀ ys, H x ≠ some (.tup ys) := by
  obtain ⟨l, ns, p, q, h1, _⟩ := m.held
  obtain ⟨dx, h2⟩ := m.tr
  have h3 := m.pa
  have h4 := m.ro.1
  have h5 := m.dr
  unfold Ad.Z at z
  simp only [List.mem_cons, List.not_mem_nil, or_false] at z
  rcases z with q | q | q | q | q <;> subst q
  · exact ⟨⟨_, h1⟩, fun ys e => by rw [h1] at e; cases e⟩
  · exact ⟨⟨_, h2⟩, fun ys e => by rw [h2] at e; cases e⟩
  · exact ⟨⟨_, h3⟩, fun ys e => by rw [h3] at e; cases e⟩
  · exact ⟨⟨_, h4⟩, fun ys e => by rw [h4] at e; cases e⟩
  · exact ⟨⟨_, h5⟩, fun ys e => by rw [h5] at e; cases e⟩
theorem M0.notin (m : M0 a xs g hd kp d c rs drs n H) {x : Addr} (e : H x = none) : x ∉ a.Z := fun z => by
  obtain ⟨⟨o, h⟩, _⟩ := m.cases z
  rw [e] at h
  cases h
theorem M0.nt (m : M0 a xs g hd kp d c rs drs n H) (x : Addr) (ys : List V) (e : H x = some (.tup ys)) : x ∉ a.Z := fun z => (m.cases z).2 ys e
theorem M0.ne (m : M0 a xs g hd kp d c rs drs n H) : a.h ≠ a.tu ∧ a.h ≠ a.ps ∧ a.h ≠ a.ro ∧ a.h ≠ a.dl ∧ a.tu ≠ a.ps ∧ a.tu ≠ a.ro ∧ a.tu ≠ a.dl ∧ a.ps ≠ a.ro ∧ a.ps ≠ a.dl ∧ a.ro ≠ a.dl := by
  have := m.zn
  unfold Ad.Z at this
  simp only [List.nodup_cons, List.mem_cons, List.not_mem_nil, or_false, not_or] at this
  obtain ⟨⟨h1, h2, h3, h4⟩, ⟨h6, h7, h8⟩, ⟨h10, h11⟩, h13, _⟩ := this
  exact ⟨h1, h2, h3, h4, h6, h7, h8, h10, h11, h13⟩
theorem M0.mv (m : M0 a xs g hd kp d c rs drs n H) (k : Xk a.Z H H') (held : Held H' a.h n') (tr : Tr a.CT H' a.tu a.rt hd' kp' a.ps) (ch : Crd H' hd' xs c') (ck : KeptX (rs'.map (·.2)) H' kp') (pa : H' a.ps = some (.lst (drs'.map V.str)))
    (ro : Rode H' xs a.ro rs') (dr : H' a.dl = some (.lst (drs'.map V.str))) (du : Due H' d' xs c') (dz : d' ∉ a.Z) (ll : rs'.length = drs'.length) (ce : Cel a.h a.ps H' ∧ Cel a.h a.ro H' ∧ Cel a.h a.dl H') : M0 a xs g hd' kp' d' c' rs' drs' n' H' :=
  ⟨held, m.rl.ext fun b ys e => k _ _ e (m.nt _ _ e), tr, ch, ck, pa, ro, dr, du, dz, ll, ce, m.zn⟩
theorem Due.xz {Z : List Addr} (u : Due H d xs c) (k : Xk Z H H') (nd : d ∉ Z) (nt : ∀ a ys, H a = some (.tup ys) → a ∉ Z) : Due H' d xs c := by
  obtain ⟨ad, e, v⟩ := u
  exact ⟨ad, k _ _ e nd, fun x hx => k _ _ (v x hx) (nt _ _ (v x hx))⟩
theorem M0.kept (m : M0 a xs g hd kp d c rs drs n H) (k : Kp a.h H H') (hh : Held H' a.h n') : M0 a xs g hd kp d c rs drs n' H' := by
  obtain ⟨n1, n2, n3, n4, _⟩ := m.ne
  have kx : Xk a.Z H H' := fun b o e nz => k.1 _ _ e fun z => nz (by rw [z]; unfold Ad.Z; exact List.mem_cons_self)
  have tk : ∀ {b : Addr} {ys : List V}, H b = some (.tup ys) → H' b = some (.tup ys) := fun e => kx _ _ e (m.nt _ _ e)
  obtain ⟨dx, e⟩ := m.tr
  exact m.mv kx hh ⟨dx, k.1 _ _ e n1.symm⟩ (tk m.ch) (m.ck.ext fun b ys e => tk e) (k.1 _ _ m.pa n2.symm) ⟨k.1 _ _ m.ro.1 n3.symm, fun p hp => ⟨tk (m.ro.2 p hp).1, (m.ro.2 p hp).2⟩⟩ (k.1 _ _ m.dr n4.symm) (m.du.xz kx m.dz m.nt) m.dz m.ll
    ⟨m.ce.1.kp k, m.ce.2.1.kp k, m.ce.2.2.kp k⟩
theorem M0.same (m : M0 a xs g hd kp d c rs drs n H) (s : Same H H') : M0 a xs g hd kp d c rs drs n H' := m.kept (Kp.same s) (m.held.same s)
theorem M0.weak (m : M0 a xs g hd kp d c rs drs n H) (le : n' ≤ n) : M0 a xs g hd kp d c rs drs n' H := m.kept (Kp.refl a.h H) (m.held.weak le)
theorem M0.due (m : M0 a xs g hd kp d c rs drs n H) (s : Same H H') (f : H d' = none) (u : Due H' d' xs c) : M0 a xs g hd kp d' c rs drs n H' := by
  have m' := m.same s
  exact ⟨m'.held, m'.rl, m'.tr, m'.ch, m'.ck, m'.pa, m'.ro, m'.dr, u, m.notin f, m'.ll, m'.ce, m'.zn⟩
/-- one more day; what is due follows -/
theorem M0.ride {nt : Addr} {R : List Str} {y : Str} {H3 : Hp} (m : M0 a xs g hd kp d c rs drs n H) (hnt : H nt = some (.tup ((fs xs R).map V.str))) (dy : DayOk xs R) (k3 : KpT a.tu a.ps H H3) (tr : Tr a.CT H3 a.tu a.rt hd' kp' a.ps) (ch : Crd H3 hd' xs (nxt R y c)) (ck : KeptX (rs.map (·.2) ++ [fs xs R]) H3 kp')
    (pa : H3 a.ps = some (.lst (drs.map V.str ++ [.str y]))) : Xk a.Z H (upd (upd H3 a.ro (.lst ((rs.map fun p => V.ref p.1) ++ [.ref nt]))) a.dl (.lst (drs.map V.str ++ [.str y]))) ∧ H3 a.ro = some (.lst (rs.map fun p => V.ref p.1)) ∧ (upd H3 a.ro (.lst ((rs.map fun p => V.ref p.1) ++ [.ref nt]))) a.dl = some (.lst (drs.map V.str)) ∧
    ∀ (d' : Addr) (H' : Hp), Same (upd (upd H3 a.ro (.lst ((rs.map fun p => V.ref p.1) ++ [.ref nt]))) a.dl (.lst (drs.map V.str ++ [.str y]))) H' → (upd (upd H3 a.ro (.lst ((rs.map fun p => V.ref p.1) ++ [.ref nt]))) a.dl (.lst (drs.map V.str ++ [.str y]))) d' = none → Due H' d' xs (nxt R y c) →
      M0 a xs g hd' kp' d' (nxt R y c) (rs ++ [(nt, fs xs R)]) (drs ++ [y]) n H' := by
  obtain ⟨n1, n2, n3, n4, n5, n6, n7, n8, n9, n10⟩ := m.ne
  have keep : ∀ b o, H b = some o → b ≠ a.tu → b ≠ a.ps → H3 b = some o := k3
  have hro := keep _ _ m.ro.1 n6.symm n8.symm
  have hdl := keep _ _ m.dr n7.symm n9.symm
  obtain ⟨l, ns, p, q, h1, h2, h34⟩ := m.held
  have hh3 := keep _ _ h1 n1 n2
  have nlt : l ≠ a.tu := fun z => by
    obtain ⟨dx, e⟩ := m.tr
    rw [z, e] at h2
    cases h2
  have lcel : ∀ {D : Addr}, Cel a.h D H → l ≠ D := fun x => by
    obtain ⟨la, n0, m0, c1, c2, _⟩ := x
    rw [h1] at c1
    rw [hd_inj (Option.some.inj c1)]
    exact c2
  have held3 : Held H3 a.h n := ⟨l, ns, p, q, hh3, keep _ _ h2 nlt (lcel m.ce.1), h34⟩
  have cel3 : ∀ {D : Addr}, Cel a.h D H → Cel a.h D H3 := fun x => ⟨l, p, q, hh3, lcel x, x.ne.symm⟩
  have kx : Xk a.Z H (upd (upd H3 a.ro (.lst ((rs.map fun p => V.ref p.1) ++ [.ref nt]))) a.dl (.lst (drs.map V.str ++ [.str y]))) := fun b o e nz => by
    rw [upd_ne fun z => nz (by rw [z]; unfold Ad.Z; simp), upd_ne fun z => nz (by rw [z]; unfold Ad.Z; simp)]
    exact keep _ _ e (fun z => nz (by rw [z]; unfold Ad.Z; simp)) (fun z => nz (by rw [z]; unfold Ad.Z; simp))
  have up : ∀ {b : Addr} {o : HO}, H3 b = some o → b ≠ a.ro → b ≠ a.dl → (upd (upd H3 a.ro (.lst ((rs.map fun p => V.ref p.1) ++ [.ref nt]))) a.dl (.lst (drs.map V.str ++ [.str y]))) b = some o := fun e z1 z2 => by
    rw [upd_ne z2, upd_ne z1]
    exact e
  have tk : ∀ {b : Addr} {ys : List V}, H3 b = some (.tup ys) → (upd (upd H3 a.ro (.lst ((rs.map fun p => V.ref p.1) ++ [.ref nt]))) a.dl (.lst (drs.map V.str ++ [.str y]))) b = some (.tup ys) := fun e => up e (fun z => by rw [z, hro] at e; cases e) (fun z => by rw [z, hdl] at e; cases e)
  have hdl4 : (upd H3 a.ro (.lst ((rs.map fun p => V.ref p.1) ++ [.ref nt]))) a.dl = some (.lst (drs.map V.str)) := by rw [upd_ne n10.symm]; exact hdl
  refine ⟨kx, hro, hdl4, fun d' H' s' f' u' => ?_⟩
  obtain ⟨dx, et⟩ := tr
  have held4 := held3.put (o := .lst ((rs.map fun p => V.ref p.1) ++ [.ref nt])) (cel3 m.ce.2.1)
  have cs : ∀ {D : Addr}, Cel a.h D H → Cel a.h D H' := fun x => (((cel3 x).put n3).put n4).kp (Kp.same s')
  refine m.mv (fun b o e nz => s' _ _ (kx b o e nz)) ((held4.put ((cel3 m.ce.2.2).put n3)).same s') ⟨dx, s' _ _ (up et n6 n7)⟩ (s' _ _ (tk ch)) ?_ ?_ ⟨?_, ?_⟩ ?_ u' (fun z => ?_) (by rw [List.length_append, List.length_append, m.ll]; rfl) ⟨cs m.ce.1, cs m.ce.2.1, cs m.ce.2.2⟩
  · rw [List.map_append]
    exact ck.ext fun b ys e => s' _ _ (tk e)
  · rw [s' _ _ (up pa n8 n9), List.map_append]
    rfl
  · rw [s' _ _ (show _ = some (.lst ((rs.map fun p => V.ref p.1) ++ [.ref nt])) by rw [upd_ne n10, upd_same]), List.map_append]
    rfl
  · intro p hp
    rcases List.mem_append.mp hp with q | q
    · exact ⟨s' _ _ (kx _ _ (m.ro.2 p q).1 (m.nt _ _ (m.ro.2 p q).1)), (m.ro.2 p q).2⟩
    · rw [List.mem_singleton] at q
      subst q
      exact ⟨s' _ _ (kx _ _ hnt (m.nt _ _ hnt)), fs_ne dy, fun x hx => (List.mem_filter.mp hx).1, Nat.le_trans (List.length_filter_le _ _) m.rl.2.2.1.l8⟩
  · rw [s' _ _ upd_same, List.map_append]
    rfl
  · unfold Ad.Z at z
    simp only [List.mem_cons, List.not_mem_nil, or_false] at z
    rcases z with q | q | q | q | q <;> subst q
    · rw [up hh3 n3 n4] at f'; cases f'
    · rw [up et n6 n7] at f'; cases f'
    · rw [up pa n8 n9] at f'; cases f'
    · rw [upd_ne n10, upd_same] at f'; cases f'
    · rw [upd_same] at f'; cases f'
end
theorem S_inj {a b : List Nat} (h : S a = S b) : a = b := by
  have := congrArg (fun s : Str => s.cps.toList) h
  simpa [S] using this
theorem ord_of {zs : List (List Nat)} (h0 : 0 < zs.length) (h8 : zs.length ≤ 8) (ok : ∀ z ∈ zs, NM.ok z) (pw : zs.Pairwise (· ≠ ·)) : Ord (zs.map S) := by
  refine ⟨List.ne_nil_of_length_pos (by rw [List.length_map]; exact h0), by rw [List.length_map]; exact h8, ?_, fun x hx => ?_⟩
  · exact List.pairwise_map.mpr (pw.imp fun h e => h (S_inj e))
  · obtain ⟨z, hz, rfl⟩ := List.mem_map.mp hx
    exact ⟨z, rfl, ok z hz⟩
end K30
set_option Elab.async false
set_option linter.all false
set_option maxRecDepth 100000
set_option maxHeartbeats 4000000
/-! xs[::s] of a list, s an expression that tells 1 or -1 -/
namespace SLS
open PySem PySem.Spec PyProof.Rows L2
def stepped (s : Int) (xs : List V) : List V := if s = 1 then xs else xs.reverse
def tStepL (K : PySem.W.Frag) (te ts : TE) : TE := fun σ H Q => te σ H fun x H1 => tPart ts σ H1 fun o H2 => ∃ a xs k, x = .ref a ∧ o = some k ∧ (k = 1 ∨ k = -1) ∧ SqL K H2 a xs ∧ ∀ p, H2 p = none → Q (.ref p) (upd H2 p (.lst (stepped k xs)))
theorem pick_one (items : Array Value) : slicePick items none none (some 1) = items := by
  have e : slicePick items none none (some 1) = slicePick items none none none := by
    unfold slicePick
    rfl
  rw [e, slicePick_all]
theorem pe_stepL {X : Cx} {e st : Expr} {te ts : TE} {p3 pos : Pos} (he : PE X e te) (hs : PE X st ts) : PE X (.Subscript e (.Slice none none (some st) p3) pos) (tStepL X.K te ts) := by
  refine ⟨fun pins s σ H Q I h => ?_⟩
  refine Subscript_ (thn (he.run pins s σ H _ I h) fun v s1 ⟨x, H1, I1, r1, q1⟩ => ?_)
  refine wpAny_Slice (thn (po_none.run pins s1 σ H1 (fun o H2 => o = none ∧ H2 = H1) I1 ⟨rfl, rfl⟩) fun vl s2 ⟨l, H2, I2, pl, el, e2⟩ => ?_)
  subst el e2
  refine thn (po_none.run pins s2 σ _ (fun o H3 => o = none ∧ H3 = H2) I2 ⟨rfl, rfl⟩) fun vu s3 ⟨u, H3, I3, pu, eu, e3⟩ => ?_
  subst eu e3
  refine thn ((po_some hs).run pins s3 σ H3 _ I3 q1) fun vs s4 ⟨o, H4, I4, ps, a, xs, k, ex, eo, k1, hx, q⟩ => ?_
  subst ex eo
  cases r1
  have I5 : Inv X pins σ H4 { s4 with heap := s4.heap.push { cls := .type "slice", data := .fields #[vl, vu, vs] } } := I4.kept (t' := s4.toks) fun b ob q => Heap.get?_push_of_some _ q
  obtain ⟨its, r, ht, hz⟩ := I5.list hx
  have hlen := r.length
  show wpAny (model X.prog X.w) X.A (subscriptTail e (.Slice none none (some st) p3) (.ref a) (.ref s4.heap.objs.size)) (EP X pins σ Q) X.xe { s4 with heap := s4.heap.push { cls := .type "slice", data := .fields #[vl, vu, vs] } }
  refine tail_any (ops := [.ref a, .ref s4.heap.objs.size]) ht.isList.typeIs (PySem.slot_list_getitem.lookup) ?_ (by with_unfolding_all rfl)
  refine wpAny_getItem_list_slice ht.isList (Heap.IsSliceOf.new _ vl vu vs) pl pu ps (by rcases k1 with rfl | rfl <;> decide) ?_ (by rw [List.size_toArray]; omega)
  rcases k1 with rfl | rfl
  · rw [pick_one]
    refine ⟨.ref _, _, I5.laid (t' := s4.toks) (o := .lst (stepped 1 xs)) (fun b ob q => Heap.get?_push_of_some _ q) (Nat.le_refl _) ?_, rfl, q _ (I5.hok.fresh (Nat.le_refl _))⟩
    exact ⟨hz, _, 0, r, Heap.get?_push_size _ rfl⟩
  · rw [PySem.W.krv_pick]
    refine ⟨.ref _, _, I5.laid (t' := s4.toks) (o := .lst (stepped (-1) xs)) (fun b ob q => Heap.get?_push_of_some _ q) (Nat.le_refl _) ?_, rfl, q _ (I5.hok.fresh (Nat.le_refl _))⟩
    have e : stepped (-1) xs = xs.reverse := if_neg (by decide)
    rw [e]
    exact ⟨by rw [List.length_reverse]; exact hz, _, 0, r.reverse, Heap.get?_push_size _ rfl⟩
end SLS
set_option Elab.async false
set_option linter.all false
set_option maxRecDepth 100000
set_option maxHeartbeats 4000000
/-! SD: small data (short texts, ints below a million and a bit, lists and tuples of such): what repr and == ask of it. -/
namespace SD
open PySem PySem.Spec PyProof.Rows L2
/-- small: its weight at most n, its depth at most k -/
structure Sm (n k : Nat) (d : PyData) : Prop where
  sh : d.showable = true
  nd : d.hasDict = false
  dp : d.depth ≤ k
  ls : d.leavesShort 13 = true
  wt : d.weight ≤ n
  cl : d.canLay0 = true
structure SmA (n k : Nat) (ds : List PyData) : Prop where
  sh : PyData.showableAll ds = true
  nd : PyData.hasDictAll ds = false
  dp : PyData.depthAll ds ≤ k
  ls : PyData.leavesShortAll 13 ds = true
  wt : PyData.weightAll ds ≤ n
  cl : PyData.canLayAll0 ds = true
theorem Sm.mono {n n' k k' : Nat} {d : PyData} (h : Sm n k d) (hn : n ≤ n') (hk : k ≤ k') : Sm n' k' d := ⟨h.sh, h.nd, Nat.le_trans h.dp hk, h.ls, Nat.le_trans h.wt hn, h.cl⟩
theorem SmA.mono {n n' k k' : Nat} {ds : List PyData} (h : SmA n k ds) (hn : n ≤ n') (hk : k ≤ k') : SmA n' k' ds := ⟨h.sh, h.nd, Nat.le_trans h.dp hk, h.ls, Nat.le_trans h.wt hn, h.cl⟩
theorem Sm.int {i : Int} (h : i.natAbs < 2 ^ 20) : Sm 20 0 (.int i) := by
  have h1 : i.natAbs.log2 < 20 := by
    by_cases z : i.natAbs = 0
    · rw [z]; decide
    · exact (Nat.log2_lt z).mpr h
  refine ⟨by simp only [PyData.showable]; exact decide_eq_true (by omega), by simp only [PyData.hasDict], by simp only [PyData.depth]; omega, ?_, ?_, by simp only [PyData.canLay0]⟩
  · simp only [PyData.leavesShort]
    exact decide_eq_true (PyData.shown_int_le (Nat.lt_of_lt_of_le h (by decide)))
  · simp only [PyData.weight]
    split <;> omega
theorem Sm.str {x : Str} {n : Nat} (h : PyData.strOk x = true) (hn : x.length ≤ n) : Sm n 0 (.str x) := by
  have hn' : x.cps.size ≤ n := hn
  have hc : x.cps.toList.all (fun c => decide (c < 16 ^ 8)) = true := by
    unfold PyData.strOk at h
    rw [← Array.all_toList, List.all_eq_true] at h
    rw [List.all_eq_true]
    intro c hc
    have := of_decide_eq_true (h c hc)
    exact decide_eq_true (by omega)
  exact ⟨by simp only [PyData.showable], by simp only [PyData.hasDict], by simp only [PyData.depth]; omega, by simp only [PyData.leavesShort]; exact hc, by simp only [PyData.weight]; exact hn', by simp only [PyData.canLay0]; exact h⟩
theorem SmA.nil {k : Nat} : SmA 0 k [] := ⟨by simp only [PyData.showableAll], by simp only [PyData.hasDictAll], by simp only [PyData.depthAll]; omega, by simp only [PyData.leavesShortAll], by simp only [PyData.weightAll]; omega, by simp only [PyData.canLayAll0]⟩
theorem SmA.cons {n m k : Nat} {d : PyData} {ds : List PyData} (a : Sm n k d) (b : SmA m k ds) : SmA (n + 1 + m) k (d :: ds) := by
  refine ⟨by simp only [PyData.showableAll, a.sh, b.sh, Bool.and_self], by simp only [PyData.hasDictAll, a.nd, b.nd, Bool.or_self], ?_, by simp only [PyData.leavesShortAll, a.ls, b.ls, Bool.and_self], ?_, by simp only [PyData.canLayAll0, a.cl, b.cl, Bool.and_self]⟩
  · simp only [PyData.depthAll]
    have := a.dp
    have := b.dp
    omega
  · simp only [PyData.weightAll]
    have := a.wt
    have := b.wt
    omega
theorem SmA.map {α : Type} {n k : Nat} {g : α → PyData} : ∀ {xs : List α}, (∀ x ∈ xs, Sm n k (g x)) → SmA ((n + 1) * xs.length) k (xs.map g)
  | [], _ => SmA.nil.mono (Nat.zero_le _) (Nat.le_refl _)
  | x :: xs, h => by
    refine (SmA.cons (h x List.mem_cons_self) (SmA.map fun y hy => h y (List.mem_cons_of_mem _ hy))).mono ?_ (Nat.le_refl _)
    rw [List.length_cons, Nat.mul_add]
    omega
theorem Sm.lst {n k : Nat} {ds : List PyData} (a : SmA n k ds) : Sm n (k + 1) (.list ds) :=
  ⟨by simp only [PyData.showable]; exact a.sh, by simp only [PyData.hasDict]; exact a.nd, by simp only [PyData.depth]; have := a.dp; omega, by simp only [PyData.leavesShort]; exact a.ls, by simp only [PyData.weight]; exact a.wt, by simp only [PyData.canLay0]; exact a.cl⟩
theorem Sm.tup {n k : Nat} {ds : List PyData} (a : SmA n k ds) : Sm n (k + 1) (.tuple ds) :=
  ⟨by simp only [PyData.showable]; exact a.sh, by simp only [PyData.hasDict]; exact a.nd, by simp only [PyData.depth]; have := a.dp; omega, by simp only [PyData.leavesShort]; exact a.ls, by simp only [PyData.weight]; exact a.wt, by simp only [PyData.canLay0]; exact a.cl⟩
theorem Sm.shown {n k : Nat} {d : PyData} (a : Sm n k d) (h : 15 * n + 13 ≤ sizeLine) : d.shown.length ≤ sizeLine := by
  have := PyData.shown_le 13 (by decide) d a.ls
  have := a.wt
  omega
theorem Sm.shaped {n k : Nat} {d : PyData} (a : Sm n k d) (h : k ≤ 64) : SeqAt.shaped d = true := by
  simp only [SeqAt.shaped, a.cl, Bool.true_and]
  exact decide_eq_true (Nat.le_trans a.dp h)
theorem Sm.same {n k : Nat} {d : PyData} (a : Sm n k d) : PyData.eqv d d = true := PySem.SeqAt.eqv_refl d a.cl
theorem Sm.four {n k : Nat} {d : PyData} (a : Sm n k d) (hn : 15 * n + 13 ≤ sizeLine) (hk : k ≤ 60) : d.showable = true ∧ d.hasDict = false ∧ d.depth ≤ 60 ∧ d.shown.length ≤ sizeLine :=
  ⟨a.sh, a.nd, Nat.le_trans a.dp hk, a.shown hn⟩
end SD
set_option Elab.async false
set_option linter.all false
set_option maxRecDepth 100000
set_option maxHeartbeats 4000000
namespace K30
open PySem PySem.Spec PyProof.Rows L2
open C8 (Cal Mak Met pe_c pe_mk pe_mt pe_mt0)
open KM (pr)
open SX (S)
theorem nxt_small {R : List Str} {y : Str} {c : Str → Int} {i : Nat} (h1 : 1 ≤ R.length) (h8 : R.length ≤ 8) (h : ∀ x, (c x).natAbs ≤ 1000 * i) (x : Str) : (nxt R y c x).natAbs ≤ 1000 * (i + 1) := by
  have := h x
  obtain ⟨f0, f1⟩ := fd_small (k := (R.length : Int)) (by omega) (by omega)
  unfold nxt
  split <;> split <;> omega
theorem ne_same (v : V) : (!decide (v = v)) = false := by simp
theorem pr0 : pr (rt 0) = (0, 1) := by
  unfold rt
  rw [Rat.zero_divInt]
  rfl
theorem at_drv {rode : List (List Str)} {xs R : List Str} {y : Str} (h : Drv rode xs R y) : atI ((fs xs R).map V.str) (((rode.count (fs xs R) : Nat) : Int) % ((((fs xs R).map V.str).length : Nat) : Int)) = some (.str y) := by
  have e : (((rode.count (fs xs R) : Nat) : Int) % ((((fs xs R).map V.str).length : Nat) : Int)) = ((rode.count (fs xs R) % (fs xs R).length : Nat) : Int) := by
    rw [List.length_map]
    push_cast
    rfl
  rw [e]
  exact atI_nat (by rw [List.getElem?_map, h]; rfl)
theorem Drv.ex {rode : List (List Str)} {xs R : List Str} (dy : DayOk xs R) : ∃ y, Drv rode xs R y := ⟨_, List.getElem?_eq_getElem (Nat.mod_lt _ (fs_pos dy))⟩
theorem sh_ro {H : Hp} {xs : List Str} {ro : Addr} {rs : List (Addr × List Str)} (ox : Ord xs) (m : Rode H xs ro rs) : SeqAt.shaped (.list ((rs.map (·.2)).map CD.tD)) = true := RM.sh_tDs fun ns hns x hx => by
  obtain ⟨q, hq, rfl⟩ := List.mem_map.mp hns
  exact ox.sok x ((m.2 q hq).2.2.1 x hx)
theorem sh_fs {xs R : List Str} (ox : Ord xs) : SeqAt.shaped (CD.tD (fs xs R)) = true := RM.sh_tD fun x hx => ox.sok x (List.mem_filter.mp hx).1
theorem pos_fs {xs R : List Str} (dy : DayOk xs R) : (0 : Int) < ((((fs xs R).map V.str).length : Nat) : Int) := by
  rw [List.length_map]
  exact Int.natCast_pos.mpr (fs_pos dy)
/-- what repr asks of what is remembered -/
theorem rp_mem {xs : List Str} {rs : List (Addr × List Str)} {H : Hp} {ro : Addr} (ox : Ord xs) (m : Rode H xs ro rs) (l1 : rs.length ≤ 1000) {Q : List RM.Pr} (am : RM.Amid (rs.map (·.2)) Q) :
    (PyData.tuple (Q.map ES.pD)).showable = true ∧ (PyData.tuple (Q.map ES.pD)).hasDict = false ∧ (PyData.tuple (Q.map ES.pD)).depth ≤ 60 ∧ (PyData.tuple (Q.map ES.pD)).shown.length ≤ sizeLine := by
  have each : ∀ q ∈ Q, SD.Sm 100 2 (ES.pD q) := fun q hq => by
    obtain ⟨h1, h2, h3⟩ := (am.mem q.1 q.2).mp hq
    obtain ⟨p, hp, e⟩ := List.mem_map.mp h1
    obtain ⟨_, ne, sub, l8⟩ := m.2 p hp
    have e : p.2 = q.1 := e
    have a1 : SD.SmA 72 0 (q.1.map PyData.str) := (SD.SmA.map (n := 8) (k := 0) (g := PyData.str) fun x hx => by
      have hx' : x ∈ xs := sub x (by rw [e]; exact hx)
      refine SD.Sm.str (ox.sok x hx') ?_
      obtain ⟨l, rfl, hl⟩ := ox.nm x hx'
      rw [SX.S_len]
      exact hl.2.1).mono (by rw [← e]; omega) (Nat.le_refl _)
    have lt : q.2 < 8 := by
      rw [h2, ← e]
      exact Nat.lt_of_lt_of_le (Nat.mod_lt _ (List.length_pos_iff.mpr ne)) l8
    have a2 : SD.Sm 20 1 (.int (q.2 : Nat)) := (SD.Sm.int (by omega)).mono (Nat.le_refl _) (by decide)
    exact (SD.Sm.tup (SD.SmA.cons (SD.Sm.tup a1) (SD.SmA.cons a2 SD.SmA.nil))).mono (by decide) (by decide)
  have ql : Q.length ≤ 1000 := by
    have := am.ln
    rw [List.length_map] at this
    omega
  have a := ((SD.Sm.tup (SD.SmA.map each)).mono (n' := 101000) (k' := 3) (by omega) (Nat.le_refl _))
  exact a.four (by have := sizeLine_eq; omega) (by decide)
section
variable {P : Program} {w : World} {K : PySem.W.Frag} {mg : Str → Option Value} {base : Heap} {f C CT : Addr} {fd : FuncData}
def spLaw (K : PySem.W.Frag) : Sp := fun vs H Q _ => ∃ (a : Addr) (ns : List Int), vs = [.ref a] ∧ SqL K H a (ns.map V.int) ∧ ns.length ≤ 63 ∧ ∀ H', Q (.bl true) H'
theorem ok_law (F : Dn K d_law f fd) (bl : Bl mg) (b2 : Bl2 mg) (b3 : Bl3 mg) (brep : mg "repr" = none) (cH : Cal P w K mg base 1 "_law_held" (spHeld K) []) (cD : CalD P w K mg base) (cNm : Cal P w K mg base 2 "_law_names" spNames []) (cDy : Cal P w K mg base 2 "_law_day" spDay []) (cG : Cal P w K mg base 3 "_law_gone" spGo []) (cS : Cal P w K mg base 5 "_law_stands_right" (spSR C CT) []) (cMm : Cal P w K mg base 1 "_law_memory" spMm [])
    (MT : Mak P w K mg base 4 "Turns" CT (spTi CT) []) (mW : Met P w K mg base 3 CT "who" (spWho CT) []) (mR : Met P w K mg base 4 CT "ride" (spRide CT) []) (mM : Met P w K mg base 1 CT "memory" (spMem CT) []) (mD : Met P w K mg base 1 CT "drives" (spDr CT) []) (SL : OW.Spc P w K mg base 1 CT "__len__" (spLen CT)) :
    GL.FnG P w K mg base 7 f fd ["_law_script"] (spLaw K) := by
  refine GL.okG F sc_law (fun vs H Q E h => ?_) (fun cdv A outer s H vs Q E hgd hr h => ?_)
  · obtain ⟨a, ns, rfl, _⟩ := h
    rfl
  · obtain ⟨s0, ns, rfl, hS, hlen, hQ⟩ := h
    have hu := hu_of hr
    have hu0 : (A.deeper (envOfC d_law.qual d_law.scope s.heap.objs.size f cdv)).units < cLine := by have := hr.un; omega
    have hu64 : (A.deeper (envOfC d_law.qual d_law.scope s.heap.objs.size f cdv)).units + 64 < cLine := by have := hr.un; omega
    have hu65 : (A.deeper (envOfC d_law.qual d_law.scope s.heap.objs.size f cdv)).units + 65 < cLine := by have := hr.un; omega
    refine ⟨_, PSs.nox (pss_cons (ps_set (i := 1) sc_law.nd rfl (.inr rfl) (pe_c cH hr (by decide) rfl (pa_cons (pv 0) pa_nil)))
      (C8.pss_cut (ps_set (i := 2) sc_law.nd rfl (.inr rfl) (pe_callTy call_tuple_of rfl b2.tup boot_tuple (pa_cons (pe_c cNm hr (by decide) rfl (pa_cons (pv 1) (pa_cons (pe_op op_add pe_int (pe_c cD hr (by decide) rfl (pa_cons (pv 1) (pa_cons pe_int pa_nil)))) pa_nil))) pa_nil)))
      (pss_cons (ps_set (i := 3) sc_law.nd rfl (.inl rfl) (pe_mk MT hr (by decide) rfl (pa_cons (pe_tup (pa_cons pe_str (pa_cons (pv 2) pa_nil))) pa_nil)))
      (pss_cons (ps_asg (pe_tup (pa_cons (pe_lst pa_nil) (pa_cons (pe_lst pa_nil) pa_nil))) (pg_tup rfl (pgs_cons (pg_name (i := 4) sc_law.nd rfl (.inl rfl)) (pgs_cons (pg_name (i := 5) sc_law.nd rfl (.inr rfl)) pgs_nil))))
      (pss_cons (ps_set (i := 6) sc_law.nd rfl (.inl rfl) (pe_callTy (call_dictP rfl) rfl b3.dict boot_dict (pa_cons (pe_lc (own := [("_law_name", 16)]) (g := gName 16) (tt := tYes) rfl sc_law.nd (pi_tup (pv 2)) (blkOk_by (N := N_law) (sc := defScope s_law) (by decide +kernel))
          (fun _ _ _ _ _ => pg_name (i := 16) sc_law.nd rfl (Or.inl rfl)) (fun _ _ _ _ _ => pts_nil) (fun _ _ _ _ _ => pe_tup (pa_cons (pv 16) (pa_cons (pe_tup (pa_cons pe_int (pa_cons pe_int pa_nil))) pa_nil)))) pa_nil)))
      (C8.pss_cut (ps_setLc (i := 7) (own := [("_law_k", 15)]) (g := gName 15) (tt := tYes) rfl sc_law.nd rfl rfl (sw_true rfl rfl rfl (by decide +kernel)) (pi_range1 rfl bl.range (pa_cons (pe_op op_add pe_int (pe_c cD hr (by decide) rfl (pa_cons (pv 1) (pa_cons pe_int pa_nil)))) pa_nil)) (blkOk_by (N := N_law) (sc := defScope s_law) (by decide +kernel))
          (fun _ _ _ _ _ => pg_name (i := 15) sc_law.nd rfl (Or.inl rfl)) (fun _ _ _ _ _ => pts_nil) (fun _ _ _ _ _ => (pe_c cDy hr (by decide) rfl (pa_cons (pv 1) (pa_cons (pv 2) pa_nil)))))
      (pss_cons (ps_for PassesOwn.never rfl (pi_range1 rfl bl.range (pa_cons (pe_op op_add pe_int (pe_c cD hr (by decide) rfl (pa_cons (pv 1) (pa_cons pe_int pa_nil)))) pa_nil)) (pg_name (i := 8) sc_law.nd rfl (.inl rfl))
        (C8.pss_cut (ps_set (i := 9) sc_law.nd rfl (.inr rfl) (pe_ifExp (pt_cmpR op_eq (pe_c cD hr (by decide) rfl (pa_cons (pv 1) (pa_cons pe_int pa_nil))) pe_int (nomark _)) (pe_c cDy hr (by decide) rfl (pa_cons (pv 1) (pa_cons (pv 2) pa_nil))) (pe_callTy call_list_of rfl bl.list boot_list (pa_cons (pe_ix ix_list (pv 7) (pe_c cD hr (by decide) rfl (pa_cons (pv 1) (pa_cons (pe_callB call_len_seq rfl bl.len boot_len (pa_cons (pv 7) pa_nil)) pa_nil))) (fun _ _ => rfl)) pa_nil))))
        (C8.pss_cut (ps_set (i := 9) sc_law.nd rfl (.inr rfl) (SLS.pe_stepL (pv 9) (pe_ix ix_list (pe_lst (pa_cons pe_int (pa_cons (pe_un un_neg pe_int) pa_nil))) (pe_c cD hr (by decide) rfl (pa_cons (pv 1) (pa_cons pe_int pa_nil))) (fun _ _ => rfl))))
        (pss_cons (ps_set (i := 10) sc_law.nd rfl (.inl rfl) (pe_callTy call_tuple_of rfl b2.tup boot_tuple (pa_cons (pe_lc (own := [("_law_name", 16)]) (g := gName 16) rfl sc_law.nd (pi_tup (pv 2)) (blkOk_by (N := N_law) (sc := defScope s_law) (by decide +kernel)) (fun _ _ _ _ _ => pg_name (i := 16) sc_law.nd rfl (Or.inl rfl)) (fun _ _ _ _ _ => pts_one (pt_cmpR (r := rIn K false) op_in_seq (pv 16) (pv 9) (by rfl))) (fun _ _ _ _ _ => pv 16)) pa_nil)))
        (pss_cons (ps_set (i := 11) sc_law.nd rfl (.inl rfl) (pe_ix ix_tup (pv 10) (pe_op op_mod (pe_bm (r := CD.rCntD K) PySem.F.plainAttrs_list PySem.F.slot_list_count PySem.F.type_list_count (CD.mt_dcount hu65) (pv 4) (pa_cons (pv 10) pa_nil)) (pe_callB call_len_seq rfl bl.len boot_len (pa_cons (pv 10) pa_nil))) (fun _ _ => rfl)))
        (C8.pss_cut (ps_for PassesOwn.never rfl (pi_list (pe_lc (own := [("_law_k", 15)]) (g := gName 15) (tt := tYes) rfl sc_law.nd (pi_range1 rfl bl.range (pa_cons (pe_c cD hr (by decide) rfl (pa_cons (pv 1) (pa_cons pe_int pa_nil))) pa_nil)) (blkOk_by (N := N_law) (sc := defScope s_law) (by decide +kernel))
              (fun _ _ _ _ _ => pg_name (i := 15) sc_law.nd rfl (Or.inl rfl)) (fun _ _ _ _ _ => pts_nil) (fun _ _ _ _ _ => (pe_c cDy hr (by decide) rfl (pa_cons (pv 1) (pa_cons (pv 2) pa_nil)))))) (pg_name (i := 12) sc_law.nd rfl (.inr rfl))
            (pss_cons (ps_set (i := 13) sc_law.nd rfl (.inl rfl) (pe_callTy call_tuple_of rfl b2.tup boot_tuple (pa_cons (pe_lc (own := [("_law_name", 16)]) (g := gName 16) rfl sc_law.nd (pi_tup (pv 2)) (blkOk_by (N := N_law) (sc := defScope s_law) (by decide +kernel)) (fun _ _ _ _ _ => pg_name (i := 16) sc_law.nd rfl (Or.inl rfl)) (fun _ _ _ _ _ => pts_one (pt_cmpR (r := rIn K false) op_in_seq (pv 16) (pv 12) (by rfl))) (fun _ _ _ _ _ => pv 16)) pa_nil)))
            (pss_one (ps_if (PW.pt (pw_or (pt_cmpR op_ne (pe_mt mW hr (by decide) (pv 3) (pa_cons (pe_callTy call_list_of rfl bl.list boot_list (pa_cons (pv 9) pa_nil)) pa_nil)) (pv 11) (nomark _))
              (pw_or1 (pt_cmpR op_ne (pe_mt mW hr (by decide) (pv 3) (pa_cons (pv 12) pa_nil)) (pe_ix ix_tup (pv 13) (pe_op op_mod (pe_bm (r := CD.rCntD K) PySem.F.plainAttrs_list PySem.F.slot_list_count PySem.F.type_list_count (CD.mt_dcount hu65) (pv 4) (pa_cons (pv 13) pa_nil)) (pe_callB call_len_seq rfl bl.len boot_len (pa_cons (pv 13) pa_nil))) (fun _ _ => rfl)) (nomark _))))) pss_never pss_nil))))
        (pss_cons (ps_set (i := 14) sc_law.nd rfl (.inl rfl) (pe_callTy call_list_of rfl bl.list boot_list (pa_cons (pv 9) pa_nil)))
        (pss_cons (ps_if (PW.pt (pw_or (pt_cmpR op_ne (pe_mt mW hr (by decide) (pv 3) (pa_cons (pv 14) pa_nil)) (pv 11) (nomark _))
          (pw_or (pt_cmpR op_ne (pe_mt mR hr (by decide) (pv 3) (pa_cons (pv 14) pa_nil)) (pv 11) (nomark _))
          (pw_or1 (pt_cmpR (op_neD hu64) (pv 14) (pv 9) (nomark _)))))) pss_never pss_nil)
        (pss_cons (ps_expr (pe_bm0 PySem.F.plainAttrs_list PySem.F.slot_list_reverse PySem.F.type_list_reverse mt_reverse (pv 14)))
        (pss_cons (ps_expr (pe_bm PySem.F.plainAttrs_list PySem.F.slot_list_append PySem.F.type_list_append mt_append (pv 14) (pa_cons pe_str pa_nil)))
        (pss_cons (ps_expr (pe_bm PySem.F.plainAttrs_list PySem.F.slot_list_append PySem.F.type_list_append mt_append (pv 4) (pa_cons (pv 10) pa_nil)))
        (pss_cons (ps_expr (pe_bm PySem.F.plainAttrs_list PySem.F.slot_list_append PySem.F.type_list_append mt_append (pv 5) (pa_cons (pv 11) pa_nil)))
        (pss_cons (ps_set (i := 6) sc_law.nd rfl (.inl rfl) (pe_c cG hr (by decide) rfl (pa_cons (pv 6) (pa_cons (pv 9) (pa_cons (pv 11) pa_nil)))))
        (pss_cons (ps_if (PW.pt (pw_or (pt_cmpR op_ne (pe_callB (GL.call_reprD hgd hu64) rfl brep boot_repr (pa_cons (pe_mt0 mM hr (by decide) (pv 3)) pa_nil)) (pe_callB (GL.call_reprD hgd hu64) rfl brep boot_repr (pa_cons (pe_c cMm hr (by decide) rfl (pa_cons (pv 2) (pa_cons (pv 4) pa_nil))) pa_nil)) (nomark _))
          (pw_or1 (pt_cmpR op_ne (pe_callB (OW.call_lenO SL (hr.mono (by decide))) rfl bl.len boot_len (pa_cons (pv 3) pa_nil)) (pe_callB call_len_seq rfl bl.len boot_len (pa_cons (pv 4) pa_nil)) (nomark _))))) pss_never pss_nil)
        (pss_cons (ps_if (pt_not (pt_val (pe_c cS hr (by decide) rfl (pa_cons (pv 3) (pa_cons (pv 2) (pa_cons (pv 6) pa_nil)))))) pss_never pss_nil)
        (pss_one (ps_if (pt_cmpR (op_ne_dictA hu0) (pe_mt0 mD hr (by decide) (pv 3)) (pe_callTy (call_dictP rfl) rfl b3.dict boot_dict (pa_cons (pe_lc (own := [("_law_name", 16)]) (g := gName 16) (tt := tYes) (te := tTup (tCons (tVar 16) (tCons (tBM K "list" (CS.rCntS K) (tVar 5) (tCons (tVar 16) tNil)) tNil))) rfl sc_law.nd (pi_tup (pv 2)) (blkOk_by (N := N_law) (sc := defScope s_law) (by decide +kernel))
            (fun _ _ _ _ _ => pg_name (i := 16) sc_law.nd rfl (Or.inl rfl)) (fun _ _ _ _ _ => pts_nil) (fun _ _ _ _ _ => pe_tup (pa_cons (pv 16) (pa_cons (pe_bm (r := CS.rCntS K) PySem.F.plainAttrs_list PySem.F.slot_list_count PySem.F.type_list_count CS.mt_scount (pv 5) (pa_cons (pv 16) pa_nil)) pa_nil)))) pa_nil)) (nomark _)) pss_never pss_nil)))))))))))))))))
      (pss_one (ps_ret pe_bl))))))))), ?_⟩
    refine ⟨_, rfl, s0, ns, rfl, hS, hlen, fun h H1 s1 f1 held1 => ?_⟩
    refine ⟨fun σ' H' => ∃ (ot : Addr) (xs : List Str), σ' = [some (.ref s0), some (.ref h), some (.ref ot), none, none, none, none, none, none, none, none, none, none, none, none, none, none] ∧ H' ot = some (.tup (xs.map V.str)) ∧ Ord xs ∧ Held H' h 800000000, ?_, ?_⟩
    · refine ⟨_, rfl, _, rfl, h, 800000041, 8, rfl, held1.weak (by decide), by decide, by decide, fun m H2 m0 m7 held2 k2 => ?_⟩
      obtain ⟨k, rfl⟩ : ∃ k : Nat, m = k := ⟨m.toNat, by omega⟩
      refine ⟨_, _, rfl, rfl, h, 800000001, 1 + k, rfl, held2.weak (by decide), by omega, fun o zs H3 held3 k3 fo ho zl zok zpw => ?_⟩
      refine ⟨o, _, rfl, .inl ⟨SqL.of ho, fun ot fot => ?_⟩⟩
      have sot := same_new (o := .tup (zs.map fun l => V.str (S l))) fot
      refine ⟨ot, zs.map S, rfl, ?_, ord_of (by omega) (by omega) zok zpw, (held3.same sot).weak (by decide)⟩
      rw [upd_same, List.map_map]
      rfl
    rintro σ' H2 ⟨ot, xs, rfl, hot2, ox, held2⟩
    have xpos : 0 < xs.length := List.length_pos_iff.mpr ox.ne
    have l8 := ox.l8
    -- the Turns
    refine ⟨_, rfl, by show 2 ≤ sizeLine; decide, fun ru fru => ?_⟩
    have sr := same_new (o := .tup [.str "rounds", .ref ot]) fru
    have rl : LeastR (upd H2 ru (.tup [.str "rounds", .ref ot])) ru ot xs 0 := ⟨upd_same, sr _ _ hot2, ox, by decide, by decide⟩
    have held3 := held2.same sr
    generalize upd H2 ru (.tup [.str "rounds", .ref ot]) = H3 at rl held3
    intro tu dx ntu ndx nne
    have lift : ∀ b o, H3 b = some o → (upd (upd H3 dx (.own tu)) tu (.ins CT dx [])) b = some o := fun b o e => by
      rw [upd_ne (ne_of_none e ntu), upd_ne (ne_of_none e ndx)]
      exact e
    refine ⟨tu, dx, ru, ot, xs, 0, rfl, upd_same, rl.ext fun b ys e => lift _ _ e, fun H4 hd kp ps back fps htu hcd hck hps => ⟨rfl, ?_⟩⟩
    have s34 : Same H3 H4 := fun b o e => back b o (ne_of_none e ntu) (lift b o e)
    have fps' : H3 ps = none := by
      cases e : H3 ps with
      | none => rfl
      | some o => rw [lift ps o e] at fps; cases fps
    have held4 := held3.same s34
    have ce4 : Cel h ps H4 := (Cel.of held3 fps').kp (Kp.same s34)
    obtain ⟨ll4, ns4, p4, q4, hh4, hl4, _⟩ := id held4
    obtain ⟨_, _, _, _, hh3, _⟩ := id held3
    have e1 : h ≠ tu := ne_of_none hh3 ntu
    have e2 : h ≠ ps := fun z => by rw [z, hps] at hh4; cases hh4
    have e3 : tu ≠ ps := fun z => by rw [z, hps] at htu; cases htu
    refine ⟨by show 0 ≤ sizeLine; decide, fun ro fro => ⟨by show 0 ≤ sizeLine; decide, fun dl fdl => ⟨by show 2 ≤ sizeLine; decide, fun T0 fT0 => ?_⟩⟩⟩
    have sro := same_new (o := .lst []) fro
    have sdl := same_new (o := .lst []) fdl
    have sT0 := same_new (o := .tup [.ref ro, .ref dl]) fT0
    refine ⟨T0, _, rfl, SqT.of upd_same, rfl, _, _, rfl, _, _, rfl, rfl, ?_⟩
    have s57 := sdl.trans sT0
    have s4c := sro.trans s57
    have zn : [h, tu, ps, ro, dl].Nodup := by
      have a1 := ne_of_none hh4 fro
      have a2 := ne_of_none htu fro
      have a3 := ne_of_none hps fro
      have b1 := ne_of_none (sro _ _ hh4) fdl
      have b2 := ne_of_none (sro _ _ htu) fdl
      have b3 := ne_of_none (sro _ _ hps) fdl
      have b4 := ne_of_none (upd_same : (upd H4 ro (.lst [])) ro = _) fdl
      simp only [List.nodup_cons, List.mem_cons, List.not_mem_nil, or_false, not_or, List.nodup_nil, and_true, not_false_eq_true]
      exact ⟨⟨e1, e2, a1, b1⟩, ⟨e3, a2, b2⟩, ⟨a3, b3⟩, b4⟩
    have hro4 := s57 _ _ (upd_same : (upd H4 ro (.lst [])) ro = _)
    have hdl4 := sT0 _ _ (upd_same : (upd (upd H4 ro (.lst [])) dl (.lst [])) dl = _)
    have cr4 := (Cel.of held4 fro).kp (Kp.same s4c)
    have cd4 := (Cel.of (held4.same sro) fdl).kp (Kp.same s57)
    have hot4c := s4c _ _ (s34 _ _ rl.2.1)
    generalize hHc : upd (upd (upd H4 ro (.lst [])) dl (.lst [])) T0 (.tup [.ref ro, .ref dl]) = H4c at s4c hro4 hdl4 cr4 cd4 hot4c
    refine ⟨_, rfl, ot, rfl, ⟨_, SqT.of hot4c⟩, fun E3 hE3 => lc_tup (fun i H5 => ∃ pa ad : Str → Addr, H5 E3 = some (.lst ((xs.take i).map fun x => V.ref (pa x))) ∧ (∀ x ∈ xs.take i, H5 (pa x) = some (.tup [.str x, .ref (ad x)]) ∧ H5 (ad x) = some (tupP (0, 1))) ∧ Same H4c H5)
      ⟨fun _ => 0, fun _ => 0, upd_same, fun x hx => by simp at hx, same_new hE3⟩ (fun _ H5 _ ⟨_, _, _, _, sm⟩ => SqT.of (sm _ _ hot4c)) ?_ ?_⟩
    · rintro i x H5 hx ⟨pa, ad, hee5, hpa, sm⟩
      have hi' : i < xs.length := by
        have := (List.getElem?_eq_some_iff.mp hx).1
        simpa using this
      rw [List.getElem?_map] at hx
      obtain ⟨z, hz, rfl⟩ := Option.map_eq_some_iff.mp hx
      have nz := nin_take ox.nd hz
      have et : xs.take (i + 1) = xs.take i ++ [z] := by rw [List.take_succ, hz]; rfl
      refine ⟨rfl, ?_⟩
      refine ⟨_, rfl, by show 2 ≤ sizeLine; decide, fun q0 fq0 => ⟨by show 2 ≤ sizeLine; decide, fun q fq => ?_⟩⟩
      have s0 := same_new (o := .tup [.int 0, .int 1]) fq0
      have sq := same_new (o := .tup [.str z, .ref q0]) fq
      have hE5 := sq _ _ (s0 _ _ hee5)
      refine ⟨_, hE5, ?_, fun x => if x = z then q else pa x, fun x => if x = z then q0 else ad x, ?_, ?_, ?_⟩
      · rw [List.length_map, List.length_take]
        exact Nat.lt_of_lt_of_le (by omega : min i xs.length < 64) (by decide)
      · rw [upd_same, et, List.map_append]
        have e1 : (xs.take i).map (fun x => V.ref (pa x)) = (xs.take i).map fun x => V.ref (if x = z then q else pa x) := List.map_congr_left fun x hx => by rw [if_neg (show x ≠ z from fun e => nz (e ▸ hx))]
        rw [e1]
        simp
      · intro x hx
        have keep : ∀ {p : Addr} {o : HO} {ys : List V}, (upd (upd H5 q0 (.tup [.int 0, .int 1])) q (.tup [.str z, .ref q0])) p = some (.tup ys) → (upd (upd (upd H5 q0 (.tup [.int 0, .int 1])) q (.tup [.str z, .ref q0])) E3 o) p = some (.tup ys) := fun {p o ys} hp => by
          rw [upd_ne (fun e => by rw [e, hE5] at hp; cases hp)]
          exact hp
        show (upd _ E3 _) (if x = z then q else pa x) = some (.tup [.str x, .ref (if x = z then q0 else ad x)]) ∧ (upd _ E3 _) (if x = z then q0 else ad x) = _
        rw [et] at hx
        rcases List.mem_append.mp hx with hx | hx
        · rw [if_neg (show x ≠ z from fun e => nz (e ▸ hx)), if_neg (show x ≠ z from fun e => nz (e ▸ hx))]
          exact ⟨keep (sq _ _ (s0 _ _ (hpa x hx).1)), keep (sq _ _ (s0 _ _ (hpa x hx).2))⟩
        · rw [List.mem_singleton] at hx
          rw [if_pos hx, if_pos hx, hx]
          exact ⟨keep upd_same, keep (sq _ _ upd_same)⟩
      · intro a o e
        rw [upd_ne (ne_of_none e hE3)]
        exact sq a o (s0 a o (sm a o e))
    rintro H5 ⟨pa, ad, hee5, hpa, s5⟩
    rw [List.length_map, List.take_length] at hee5 hpa
    refine ⟨E3, xs.map pa, xs.map fun x => ((Sum.inr x : Key), V.ref (ad x)), rfl, by rw [List.map_map]; exact SqL.of hee5, paired_map fun x hx => SqT.of (hpa x hx).1, fun d fd0 => ?_⟩
    have em := DQ.merge_map (fun x => V.ref (ad x)) (l := xs) (m := []) ox.nd
    rw [List.nil_append] at em
    have em' : mergeK [] (xs.map fun x => ((Sum.inr x : Key), V.ref (ad x))) = xs.map fun x => ((Sum.inr x : Key), V.ref (ad x)) := em
    rw [em']
    have sd := same_new (o := .dK (xs.map fun x => ((Sum.inr x : Key), V.ref (ad x)))) fd0
    have due6 : Due (upd H5 d (.dK (xs.map fun x => ((Sum.inr x : Key), V.ref (ad x))))) d xs (fun _ => 0) := ⟨ad, upd_same, fun x hx => by
      show _ = some (tupP (pr (rt 0)))
      rw [pr0]
      exact sd _ _ (hpa x hx).2⟩
    have s56 := s5.trans sd
    have s47 := s4c.trans s56
    have M7 : M0 ⟨CT, h, tu, ru, ot, ps, ro, dl⟩ xs 0 hd kp d (fun _ => 0) [] [] 700000000 (upd H5 d (.dK (xs.map fun x => ((Sum.inr x : Key), V.ref (ad x))))) :=
      ⟨(held4.same s47).weak (by decide), (rl.same s34).same s47, ⟨dx, s47 _ _ htu⟩, hcd.same s47, hck.same s47, s47 _ _ hps, ⟨s56 _ _ hro4, fun p hp => (nomatch hp)⟩, s56 _ _ hdl4, due6, fun z => by
        have fd : ∀ {b : Addr} {o : HO}, H5 b = some o → b ≠ d := fun e => ne_of_none e fd0
        simp only [Ad.Z, List.mem_cons, List.not_mem_nil, or_false] at z
        rcases z with q | q | q | q | q
        · exact fd (s5 _ _ (s4c _ _ hh4)) q.symm
        · exact fd (s5 _ _ (s4c _ _ htu)) q.symm
        · exact fd (s5 _ _ (s4c _ _ hps)) q.symm
        · exact fd (s5 _ _ hro4) q.symm
        · exact fd (s5 _ _ hdl4) q.symm, rfl, ⟨ce4.kp (Kp.same s47), cr4.kp (Kp.same s56), cd4.kp (Kp.same s56)⟩, zn⟩
    generalize upd H5 d (.dK (xs.map fun x => ((Sum.inr x : Key), V.ref (ad x)))) = H7 at M7 ⊢
    -- some days
    refine ⟨fun σ' H' => ∃ (a : Ad) (so : Addr) (ds : List (Addr × List Str)), σ' = [some (.ref s0), some (.ref a.h), some (.ref a.ot), some (.ref a.tu), some (.ref a.ro), some (.ref a.dl), some (.ref d), some (.ref so), none, none, none, none, none, none, none, none, none] ∧ M0 a xs 0 hd kp d (fun _ => 0) [] [] 600000000 H' ∧ Some30 H' a.Z xs so ds ∧ ds ≠ [] ∧ ds.length ≤ 3 ∧ a.CT = CT, ?_, ?_⟩
    · refine ⟨_, rfl, h, 699999999, 3, rfl, M7.held.weak (by decide), by decide, by decide, fun m0 H8 m00 m01 held8 k8 => ⟨_, _, rfl, rfl, ?_⟩⟩
      obtain ⟨k0, rfl⟩ : ∃ k : Nat, m0 = k := ⟨m0.toNat, by omega⟩
      have M8 := M7.kept k8 held8
      refine ⟨_, rfl, by omega, by omega, ?_⟩
      have ek : (1 + (k0 : Int)).toNat = 1 + k0 := by omega
      rw [ek]
      intro D hD
      have sD := same_new (o := .lst []) hD
      refine lc_range (n := 1 + k0) (fun j H' => ∃ ds2 : List (Addr × List Str), ds2.length = j ∧ H' D = some (.lst (ds2.map fun p => V.ref p.1)) ∧ (∀ p ∈ ds2, H' p.1 = some (.lst (p.2.map V.str)) ∧ DayOk xs p.2 ∧ p.1 ∉ [h, tu, ps, ro, dl] ∧ p.1 ≠ D) ∧ Held H' h (699999999 - 20 * j) ∧ Kp h H8 H' ∧ Cel h D H') ?_ ?_ ?_
      · exact ⟨[], rfl, upd_same, (fun p hp => nomatch hp), held8.same sD, Kp.same sD, (Cel.of held8 hD).kp (Kp.same sD)⟩
      · rintro j Ha hj ⟨ds2, dsl, hDa, hds, helda, ka, offa⟩
        have Ma := M8.kept ka helda
        refine ⟨rfl, ?_⟩
        refine ⟨_, rfl, _, rfl, h, ot, 699999999 - 20 * (j + 1), xs, rfl, helda.weak (by omega), Ma.rl.2.1, ox.ne, ox.nd, by omega, fun o Ro Hb heldb kb fo hRo dyo => ?_⟩
        have hDb := kb.1 _ _ hDa offa.ne
        have offb := offa.kp kb
        have noD : o ≠ D := (ne_of_none hDa fo).symm
        refine ⟨_, hDb, ?_, ds2 ++ [(o, Ro)], by simp [dsl], ?_, ?_, heldb.put offb, (ka.trans kb).new hD, offb.put offb.ne.symm⟩
        · rw [List.length_map, dsl]
          exact Nat.lt_of_lt_of_le (by omega : j < 64) (by decide)
        · rw [upd_same, List.map_append]
          rfl
        · intro p hp
          rcases List.mem_append.mp hp with hp | hp
          · obtain ⟨e', dy', nz', nd'⟩ := hds p hp
            refine ⟨?_, dy', nz', nd'⟩
            rw [upd_ne nd']
            exact kb.1 _ _ e' fun z => nz' (by rw [z]; simp)
          · rw [List.mem_singleton] at hp
            subst hp
            refine ⟨?_, dyo, Ma.notin fo, noD⟩
            rw [upd_ne noD]
            exact hRo
      rintro Ha ⟨ds2, dsl, hDa, hds, helda, ka, offa⟩
      refine ⟨⟨CT, h, tu, ru, ot, ps, ro, dl⟩, D, ds2, rfl, (M8.kept ka helda).weak (by omega), ⟨hDa, M8.notin hD, fun p hp => ⟨(hds p hp).1, (hds p hp).2.1, (hds p hp).2.2.1⟩⟩, List.ne_nil_of_length_pos (by omega), by omega, rfl⟩
    clear M7
    rintro σ' H8 ⟨a, so, ds, rfl, M8, S8, dsne, ds3, rfl⟩
    refine ⟨_, rfl, a.h, 599999999, 33, rfl, M8.held.weak (by decide), by decide, by decide, fun m3 Hc a3 b3' heldc kc => ⟨_, _, rfl, rfl, ?_⟩⟩
    obtain ⟨k3, rfl⟩ : ∃ k3 : Nat, m3 = k3 := ⟨m3.toNat, by omega⟩
    have Mc := M8.kept kc heldc
    have Sc := S8.kp kc
    refine ⟨_, rfl, by omega, by omega, ?_⟩
    have ek3 : (8 + (k3 : Int)).toNat = 8 + k3 := by omega
    rw [ek3]
    refine for_range (n := 8 + k3) (fun i σ H' => ∃ (v8 v9 v10 v11 v12 v13 v14 : Option V) (hd kp d : Addr) (c : Str → Int) (rs : List (Addr × List Str)) (drs : List Str), σ = [some (.ref s0), some (.ref a.h), some (.ref a.ot), some (.ref a.tu), some (.ref a.ro), some (.ref a.dl), some (.ref d), some (.ref so), v8, v9, v10, v11, v12, v13, v14, none, none] ∧
      M0 a xs 0 hd kp d c rs drs (500000000 - 1000 * i) H' ∧ Some30 H' a.Z xs so ds ∧ drs.length = i ∧ ∀ x, (c x).natAbs ≤ 1000 * i)
      ⟨_, _, _, _, _, _, _, hd, kp, d, _, [], [], rfl, Mc.weak (by omega), Sc, rfl, fun _ => by simp⟩ ?_ ?_
    · rintro i σ Ha hi ⟨v8, v9, v10, v11, v12, v13, v14, hd, kp, d, c, rs, drs, rfl, Ma, Sa, dln, bnd⟩
      -- the riders
      refine ⟨fun σ' H' => ∃ (rd : Addr) (R : List Str), σ' = [some (.ref s0), some (.ref a.h), some (.ref a.ot), some (.ref a.tu), some (.ref a.ro), some (.ref a.dl), some (.ref d), some (.ref so), some (.int (0 + i)), some (.ref rd), v10, v11, v12, v13, v14, none, none] ∧ M0 a xs 0 hd kp d c rs drs (500000000 - 1000 * i - 100) H' ∧ Some30 H' a.Z xs so ds ∧ H' rd = some (.lst (R.map V.str)) ∧ DayOk xs R ∧ rd ∉ a.Z, ?_, ?_⟩
      · refine ⟨_, rfl, a.h, 500000000 - 1000 * i - 1, 3, rfl, Ma.held.weak (by omega), by decide, by decide, fun p1 Hb p10 p11 heldb kb => ⟨rfl, _, rfl, ite2 (fun _ => ?_) (fun _ => ?_)⟩⟩
        · have Mb := Ma.kept kb heldb
          refine ⟨_, rfl, _, rfl, a.h, a.ot, 500000000 - 1000 * i - 30, xs, rfl, heldb.weak (by omega), Mb.rl.2.1, ox.ne, ox.nd, by omega, fun rd R Hd heldd kd frd hrd dy => ?_⟩
          exact ⟨rd, R, rfl, (Mb.kept kd heldd).weak (by omega), (Sa.kp kb).kp kd, hrd, dy, Mb.notin frd⟩
        · have Mb := Ma.kept kb heldb
          have Sb := Sa.kp kb
          have dpos : 0 < ds.length := List.length_pos_iff.mpr dsne
          refine ⟨_, rfl, _, rfl, _, rfl, so, _, rfl, .inl (SqL.of Sb.1), a.h, 500000000 - 1000 * i - 2, _, rfl, heldb.weak (by omega), by rw [List.length_map]; omega, by rw [List.length_map]; omega, fun p2 Hd p20 p21 heldd kd => ?_⟩
          rw [List.length_map] at p21
          obtain ⟨k, rfl⟩ : ∃ k : Nat, p2 = k := ⟨p2.toNat, by omega⟩
          have Md := Mb.kept kd heldd
          have Sd := Sb.kp kd
          have kl : k < ds.length := by omega
          have hk : (ds.map fun p => V.ref p.1)[k]? = some (.ref (ds[k]).1) := by rw [List.getElem?_map, List.getElem?_eq_getElem kl]; rfl
          obtain ⟨e1', dy, _⟩ := Sd.2.2 ds[k] (List.getElem_mem kl)
          refine ⟨so, _, _, _, rfl, rfl, SqL.of Sd.1, atI_nat hk, (ds[k]).1, _, rfl, .inl (SqL.of e1'), fun rd frd => ?_⟩
          have sn := same_new (o := .lst ((ds[k]).2.map V.str)) frd
          exact ⟨rd, (ds[k]).2, rfl, (Md.same sn).weak (by omega), Sd.same sn, upd_same, dy, Md.notin frd⟩
      clear Ma Sa
      rintro σ' Hb ⟨rd0, R0, rfl, Mb, Sb, hrd0, dy0, nrd0⟩
      refine ⟨fun σ' H' => ∃ (rd : Addr) (R : List Str), σ' = [some (.ref s0), some (.ref a.h), some (.ref a.ot), some (.ref a.tu), some (.ref a.ro), some (.ref a.dl), some (.ref d), some (.ref so), some (.int (0 + i)), some (.ref rd), v10, v11, v12, v13, v14, none, none] ∧ M0 a xs 0 hd kp d c rs drs (500000000 - 1000 * i - 200) H' ∧ Some30 H' a.Z xs so ds ∧ H' rd = some (.lst (R.map V.str)) ∧ DayOk xs R ∧ rd ∉ a.Z, ?_, ?_⟩
      · refine ⟨_, rfl, _, rfl, by show 2 ≤ sizeLine; decide, fun u fu => ?_⟩
        have su := same_new (o := .lst [.int 1, .int (-1)]) fu
        refine ⟨_, rfl, a.h, 500000000 - 1000 * i - 101, 2, rfl, (Mb.held.same su).weak (by omega), by decide, by decide, fun r Hd r0 r1 heldd kd => ?_⟩
        have hu' : Hd u = some (.lst [.int 1, .int (-1)]) := kd.1 u _ upd_same (Mb.held.ne_new fu)
        have Md := (Mb.same su).kept kd heldd
        have Sd := (Sb.same su).kp kd
        have nrh : rd0 ≠ a.h := fun z => nrd0 (by rw [z]; unfold Ad.Z; simp)
        have hrdd := kd.1 _ _ (su _ _ hrd0) nrh
        obtain ⟨k, hk, k1⟩ : ∃ k : Int, atI [V.int 1, V.int (-1)] r = some (.int k) ∧ (k = 1 ∨ k = -1) := by
          rcases (show r = 0 ∨ r = 1 by omega) with rfl | rfl
          · exact ⟨1, rfl, .inl rfl⟩
          · exact ⟨-1, rfl, .inr rfl⟩
        refine ⟨u, _, _, _, rfl, rfl, SqL.of hu', hk, k, rfl, rd0, _, k, rfl, rfl, k1, SqL.of hrdd, fun rd frd => ?_⟩
        have es : SLS.stepped k (R0.map V.str) = (if k = 1 then R0 else R0.reverse).map V.str := by
          unfold SLS.stepped
          split
          · rfl
          · rw [List.map_reverse]
        rw [es]
        have sn := same_new (o := .lst ((if k = 1 then R0 else R0.reverse).map V.str)) frd
        refine ⟨rd, if k = 1 then R0 else R0.reverse, rfl, (Md.same sn).weak (by omega), Sd.same sn, upd_same, ?_, Md.notin frd⟩
        split
        · exact dy0
        · exact ⟨fun z => dy0.ne (by simpa using z), (List.reverse_perm R0).symm.nodup dy0.nd, fun y hy => dy0.sub y (by simpa using hy), by rw [List.length_reverse]; exact dy0.ln⟩
      clear Mb Sb hrd0 dy0 nrd0
      rintro σ' Hb ⟨rd, R, rfl, Mb, Sb, hrd, dy, nrd⟩
      refine ⟨_, rfl, a.ot, rfl, ⟨_, SqT.of Mb.rl.2.1⟩, fun D hD => lc_tup (fun j H2 => H2 D = some (.lst (((xs.take j).filter fun x => decide (x ∈ R)).map V.str)) ∧ Same Hb H2) ⟨upd_same, same_new hD⟩ (fun _ H2 _ z => SqT.of (z.2 _ _ Mb.rl.2.1)) ?_ ?_⟩
      · rintro j x H2 hx ⟨hdd, sm⟩
        have hj' : j < xs.length := by
          have := (List.getElem?_eq_some_iff.mp hx).1
          simpa using this
        rw [List.getElem?_map] at hx
        obtain ⟨y, hy, rfl⟩ := Option.map_eq_some_iff.mp hx
        have et : xs.take (j + 1) = xs.take j ++ [y] := by rw [List.take_succ, hy]; rfl
        refine ⟨rfl, ?_⟩
        refine ⟨_, rfl, _, rfl, rd, _, rfl, .inl (SqL.of (sm _ _ hrd)), rfl, flat_strs R, _, rfl, ?_⟩
        simp only [Bool.false_eq_true, if_false]
        rw [inV_strs]
        refine ite2 (fun hm => ?_) (fun hm => ?_)
        · refine ⟨_, rfl, _, hdd, ?_, ?_, ?_⟩
          · rw [List.length_map]
            refine Nat.lt_of_le_of_lt (List.length_filter_le _ _) ?_
            rw [List.length_take]
            exact Nat.lt_of_lt_of_le (by omega : min j xs.length < 64) (by decide)
          · rw [upd_same, et, List.filter_append, List.map_append]
            simp [hm]
          · intro b o e
            rw [upd_ne (ne_of_none e hD)]
            exact sm b o e
        · refine ⟨?_, sm⟩
          rw [et, List.filter_append]
          simp [hm, hdd]
      rintro Hd ⟨hdd, sd'⟩
      rw [List.length_map, List.take_length] at hdd
      refine ⟨D, _, rfl, .inl ⟨SqL.of hdd, fun nt fnt => ?_⟩⟩
      have sn := sd'.trans (same_new (o := .tup ((xs.filter fun x => decide (x ∈ R)).map V.str)) fnt)
      have Me := Mb.same sn
      have Se := Sb.same sn
      have hnt : (upd Hd nt (.tup ((xs.filter fun x => decide (x ∈ R)).map V.str))) nt = some (.tup ((fs xs R).map V.str)) := upd_same
      have hrde := sn _ _ hrd
      clear Mb Sb hrd hdd sd'
      generalize upd Hd nt (.tup ((xs.filter fun x => decide (x ∈ R)).map V.str)) = He at Me Se hnt hrde sn ⊢
      have l1 : rs.length ≤ 1000 := by have := Me.ll; omega
      have rlen : (rs.map (·.2)).length ≤ 1000 := by rw [List.length_map]; exact l1
      obtain ⟨y0, hy0⟩ := Drv.ex (rode := rs.map (·.2)) dy
      refine ⟨_, rfl, _, rfl, .inl ⟨rfl, _, SqL.of Me.ro.1⟩, _, rfl, a.ro, _, _, CD.tD (fs xs R), _, rfl, rfl, SqL.of Me.ro.1, dp_ts (fun q hq => (Me.ro.2 q hq).1), dp_t hnt, sh_ro ox Me.ro, sh_fs ox, ?_⟩
      rw [CD.cnt_tD]
      refine ⟨_, rfl, nt, _, rfl, .inr (SqT.of hnt), _, _, rfl, rfl, pos_fs dy, nt, _, _, _, rfl, rfl, SqT.of hnt, at_drv hy0, ?_⟩
      -- others
      refine ⟨fun σ' H' => ∃ (w12 w13 : Option V), σ' = [some (.ref s0), some (.ref a.h), some (.ref a.ot), some (.ref a.tu), some (.ref a.ro), some (.ref a.dl), some (.ref d), some (.ref so), some (.int (0 + i)), some (.ref rd), some (.ref nt), some (.str y0), w12, w13, v14, none, none] ∧ M0 a xs 0 hd kp d c rs drs (500000000 - 1000 * i - 400) H' ∧ Some30 H' a.Z xs so ds ∧ H' rd = some (.lst (R.map V.str)) ∧ H' nt = some (.tup ((fs xs R).map V.str)), ?_, ?_⟩
      · refine ⟨_, rfl, a.h, 500000000 - 1000 * i - 201, 3, rfl, Me.held.weak (by omega), by decide, by decide, fun mo Hg mo0 mo1 heldg kg => ?_⟩
        obtain ⟨ko, rfl⟩ : ∃ k : Nat, mo = k := ⟨mo.toNat, by omega⟩
        have Mg := Me.kept kg heldg
        have nrh : rd ≠ a.h := fun z => nrd (by rw [z]; unfold Ad.Z; simp)
        have hrdg := kg.1 _ _ hrde nrh
        have hntg := kg.tupS (K := K) Me.held hnt
        have Sg := Se.kp kg
        refine ⟨_, rfl, by omega, by omega, ?_⟩
        have eko : ((ko : Int)).toNat = ko := by omega
        rw [eko]
        intro D hD
        have sD := same_new (o := .lst []) hD
        refine lc_range (n := ko) (fun j H' => ∃ ds2 : List (Addr × List Str), ds2.length = j ∧ H' D = some (.lst (ds2.map fun p => V.ref p.1)) ∧ (∀ p ∈ ds2, H' p.1 = some (.lst (p.2.map V.str)) ∧ DayOk xs p.2 ∧ p.1 ≠ a.h ∧ p.1 ≠ D) ∧ Held H' a.h (500000000 - 1000 * i - 201 - 20 * j) ∧ Kp a.h Hg H' ∧ Cel a.h D H') ?_ ?_ ?_
        · exact ⟨[], rfl, upd_same, (fun p hp => nomatch hp), heldg.same sD, Kp.same sD, (Cel.of heldg hD).kp (Kp.same sD)⟩
        · rintro j Hj hj ⟨ds2, dsl, hDa, hds, helda, ka, offa⟩
          have Mj := Mg.kept ka helda
          refine ⟨rfl, ?_⟩
          refine ⟨_, rfl, _, rfl, a.h, a.ot, 500000000 - 1000 * i - 201 - 20 * (j + 1), xs, rfl, helda.weak (by omega), Mj.rl.2.1, ox.ne, ox.nd, by omega, fun o Ro Hb2 heldb kb fo hRo dyo => ?_⟩
          have hDb := kb.1 _ _ hDa offa.ne
          have offb := offa.kp kb
          have noD : o ≠ D := (ne_of_none hDa fo).symm
          have noh : o ≠ a.h := helda.ne_new fo
          refine ⟨_, hDb, ?_, ds2 ++ [(o, Ro)], by simp [dsl], ?_, ?_, heldb.put offb, (ka.trans kb).new hD, offb.put offb.ne.symm⟩
          · rw [List.length_map, dsl]
            exact Nat.lt_of_lt_of_le (by omega : j < 64) (by decide)
          · rw [upd_same, List.map_append]
            rfl
          · intro p hp
            rcases List.mem_append.mp hp with hp | hp
            · obtain ⟨e', dy', nz', nd'⟩ := hds p hp
              refine ⟨?_, dy', nz', nd'⟩
              rw [upd_ne nd']
              exact kb.1 _ _ e' nz'
            · rw [List.mem_singleton] at hp
              subst hp
              refine ⟨?_, dyo, noh, noD⟩
              rw [upd_ne noD]
              exact hRo
        rintro Hj ⟨ds2, dsl, hDa, hds, helda, ka, offa⟩
        have Mj := (Mg.kept ka helda).weak (by omega : 500000000 - 1000 * i - 400 ≤ 500000000 - 1000 * i - 201 - 20 * ko)
        have Sj := Sg.kp ka
        have hrdj := ka.1 _ _ hrdg nrh
        have hntj := ka.tupS (K := K) heldg hntg
        refine ⟨D, rfl, ⟨_, SqL.of hDa⟩, for_list (K := K) (xs := ds2.map fun p => V.ref p.1) (fun j σ H' => (∃ w12 w13 : Option V, σ = [some (.ref s0), some (.ref a.h), some (.ref a.ot), some (.ref a.tu), some (.ref a.ro), some (.ref a.dl), some (.ref d), some (.ref so), some (.int (0 + i)), some (.ref rd), some (.ref nt), some (.str y0), w12, w13, v14, none, none]) ∧ Same Hj H')
          ⟨⟨_, _, rfl⟩, Same.refl _⟩ (fun j σ H' _ z => SqL.of (z.2 _ _ hDa)) ?_ ?_⟩
        · rintro j v σ Hk hj ⟨⟨w12, w13, rfl⟩, sk⟩
          rw [List.getElem?_map] at hj
          obtain ⟨p, hp, rfl⟩ := Option.map_eq_some_iff.mp hj
          obtain ⟨ho, dyo, _, _⟩ := hds p (List.mem_of_getElem? hp)
          generalize p.2 = Ro at ho dyo
          generalize p.1 = o at ho
          have Mk := Mj.same sk
          have ho := sk _ _ ho
          refine ⟨_, rfl, a.ot, rfl, ⟨_, SqT.of Mk.rl.2.1⟩, fun D2 hD2 => lc_tup (fun j H2 => H2 D2 = some (.lst (((xs.take j).filter fun x => decide (x ∈ Ro)).map V.str)) ∧ Same Hk H2) ⟨upd_same, same_new hD2⟩ (fun _ H2 _ z => SqT.of (z.2 _ _ Mk.rl.2.1)) ?_ ?_⟩
          · rintro j2 x H2 hx ⟨hdd, sm⟩
            have hj' : j2 < xs.length := by
              have := (List.getElem?_eq_some_iff.mp hx).1
              simpa using this
            rw [List.getElem?_map] at hx
            obtain ⟨y, hy, rfl⟩ := Option.map_eq_some_iff.mp hx
            have et : xs.take (j2 + 1) = xs.take j2 ++ [y] := by rw [List.take_succ, hy]; rfl
            refine ⟨rfl, ?_⟩
            refine ⟨_, rfl, _, rfl, o, _, rfl, .inl (SqL.of (sm _ _ ho)), rfl, flat_strs Ro, _, rfl, ?_⟩
            simp only [Bool.false_eq_true, if_false]
            rw [inV_strs]
            refine ite2 (fun hm => ?_) (fun hm => ?_)
            · refine ⟨_, rfl, _, hdd, ?_, ?_, ?_⟩
              · rw [List.length_map]
                refine Nat.lt_of_le_of_lt (List.length_filter_le _ _) ?_
                rw [List.length_take]
                exact Nat.lt_of_lt_of_le (by omega : min j2 xs.length < 64) (by decide)
              · rw [upd_same, et, List.filter_append, List.map_append]
                simp [hm]
              · intro b o e
                rw [upd_ne (ne_of_none e hD2)]
                exact sm b o e
            · refine ⟨?_, sm⟩
              rw [et, List.filter_append]
              simp [hm, hdd]
          rintro Hl ⟨hdd, sl⟩
          rw [List.length_map, List.take_length] at hdd
          refine ⟨D2, _, rfl, .inl ⟨SqL.of hdd, fun nt2 fnt2 => ?_⟩⟩
          have sn2 := sl.trans (same_new (o := .tup ((xs.filter fun x => decide (x ∈ Ro)).map V.str)) fnt2)
          have hnt2 : (upd Hl nt2 (.tup ((xs.filter fun x => decide (x ∈ Ro)).map V.str))) nt2 = some (.tup ((fs xs Ro).map V.str)) := upd_same
          have sj2 := sk.trans sn2
          have Mm := Mk.same sn2
          have hom := sn2 _ _ ho
          have hrdm := sj2 _ _ hrdj
          generalize upd Hl nt2 (.tup ((xs.filter fun x => decide (x ∈ Ro)).map V.str)) = Hm at hnt2 sj2 Mm hom hrdm ⊢
          clear hdd sl sn2 Mk sk
          obtain ⟨dx, htu⟩ := Mm.tr
          refine ⟨_, rfl, a.tu, dx, _, rfl, htu, tr_no _ _ _ _ (by decide +kernel) (by decide +kernel) (by decide +kernel) (by decide +kernel), _, rfl, rd, _, rfl, .inl (SqL.of hrdm), fun l2 fl2 => ?_⟩
          have s2 := same_new (o := .lst (R.map V.str)) fl2
          have M2 := Mm.same s2
          refine ⟨a.tu, l2, a.rt, a.ot, hd, kp, a.ps, xs, R, rs.map (·.2), 0, rfl, M2.tr, M2.rl, M2.ck, rlen, upd_same, dy, fun H3 s3 y hy => ?_⟩
          refine ⟨_, rfl, rfl, _, rfl, ?_⟩
          rw [hy.same hy0, ne_same]
          refine iteF ?_
          have s23 := s2.trans s3
          have M3 := Mm.same s23
          obtain ⟨dx3, htu3⟩ := M3.tr
          obtain ⟨y4, hy4⟩ := Drv.ex (rode := rs.map (·.2)) dyo
          refine ⟨_, rfl, a.tu, dx3, _, rfl, htu3, tr_no _ _ _ _ (by decide +kernel) (by decide +kernel) (by decide +kernel) (by decide +kernel), _, rfl, a.tu, o, a.rt, a.ot, hd, kp, a.ps, xs, Ro, rs.map (·.2), 0, rfl, M3.tr, M3.rl, M3.ck, rlen, s23 _ _ hom, dyo, fun H4 s4 y hy => ?_⟩
          have M4 := M3.same s4
          have hnt4 := s4 _ _ (s23 _ _ hnt2)
          refine ⟨_, rfl, _, rfl, .inl ⟨rfl, _, SqL.of M4.ro.1⟩, _, rfl, a.ro, _, _, CD.tD (fs xs Ro), _, rfl, rfl, SqL.of M4.ro.1, dp_ts (fun q hq => (M4.ro.2 q hq).1), dp_t hnt4, sh_ro ox M4.ro, sh_fs ox, ?_⟩
          rw [CD.cnt_tD]
          refine ⟨_, rfl, nt2, _, rfl, .inr (SqT.of hnt4), _, _, rfl, rfl, pos_fs dyo, nt2, _, _, _, rfl, rfl, SqT.of hnt4, at_drv hy4, rfl, _, rfl, ?_⟩
          rw [hy.same hy4, ne_same]
          exact iteF ⟨⟨_, _, rfl⟩, (sj2.trans s23).trans s4⟩
        · rintro σ Hk ⟨⟨w12, w13, rfl⟩, sk⟩
          exact ⟨_, _, rfl, Mj.same sk, Sj.same sk, sk _ _ hrdj, sk _ _ hntj⟩
      clear Me Se hnt hrde sn
      rintro σ' Hx ⟨w12, w13, rfl, Mx, Sx, hrd, hnt⟩
      refine ⟨_, rfl, rd, _, rfl, .inl (SqL.of hrd), fun hn fhn => ?_⟩
      have shn := same_new (o := .lst (R.map V.str)) fhn
      have M1 := Mx.same shn
      have hhn : (upd Hx hn (.lst (R.map V.str))) hn = some (.lst (R.map V.str)) := upd_same
      have keep : ∀ b o, Hx b = some o → (upd Hx hn (.lst (R.map V.str))) b = some o := shn
      generalize upd Hx hn (.lst (R.map V.str)) = H9 at M1 hhn keep
      obtain ⟨dx, htu⟩ := M1.tr
      refine ⟨_, rfl, a.tu, dx, _, rfl, htu, tr_no _ _ _ _ (by decide +kernel) (by decide +kernel) (by decide +kernel) (by decide +kernel), _, rfl, a.tu, hn, a.rt, a.ot, hd, kp, a.ps, xs, R, rs.map (·.2), 0, rfl, M1.tr, M1.rl, M1.ck, rlen, hhn, dy, fun H10 s10 y hy => ?_⟩
      refine ⟨_, rfl, rfl, _, rfl, ?_⟩
      rw [hy.same hy0, ne_same]
      refine iteF ?_
      have M2 := M1.same s10
      have hhn2 := s10 _ _ hhn
      have nps : hn ≠ a.ps := (ne_of_none Mx.pa fhn).symm
      have ntu : hn ≠ a.tu := by
        obtain ⟨dz, e⟩ := Mx.tr
        exact (ne_of_none e fhn).symm
      obtain ⟨dx2, htu2⟩ := M2.tr
      refine ⟨_, rfl, a.tu, dx2, _, rfl, htu2, tr_no _ _ _ _ (by decide +kernel) (by decide +kernel) (by decide +kernel) (by decide +kernel), _, rfl, a.tu, hn, a.rt, a.ot, hd, kp, a.ps, xs, R, rs.map (·.2), 0, c, _, rfl, M2.tr, M2.rl, M2.ch, M2.ck, rlen, hhn2, dy, M2.pa, by rw [List.length_map]; omega, nps, fun H11 hd' kp' y2 kT hy2 tr2 ch2 ck2 pa2 => ?_⟩
      have ey2 : y2 = y0 := hy2.same hy0
      rw [ey2] at ch2 pa2
      refine ⟨_, rfl, rfl, _, rfl, ?_⟩
      rw [ey2, ne_same]
      refine iteF ?_
      have hhn3 := kT _ _ hhn2 ntu nps
      have k11 : KpT a.tu a.ps Hx H11 := fun b o e n1 n2 => kT b o (s10 _ _ (keep _ _ e)) n1 n2
      have nzr : rd ≠ a.tu ∧ rd ≠ a.ps := ⟨fun z => nrd (by rw [z]; unfold Ad.Z; simp), fun z => nrd (by rw [z]; unfold Ad.Z; simp)⟩
      have hrd3 := k11 _ _ hrd nzr.1 nzr.2
      have rok : ∀ x ∈ R, PyData.strOk x = true := fun x hx => ox.sok x (dy.sub x hx)
      refine ⟨_, rfl, _, rfl, _, _, Dp.lst (SqL.of hhn3) (DQ.dp_strs R), Dp.lst (SqL.of hrd3) (DQ.dp_strs R), DQ.sh_strs rok, DQ.sh_strs rok, _, rfl, ?_⟩
      rw [DQ.eq_strs]
      refine iteF ?_
      refine ⟨_, rfl, .inl ⟨rfl, _, SqL.of hhn3⟩, hn, _, rfl, rfl, hhn3, ?_⟩
      have hhn4 : (upd H11 hn (.lst (R.map V.str).reverse)) hn = some (.lst (R.map V.str).reverse) := upd_same
      refine ⟨_, rfl, .inl ⟨rfl, _, SqL.of hhn4⟩, hn, _, _, rfl, rfl, hhn4, by rw [List.length_reverse, List.length_map]; have := dy.ln; exact Nat.lt_of_lt_of_le (by omega : R.length < 64) (by decide), ?_⟩
      have off : ∀ b o, b ≠ hn → H11 b = some o → (upd (upd H11 hn (.lst (R.map V.str).reverse)) hn (.lst ((R.map V.str).reverse ++ [.str "zz"]))) b = some o := fun b o n e => by
        rw [upd_ne n, upd_ne n]
        exact e
      generalize upd (upd H11 hn (.lst (R.map V.str).reverse)) hn (.lst ((R.map V.str).reverse ++ [.str "zz"])) = H12 at off ⊢
      have tk : ∀ b ys, H11 b = some (.tup ys) → H12 b = some (.tup ys) := fun b ys e => off _ _ (fun z => by rw [z, hhn3] at e; cases e) e
      have k12 : KpT a.tu a.ps Hx H12 := fun b o e n1 n2 => off _ _ (ne_of_none e fhn) (k11 b o e n1 n2)
      obtain ⟨dx3, htu3⟩ := tr2
      obtain ⟨kx, hro, hdl, fin⟩ := Mx.ride hnt dy k12 ⟨dx3, off _ _ (fun z => ntu z.symm) htu3⟩ (tk _ _ ch2) (ck2.ext tk) (off _ _ (fun z => nps z.symm) pa2)
      refine ⟨_, rfl, .inl ⟨rfl, _, SqL.of hro⟩, _, rfl, a.ro, _, _, rfl, rfl, hro, Nat.lt_of_le_of_lt (by rw [List.length_map]; omega : _ ≤ 2000) (by decide), ?_⟩
      refine ⟨_, rfl, .inl ⟨rfl, _, SqL.of hdl⟩, _, rfl, a.dl, _, _, rfl, rfl, hdl, Nat.lt_of_le_of_lt (by rw [List.length_map]; omega : _ ≤ 2000) (by decide), ?_⟩
      generalize upd (upd H12 a.ro (.lst ((rs.map fun p => V.ref p.1) ++ [.ref nt]))) a.dl (.lst (drs.map V.str ++ [.str y0])) = H13 at kx fin ⊢
      have bnd50 : ∀ x ∈ xs, (c x).natAbs < 2 ^ 50 := fun x _ => Nat.lt_of_le_of_lt (bnd x) (Nat.lt_of_lt_of_le (by omega : 1000 * i < 100000) (by decide))
      refine ⟨_, rfl, _, rfl, _, rfl, d, rd, xs, R, y0, c, rfl, Mx.du.xz kx Mx.dz Mx.nt, l8, kx _ _ hrd nrd, dy, hy0.mem.1, bnd50, fun d' H14 s14 fd' du' => ?_⟩
      have M14 := fin d' H14 s14 fd' du'
      have S14 : Some30 H14 a.Z xs so ds := (Sx.xk kx).same s14
      have bn' := nxt_small (R := R) (y := y0) (List.length_pos_iff.mpr dy.ne) (by have := dy.ln; omega) bnd
      have dl2 : (drs ++ [y0]).length = i + 1 := by rw [List.length_append, dln]; rfl
      generalize drs ++ [y0] = drs' at M14 dl2
      generalize rs ++ [(nt, fs xs R)] = rs' at M14
      have l1' : rs'.length ≤ 1000 := by have := M14.ll; omega
      clear kx fin s14 fd' du' Mx Sx M1 M2 htu htu2 htu3 hrd hrd3 hhn hhn2 hhn3 hhn4 off tk k11 k12 kT ch2 ck2 pa2 hro hdl keep s10
      -- what is remembered
      obtain ⟨es, hk, hes, am, pw⟩ := M14.ck
      obtain ⟨r1, r2, r3, r4⟩ := rp_mem ox M14.ro l1' am
      obtain ⟨dx4, htu4⟩ := M14.tr
      have dpk : Dp K H14 (.ref kp') (.tuple ((es.map Ent.p).map ES.pD)) := Dp.tup (SqT.of hk) (by rw [List.map_map]; exact dp_ents hes)
      refine ⟨_, rfl, a.tu, dx4, _, rfl, htu4, tr_no _ _ _ _ (by decide +kernel) (by decide +kernel) (by decide +kernel) (by decide +kernel), a.tu, a.rt, a.ot, hd', kp', a.ps, xs, 0, rfl, M14.tr, M14.rl, _, _, rfl, dpk, r1, r2, r3, r4, ?_⟩
      refine ⟨_, rfl, _, rfl, a.ot, a.ro, xs, rs', rfl, ox, M14.ro, l1', fun mt H15 s15 ⟨gs, hg, hgs, am2, pw2⟩ => ?_⟩
      have eqp : gs.map Ent.p = es.map Ent.p := am2.one am pw2 pw
      have dpg : Dp K H15 (.ref mt) (.tuple ((es.map Ent.p).map ES.pD)) := Dp.tup (SqT.of hg) (by rw [← eqp, List.map_map]; exact dp_ents hgs)
      refine ⟨_, _, rfl, dpg, r1, r2, r3, r4, rfl, _, rfl, ?_⟩
      rw [ne_same]
      refine iteF ?_
      have M15 := M14.same s15
      have S15 := S14.same s15
      obtain ⟨dx5, htu5⟩ := M15.tr
      refine ⟨_, rfl, a.tu, dx5, _, rfl, htu5, a.tu, a.rt, hd', kp', a.ps, _, rfl, M15.tr, M15.pa, drs'.length, by rw [List.length_map], by omega, _, rfl, a.ro, _, rfl, .inl (SqL.of M15.ro.1), rfl, _, rfl, ?_⟩
      have e8 : (!decide (V.int (drs'.length : Nat) = V.int (((rs'.map fun p => V.ref p.1).length : Nat) : Int))) = false := by rw [List.length_map, M15.ll]; simp
      rw [e8]
      refine iteF ?_
      refine ⟨_, rfl, _, rfl, _, rfl, a.tu, a.ot, d', a.rt, hd', kp', a.ps, xs, 0, _, rfl, M15.tr, M15.rl, M15.ch, M15.du, fun Hu su => ⟨true, rfl, iteF ?_⟩⟩
      have Mu := M15.same su
      have Su := S15.same su
      obtain ⟨dx6, htu6⟩ := Mu.tr
      refine ⟨_, rfl, a.tu, dx6, _, rfl, htu6, tr_no _ _ _ _ (by decide +kernel) (by decide +kernel) (by decide +kernel) (by decide +kernel), a.tu, a.rt, a.ot, hd', kp', a.ps, xs, drs', 0, rfl, Mu.tr, Mu.rl, Mu.pa, fun D6 H4 s4 fD6 hD6 => ?_⟩
      have Mz := Mu.same s4
      have Sz := Su.same s4
      have hot5 := Mz.rl.2.1
      refine ⟨_, rfl, a.ot, rfl, ⟨_, SqT.of hot5⟩, fun E4 hE4 => lc_tup (fun i H5 => ∃ pa : Str → Addr, H5 E4 = some (.lst ((xs.take i).map fun x => V.ref (pa x))) ∧ (∀ x ∈ xs.take i, H5 (pa x) = some (.tup [.str x, .int (drs'.count x : Nat)])) ∧ Same H4 H5)
        ⟨fun _ => 0, upd_same, fun x hx => by simp at hx, same_new hE4⟩ (fun _ H5 _ ⟨_, _, _, sm⟩ => SqT.of (sm _ _ hot5)) ?_ ?_⟩
      · rintro j x H5 hx ⟨pa, hee5, hpa, sm⟩
        have hi' : j < xs.length := by
          have := (List.getElem?_eq_some_iff.mp hx).1
          simpa using this
        rw [List.getElem?_map] at hx
        obtain ⟨z, hz, rfl⟩ := Option.map_eq_some_iff.mp hx
        have nz := nin_take ox.nd hz
        have et : xs.take (j + 1) = xs.take j ++ [z] := by rw [List.take_succ, hz]; rfl
        have hdl5 := sm _ _ Mz.dr
        refine ⟨rfl, ?_⟩
        refine ⟨_, rfl, _, rfl, Or.inl ⟨rfl, _, SqL.of hdl5⟩, _, rfl, a.dl, drs', z, rfl, rfl, SqL.of hdl5, by show 2 ≤ sizeLine; decide, fun q fq => ?_⟩
        have sq := same_new (o := .tup [.str z, .int (drs'.count z : Nat)]) fq
        have hE5 := sq _ _ hee5
        refine ⟨_, hE5, ?_, fun x => if x = z then q else pa x, ?_, ?_, ?_⟩
        · rw [List.length_map, List.length_take]
          exact Nat.lt_of_lt_of_le (by omega : min j xs.length < 64) (by decide)
        · rw [upd_same, et, List.map_append]
          have e1 : (xs.take j).map (fun x => V.ref (pa x)) = (xs.take j).map fun x => V.ref (if x = z then q else pa x) := List.map_congr_left fun x hx => by rw [if_neg (show x ≠ z from fun e => nz (e ▸ hx))]
          rw [e1]
          simp
        · intro x hx
          have keep : ∀ {p : Addr} {o : HO} {ys : List V}, (upd H5 q (.tup [.str z, .int (drs'.count z : Nat)])) p = some (.tup ys) → (upd (upd H5 q (.tup [.str z, .int (drs'.count z : Nat)])) E4 o) p = some (.tup ys) := fun {p o ys} hp => by
            rw [upd_ne (fun e => by rw [e, hE5] at hp; cases hp)]
            exact hp
          show (upd _ E4 _) (if x = z then q else pa x) = _
          rw [et] at hx
          rcases List.mem_append.mp hx with hx | hx
          · rw [if_neg (show x ≠ z from fun e => nz (e ▸ hx))]
            exact keep (sq _ _ (hpa x hx))
          · rw [List.mem_singleton] at hx
            rw [if_pos hx, hx]
            exact keep upd_same
        · intro a o e
          rw [upd_ne (ne_of_none e hE4)]
          exact sq a o (sm a o e)
      rintro H5 ⟨pa, hee5, hpa, s5⟩
      rw [List.length_map, List.take_length] at hee5 hpa
      refine ⟨E4, xs.map pa, xs.map fun x => ((Sum.inr x : Key), V.int (drs'.count x : Nat)), rfl, by rw [List.map_map]; exact SqL.of hee5, paired_map fun x hx => SqT.of (hpa x hx), fun dd fdd => ?_⟩
      have em := DQ.merge_map (fun x => V.int (drs'.count x : Nat)) (l := xs) (m := []) ox.nd
      rw [List.nil_append] at em
      have em' : mergeK [] (xs.map fun x => ((Sum.inr x : Key), V.int (drs'.count x : Nat))) = xs.map fun x => ((Sum.inr x : Key), V.int (drs'.count x : Nat)) := em
      rw [em']
      have sdd := same_new (o := .dK (xs.map fun x => ((Sum.inr x : Key), V.int (drs'.count x : Nat)))) fdd
      have s46 := s5.trans sdd
      refine ⟨D6, dd, _, _, rfl, rfl, s46 _ _ hD6, upd_same, rfl, fun p hp => ?_, _, rfl, iteF ?_⟩
      · obtain ⟨x, hx, rfl⟩ := List.mem_map.mp hp
        exact ⟨DQ.val_map (fun x => V.int (drs'.count x : Nat)) hx, rfl⟩
      exact ⟨_, _, _, _, _, _, _, hd', kp', d', _, rs', drs', rfl, (Mz.same s46).weak (by omega), Sz.same s46, dl2, bn'⟩
    · rintro σ Ha ⟨v8, v9, v10, v11, v12, v13, v14, hd, kp, d, c, rs, drs, rfl, Ma, Sa, dln, bnd⟩
      exact hQ Ha
end
end K30
set_option Elab.async false
set_option linter.all false
set_option maxRecDepth 100000
set_option maxHeartbeats 0
namespace K30
open PySem PySem.Spec PyProof.Rows L2
open C8 (Cal Mak Met pe_c pe_mk pe_mt pe_mt0)
def fa : List He.Fa := [.glo "is_whole", .glo "is_name", .glo "is_order", .glo "is_rule", .glo "common_part", .glo "names_of", .glo "first_memory", .glo "driver_by", .glo "parts_behind", .glo "rounds_behind", .glo "memory_behind", .glo "_law_held", .glo "_law_draw", .glo "_law_names", .glo "_law_low", .glo "_law_add", .glo "_law_pair", .glo "_law_day", .glo "_law_stands_right", .glo "_law_gone", .glo "_law_memory", .glo "law", .free "isinstance", .free "int", .free "bool", .free "abs", .free "list", .free "range", .free "len", .free "str", .free "all", .free "tuple", .free "set", .free "zip", .free "min", .free "enumerate", .free "dict", .free "sorted", .free "repr", .glo "Share", .cls "Share", .mkr "Share", .glo "Turns", .cls "Turns", .mkr "Turns", .noat "Share" "top", .noat "Share" "bottom", .noat "Turns" "rule", .noat "Turns" "held", .noat "Turns" "kept", .noat "Turns" "past", .meth "Turns" "check_riders", .meth "Turns" "who", .meth "Turns" "ride", .meth "Turns" "stands", .meth "Turns" "drives", .meth "Turns" "memory", .meth "Turns" "__len__", .int "LONGEST_NAME" 8, .int "MOST_NAMES" 8, .int "RIDE_PARTS" 840]
def xk (K : PySem.W.Frag) : Bool := (fun K => GX.isB K (He.ga K "Share")) K
abbrev R : PySem.W.OpenRow := PySem.W.OpenLaw.row PySem.Challenge.rw_rideturns_k30_by_rounds
abbrev hk : PySem.W.Hook := He.hookX 6 fa fn [] [] xk
def ob (s : PySem.W.SharedT) : He.AlX := He.obsX 6 fa fn [] [] xk (HandSHeadRun.getT s)
theorem ob_eq (s : PySem.W.SharedT) : ob s = hk.obs s.abs := He.obsX_eq (HandSHeadRun.getT_eq s)
abbrev loose : List Str := [("_wall" : Str), ("NoKind" : Str), ("Nought" : Str), ("NoName" : Str), ("NoRule" : Str), ("LONGEST_NAME" : Str), ("is_whole" : Str), ("is_between" : Str), ("is_name" : Str), ("MOST_NAMES" : Str), ("MOST_GRAIN" : Str), ("is_order" : Str), ("is_rule" : Str), ("common_part" : Str), ("Share" : Str), ("RIDE_PARTS" : Str), ("names_of" : Str), ("first_memory" : Str), ("least_driver" : Str), ("driver_by" : Str), ("parts_behind" : Str), ("line_behind" : Str), ("rounds_behind" : Str), ("memory_behind" : Str), ("Turns" : Str), ("_law_held" : Str), ("_law_draw" : Str), ("_law_names" : Str), ("_law_low" : Str), ("_law_add" : Str), ("_law_pair" : Str), ("_law_day" : Str), ("_law_stands_right" : Str), ("_law_gone" : Str), ("_law_memory" : Str)]
theorem run_ (w : World) : HandSHeadRun.RunEq R (PySem.W.view R.prog [41]) hk ob 3000 loose w := by
  intro os
  kernel_rfl
theorem cal_of {P : Program} {w : World} {K : PySem.W.Frag} {mg : Str → Option Value} {base : Heap} {f : Addr} {fd : FuncData} {ps : List Str} {k : Nat} {x : Str} {sp : Sp} (F : FnOk P w K mg base CX0 k f fd ps sp) (g : mg x = some (.ref f)) (kp : PySem.W.keepIn K (.ref f) = true) (b : Binds K fd ps []) : Cal P w K mg base k x sp [] :=
  ⟨f, fd, ps, [], F, g, kp, b, .nil⟩
theorem met_of {P : Program} {w : World} {K : PySem.W.Frag} {mg : Str → Option Value} {base : Heap} {f C : Addr} {fd : FuncData} {ps : List Str} {k : Nat} {m : Str} {sp : Sp} (c : Cls K C) (h : Meth K C m f) (F : FnOk P w K mg base CX0 k f fd ps sp) (b : Binds K fd ps []) : Met P w K mg base k C m sp [] :=
  ⟨f, fd, ps, [], c, h, F, b, .nil⟩
theorem facts {P : Program} {w : World} {K : PySem.W.Frag} {h h0 : Heap} {mg : Str → Option Value} {f : Addr} (X : K.In h) (G : h.Ns mainGlobals mg) (hfa : mg ("law" : Str) = some (.ref f)) (c : He.SaysX fa fn [] [] xk w h0 K) :
    ∃ fd : FuncData, (∀ (s : Shared) (v : Value), BindsTo s fd ⟨[v], []⟩ [("_law_script", v)]) ∧ ∀ base : Heap, K.In base → base.Ns mainGlobals mg → GL.FnG P w K mg base 7 f fd ["_law_script"] (spLaw K) := by
  have d := c.t.d
  have x := c.more
  have gl : ∀ (i : Nat) (x : Str), fa[i]? = some (.glo x) → mg x = some (.ref (He.ga K x)) := fun i x e => He.glo_ok X G (d.fact i e)
  have fr : ∀ (i : Nat) (x : Str), fa[i]? = some (.free x) → mg x = none := fun i x e => He.free_ok X G (d.fact i e)
  have me : ∀ (i : Nat) (C m : Str), fa[i]? = some (.meth C m) → Meth K (He.ga K C) m (He.ma K (He.ga K C) m) := fun i C m e => He.meth_ok (d.fact i e)
  have gl_is_whole := gl 0 "is_whole" rfl
  have gl_is_name := gl 1 "is_name" rfl
  have gl_is_order := gl 2 "is_order" rfl
  have gl_is_rule := gl 3 "is_rule" rfl
  have gl_common_part := gl 4 "common_part" rfl
  have gl_names_of := gl 5 "names_of" rfl
  have gl_first_memory := gl 6 "first_memory" rfl
  have gl_driver_by := gl 7 "driver_by" rfl
  have gl_parts_behind := gl 8 "parts_behind" rfl
  have gl_rounds_behind := gl 9 "rounds_behind" rfl
  have gl_memory_behind := gl 10 "memory_behind" rfl
  have gl__law_held := gl 11 "_law_held" rfl
  have gl__law_draw := gl 12 "_law_draw" rfl
  have gl__law_names := gl 13 "_law_names" rfl
  have gl__law_low := gl 14 "_law_low" rfl
  have gl__law_add := gl 15 "_law_add" rfl
  have gl__law_pair := gl 16 "_law_pair" rfl
  have gl__law_day := gl 17 "_law_day" rfl
  have gl__law_stands_right := gl 18 "_law_stands_right" rfl
  have gl__law_gone := gl 19 "_law_gone" rfl
  have gl__law_memory := gl 20 "_law_memory" rfl
  have gl_law := gl 21 "law" rfl
  have fr_isinstance := fr 22 "isinstance" rfl
  have fr_int := fr 23 "int" rfl
  have fr_bool := fr 24 "bool" rfl
  have fr_abs := fr 25 "abs" rfl
  have fr_list := fr 26 "list" rfl
  have fr_range := fr 27 "range" rfl
  have fr_len := fr 28 "len" rfl
  have fr_str := fr 29 "str" rfl
  have fr_all := fr 30 "all" rfl
  have fr_tuple := fr 31 "tuple" rfl
  have fr_set := fr 32 "set" rfl
  have fr_zip := fr 33 "zip" rfl
  have fr_min := fr 34 "min" rfl
  have fr_enumerate := fr 35 "enumerate" rfl
  have fr_dict := fr 36 "dict" rfl
  have fr_sorted := fr 37 "sorted" rfl
  have fr_repr := fr 38 "repr" rfl
  have gl_Share := gl 39 "Share" rfl
  have cls_Share := He.cls_ok (d.fact 40 (f := .cls "Share") rfl)
  have mk_Share := He.mkr_ok (d.fact 41 (f := .mkr "Share") rfl)
  have gl_Turns := gl 42 "Turns" rfl
  have cls_Turns := He.cls_ok (d.fact 43 (f := .cls "Turns") rfl)
  have mk_Turns := He.mkr_ok (d.fact 44 (f := .mkr "Turns") rfl)
  have no_Share_top := He.noat_ok (d.fact 45 (f := .noat "Share" "top") rfl)
  have no_Share_bottom := He.noat_ok (d.fact 46 (f := .noat "Share" "bottom") rfl)
  have no_Turns_rule := He.noat_ok (d.fact 47 (f := .noat "Turns" "rule") rfl)
  have no_Turns_held := He.noat_ok (d.fact 48 (f := .noat "Turns" "held") rfl)
  have no_Turns_kept := He.noat_ok (d.fact 49 (f := .noat "Turns" "kept") rfl)
  have no_Turns_past := He.noat_ok (d.fact 50 (f := .noat "Turns" "past") rfl)
  have me_Turns_check_riders := me 51 "Turns" "check_riders" rfl
  have me_Turns_who := me 52 "Turns" "who" rfl
  have me_Turns_ride := me 53 "Turns" "ride" rfl
  have me_Turns_stands := me 54 "Turns" "stands" rfl
  have me_Turns_drives := me 55 "Turns" "drives" rfl
  have me_Turns_memory := me 56 "Turns" "memory" rfl
  have me_Turns_len := me 57 "Turns" "__len__" rfl
  have val_LONGEST_NAME := He.int_ok X G (d.fact 58 (f := .int "LONGEST_NAME" 8) rfl)
  have val_MOST_NAMES := He.int_ok X G (d.fact 59 (f := .int "MOST_NAMES" 8) rfl)
  have val_RIDE_PARTS := He.int_ok X G (d.fact 60 (f := .int "RIDE_PARTS" 840) rfl)
  obtain ⟨fd_is_whole, D_is_whole⟩ := d.def_ 5 (d := d_is_whole) rfl
  obtain ⟨fd_is_name, D_is_name⟩ := d.def_ 7 (d := d_is_name) rfl
  obtain ⟨fd_is_order, D_is_order⟩ := d.def_ 8 (d := d_is_order) rfl
  obtain ⟨fd_is_rule, D_is_rule⟩ := d.def_ 9 (d := d_is_rule) rfl
  obtain ⟨fd_common_part, D_common_part⟩ := d.def_ 10 (d := d_common_part) rfl
  obtain ⟨fd_Share_init, D_Share_init⟩ := d.def_ 11 (d := d_Share_init) rfl
  obtain ⟨fd_names_of, D_names_of⟩ := d.def_ 21 (d := d_names_of) rfl
  obtain ⟨fd_first_memory, D_first_memory⟩ := d.def_ 22 (d := d_first_memory) rfl
  obtain ⟨fd_driver_by, D_driver_by⟩ := d.def_ 24 (d := d_driver_by) rfl
  obtain ⟨fd_parts_behind, D_parts_behind⟩ := d.def_ 25 (d := d_parts_behind) rfl
  obtain ⟨fd_rounds_behind, D_rounds_behind⟩ := d.def_ 27 (d := d_rounds_behind) rfl
  obtain ⟨fd_memory_behind, D_memory_behind⟩ := d.def_ 28 (d := d_memory_behind) rfl
  obtain ⟨fd_Turns_init, D_Turns_init⟩ := d.def_ 29 (d := d_Turns_init) rfl
  obtain ⟨fd_Turns_len, D_Turns_len⟩ := d.def_ 31 (d := d_Turns_len) rfl
  obtain ⟨fd_Turns_check_riders, D_Turns_check_riders⟩ := d.def_ 32 (d := d_Turns_check_riders) rfl
  obtain ⟨fd_Turns_who, D_Turns_who⟩ := d.def_ 33 (d := d_Turns_who) rfl
  obtain ⟨fd_Turns_ride, D_Turns_ride⟩ := d.def_ 34 (d := d_Turns_ride) rfl
  obtain ⟨fd_Turns_stands, D_Turns_stands⟩ := d.def_ 35 (d := d_Turns_stands) rfl
  obtain ⟨fd_Turns_drives, D_Turns_drives⟩ := d.def_ 36 (d := d_Turns_drives) rfl
  obtain ⟨fd_Turns_memory, D_Turns_memory⟩ := d.def_ 37 (d := d_Turns_memory) rfl
  obtain ⟨fd_l_held, D_l_held⟩ := d.def_ 38 (d := d_l_held) rfl
  obtain ⟨fd_l_draw, D_l_draw⟩ := d.def_ 39 (d := d_l_draw) rfl
  obtain ⟨fd_l_names, D_l_names⟩ := d.def_ 40 (d := d_l_names) rfl
  obtain ⟨fd_l_low, D_l_low⟩ := d.def_ 41 (d := d_l_low) rfl
  obtain ⟨fd_l_add, D_l_add⟩ := d.def_ 42 (d := d_l_add) rfl
  obtain ⟨fd_l_pair, D_l_pair⟩ := d.def_ 43 (d := d_l_pair) rfl
  obtain ⟨fd_l_day, D_l_day⟩ := d.def_ 44 (d := d_l_day) rfl
  obtain ⟨fd_l_stands_right, D_l_stands_right⟩ := d.def_ 45 (d := d_l_stands_right) rfl
  obtain ⟨fd_l_gone, D_l_gone⟩ := d.def_ 46 (d := d_l_gone) rfl
  obtain ⟨fd_l_memory, D_l_memory⟩ := d.def_ 47 (d := d_l_memory) rfl
  obtain ⟨fd_law, D_law⟩ := d.def_ 48 (d := d_law) rfl
  have e := hfa.symm.trans gl_law
  cases e
  have bL := FunD.bindsA (ps := ["_law_script"]) D_law fun _ _ _ _ _ _ us hl => match us, hl with | [_], _ => rfl
  refine ⟨fd_law, fun s v => bL s [v] rfl, fun base _ _ => ?_⟩
  have b_is_whole : Binds K fd_is_whole ["thing"] [] := D_is_whole.bindsN fun _ _ _ _ _ _ us hl => match us, hl with | [_], _ => rfl
  have b_is_name : Binds K fd_is_name ["thing"] [] := D_is_name.bindsN fun _ _ _ _ _ _ us hl => match us, hl with | [_], _ => rfl
  have b_is_order : Binds K fd_is_order ["thing"] [] := D_is_order.bindsN fun _ _ _ _ _ _ us hl => match us, hl with | [_], _ => rfl
  have b_is_rule : Binds K fd_is_rule ["thing"] [] := D_is_rule.bindsN fun _ _ _ _ _ _ us hl => match us, hl with | [_], _ => rfl
  have b_common_part : Binds K fd_common_part ["one", "other"] [] := D_common_part.bindsN fun _ _ _ _ _ _ us hl => match us, hl with | [_, _], _ => rfl
  have b_Share_init : Binds K fd_Share_init ["self", "top", "bottom"] [] := by
    obtain ⟨ds, h1, h2⟩ := D_Share_init.binds1 (ps := ["self", "top", "bottom"]) 3 1 (List.cons_ne_nil _ _) rfl (fun T kV doc pm an cdv ct us its hl h1 => match us, hl, its, h1 with | [_, _, _], _, [_], _ => ⟨_, rfl, rfl⟩)
    cases h1
    exact h2
  obtain ⟨ds1_Share_init, v1_Share_init, b1_Share_init⟩ := D_Share_init.binds1 (ps := ["self", "top", "bottom"]) 2 0 (List.cons_ne_nil _ _) rfl (fun T kV doc pm an cdv ct us its hl h1 => match us, hl, its, h1 with | [_, _], _, [_], _ => ⟨_, rfl, rfl⟩)
  have b_names_of : Binds K fd_names_of ["order", "riders"] [] := D_names_of.bindsN fun _ _ _ _ _ _ us hl => match us, hl with | [_, _], _ => rfl
  have b_first_memory : Binds K fd_first_memory ["rule"] [] := D_first_memory.bindsN fun _ _ _ _ _ _ us hl => match us, hl with | [_], _ => rfl
  have b_driver_by : Binds K fd_driver_by ["rule", "memory", "riders"] [] := D_driver_by.bindsN fun _ _ _ _ _ _ us hl => match us, hl with | [_, _, _], _ => rfl
  have b_parts_behind : Binds K fd_parts_behind ["order", "held", "riders", "driver"] [] := D_parts_behind.bindsN fun _ _ _ _ _ _ us hl => match us, hl with | [_, _, _, _], _ => rfl
  have b_rounds_behind : Binds K fd_rounds_behind ["order", "rounds", "riders"] [] := D_rounds_behind.bindsN fun _ _ _ _ _ _ us hl => match us, hl with | [_, _, _], _ => rfl
  have b_memory_behind : Binds K fd_memory_behind ["rule", "memory", "riders"] [] := D_memory_behind.bindsN fun _ _ _ _ _ _ us hl => match us, hl with | [_, _, _], _ => rfl
  have b_Turns_init : Binds K fd_Turns_init ["self", "rule"] [] := D_Turns_init.bindsN fun _ _ _ _ _ _ us hl => match us, hl with | [_, _], _ => rfl
  have b_Turns_len : Binds K fd_Turns_len ["self"] [] := D_Turns_len.bindsN fun _ _ _ _ _ _ us hl => match us, hl with | [_], _ => rfl
  have b_Turns_check_riders : Binds K fd_Turns_check_riders ["self", "riders"] [] := D_Turns_check_riders.bindsN fun _ _ _ _ _ _ us hl => match us, hl with | [_, _], _ => rfl
  have b_Turns_who : Binds K fd_Turns_who ["self", "riders"] [] := D_Turns_who.bindsN fun _ _ _ _ _ _ us hl => match us, hl with | [_, _], _ => rfl
  have b_Turns_ride : Binds K fd_Turns_ride ["self", "riders"] [] := D_Turns_ride.bindsN fun _ _ _ _ _ _ us hl => match us, hl with | [_, _], _ => rfl
  have b_Turns_stands : Binds K fd_Turns_stands ["self"] [] := D_Turns_stands.bindsN fun _ _ _ _ _ _ us hl => match us, hl with | [_], _ => rfl
  have b_Turns_drives : Binds K fd_Turns_drives ["self"] [] := D_Turns_drives.bindsN fun _ _ _ _ _ _ us hl => match us, hl with | [_], _ => rfl
  have b_Turns_memory : Binds K fd_Turns_memory ["self"] [] := D_Turns_memory.bindsN fun _ _ _ _ _ _ us hl => match us, hl with | [_], _ => rfl
  have b_l_held : Binds K fd_l_held ["_law_script"] [] := D_l_held.bindsN fun _ _ _ _ _ _ us hl => match us, hl with | [_], _ => rfl
  have b_l_draw : Binds K fd_l_draw ["_law_held_here", "_law_many"] [] := D_l_draw.bindsN fun _ _ _ _ _ _ us hl => match us, hl with | [_, _], _ => rfl
  have b_l_names : Binds K fd_l_names ["_law_held_here", "_law_many"] [] := D_l_names.bindsN fun _ _ _ _ _ _ us hl => match us, hl with | [_, _], _ => rfl
  have b_l_low : Binds K fd_l_low ["_law_top", "_law_bottom"] [] := D_l_low.bindsN fun _ _ _ _ _ _ us hl => match us, hl with | [_, _], _ => rfl
  have b_l_add : Binds K fd_l_add ["_law_one", "_law_other"] [] := D_l_add.bindsN fun _ _ _ _ _ _ us hl => match us, hl with | [_, _], _ => rfl
  have b_l_pair : Binds K fd_l_pair ["_law_share"] [] := D_l_pair.bindsN fun _ _ _ _ _ _ us hl => match us, hl with | [_], _ => rfl
  have b_l_day : Binds K fd_l_day ["_law_held_here", "_law_order"] [] := D_l_day.bindsN fun _ _ _ _ _ _ us hl => match us, hl with | [_, _], _ => rfl
  have b_l_stands_right : Binds K fd_l_stands_right ["_law_turns", "_law_order", "_law_due"] [] := D_l_stands_right.bindsN fun _ _ _ _ _ _ us hl => match us, hl with | [_, _, _], _ => rfl
  have b_l_gone : Binds K fd_l_gone ["_law_due", "_law_riders", "_law_driver"] [] := D_l_gone.bindsN fun _ _ _ _ _ _ us hl => match us, hl with | [_, _, _], _ => rfl
  have b_l_memory : Binds K fd_l_memory ["_law_order", "_law_rode"] [] := D_l_memory.bindsN fun _ _ _ _ _ _ us hl => match us, hl with | [_, _], _ => rfl
  have b_law : Binds K fd_law ["_law_script"] [] := D_law.bindsN fun _ _ _ _ _ _ us hl => match us, hl with | [_], _ => rfl
  unfold xk GX.isB at x
  simp only [Bool.and_eq_true, decide_eq_true_eq] at x
  obtain ⟨y1, y2, y3, y4⟩ := x
  have IC : IsC K (He.ga K "Share") := ⟨He.eqO_ok y1, He.eqO_ok y2, y3, y4, by unfold PySem.W.kitOne; rw [if_pos (beq_self_eq_true _)]⟩
  have B : Bl mg := ⟨fr_isinstance, fr_int, fr_bool, fr_abs, fr_list, fr_range, fr_len⟩
  have B2 : Bl2 mg := ⟨fr_str, fr_all, fr_tuple, fr_set, fr_zip, fr_min, fr_enumerate⟩
  have B3 : Bl3 mg := ⟨fr_dict, fr_sorted⟩
  have T : Cl K mg (He.ga K "Share") := ⟨cls_Share, no_Share_top, no_Share_bottom, gl_Share⟩
  have TT : ClT K (He.ga K "Turns") := ⟨cls_Turns, no_Turns_rule, no_Turns_held, no_Turns_kept, no_Turns_past⟩
  have cW : CalW P w K mg base := cal_of (ok_whole D_is_whole B) gl_is_whole D_is_whole.kp b_is_whole
  have cNa : CalN P w K mg base := cal_of (ok_name D_is_name B B2 val_LONGEST_NAME) gl_is_name D_is_name.kp b_is_name
  have cOr := cal_of (ok_order D_is_order B B2 val_MOST_NAMES cNa) gl_is_order D_is_order.kp b_is_order
  have cRu := cal_of (ok_rule D_is_rule B B2 cOr) gl_is_rule D_is_rule.kp b_is_rule
  have cG : CalG P w K mg base := cal_of (ok_gcd D_common_part B) gl_common_part D_common_part.kp b_common_part
  have MS : MakS P w K mg base (He.ga K "Share") := ⟨_, _, _, _, mk_Share, ok_init D_Share_init cW cG T, T.g, b_Share_init, .nil⟩
  have M1 : MakS1 P w K mg base (He.ga K "Share") := ⟨_, _, _, _, mk_Share, ok_init D_Share_init cW cG T, T.g, b1_Share_init, v1_Share_init⟩
  have cNo := cal_of (P := P) (w := w) (base := base) (ok_no D_names_of B2) gl_names_of D_names_of.kp b_names_of
  have cFm := cal_of (P := P) (w := w) (base := base) (mg := mg) (ok_fm D_first_memory) gl_first_memory D_first_memory.kp b_first_memory
  have cDb := cal_of (ok_db D_driver_by cNo) gl_driver_by D_driver_by.kp b_driver_by
  have cPb := cal_of (P := P) (w := w) (base := base) (ok_pb D_parts_behind B B2 val_RIDE_PARTS) gl_parts_behind D_parts_behind.kp b_parts_behind
  have cRb := cal_of (ok_rb D_rounds_behind B B2 fr_sorted cNo) gl_rounds_behind D_rounds_behind.kp b_rounds_behind
  have cMb := cal_of (ok_mb D_memory_behind cRb) gl_memory_behind D_memory_behind.kp b_memory_behind
  have MT : Mak P w K mg base 4 "Turns" (He.ga K "Turns") (spTi (He.ga K "Turns")) [] := ⟨_, _, _, _, mk_Turns, ok_ti D_Turns_init B2 TT cRu cFm, gl_Turns, b_Turns_init, .nil⟩
  have mC := met_of (P := P) (w := w) (base := base) TT.cl me_Turns_check_riders (ok_ck D_Turns_check_riders B B2 TT) b_Turns_check_riders
  have mW := met_of TT.cl me_Turns_who (ok_who D_Turns_who TT mC cDb) b_Turns_who
  have mR := met_of TT.cl me_Turns_ride (ok_ride D_Turns_ride TT mW cPb cMb) b_Turns_ride
  have mS := met_of TT.cl me_Turns_stands (ok_st D_Turns_stands B2 TT val_RIDE_PARTS MS) b_Turns_stands
  have mDr := met_of (mg := mg) (P := P) (w := w) (base := base) TT.cl me_Turns_drives (ok_dr D_Turns_drives TT) b_Turns_drives
  have mMe := met_of (mg := mg) (P := P) (w := w) (base := base) TT.cl me_Turns_memory (ok_mem D_Turns_memory TT) b_Turns_memory
  have SL : OW.Spc P w K mg base 1 (He.ga K "Turns") "__len__" (spLen (He.ga K "Turns")) := ⟨_, _, _, me_Turns_len.at_, me_Turns_len.fn, ok_len D_Turns_len B TT, b_Turns_len⟩
  have cH := cal_of (P := P) (w := w) (base := base) (ok_held D_l_held B) gl__law_held D_l_held.kp b_l_held
  have cD : CalD P w K mg base := cal_of (ok_draw D_l_draw B) gl__law_draw D_l_draw.kp b_l_draw
  have cNm := cal_of (ok_names D_l_names B cD) gl__law_names D_l_names.kp b_l_names
  have cLo : CalL P w K mg base := cal_of (ok_low D_l_low B) gl__law_low D_l_low.kp b_l_low
  have cA := cal_of (ok_add D_l_add cLo) gl__law_add D_l_add.kp b_l_add
  have cP := cal_of (P := P) (w := w) (base := base) (ok_pair D_l_pair B T IC) gl__law_pair D_l_pair.kp b_l_pair
  have cDy := cal_of (ok_day D_l_day B fr_min cD) gl__law_day D_l_day.kp b_l_day
  have cS := cal_of (ok_sr D_l_stands_right B B3 mS cP M1) gl__law_stands_right D_l_stands_right.kp b_l_stands_right
  have cGo := cal_of (ok_go D_l_gone B B3 cA) gl__law_gone D_l_gone.kp b_l_gone
  have cMm := cal_of (P := P) (w := w) (base := base) (ok_mm D_l_memory B B2 fr_sorted) gl__law_memory D_l_memory.kp b_l_memory
  exact ok_law D_law B B2 B3 fr_repr cH cD cNm cDy cGo cS cMm MT mW mR mMe mDr SL
end K30
open PySem PySem.W PySem.Calls PyProof.Rows
set_option maxRecDepth 100000 in
set_option maxHeartbeats 0 in
theorem PySem.Challenge.cw_rideturns_k30_by_rounds_holds : PySem.Challenge.rw_rideturns_k30_by_rounds.Holds := by
  w_on; o_law
  refine HandSHeadRun.head_any (r := OpenLaw.row PySem.Challenge.rw_rideturns_k30_by_rounds) (q := view (OpenLaw.row PySem.Challenge.rw_rideturns_k30_by_rounds).prog [41]) (H := K30.hk) (ob := K30.ob) (M := 3000) (loose := K30.loose) (d := HandSHeadRun.topDef (OpenLaw.row PySem.Challenge.rw_rideturns_k30_by_rounds).prog 41) (kwd := []) K30.ob_eq
    (by kernel_rfl) (fun s => by kernel_rfl) K30.run_ (by kernel_rfl) (by kernel_rfl) (by kernel_rfl) (by rfl) (by first | assumption | decide +kernel) (by decide +kernel) ⟨rfl, rfl, rfl, rfl, rfl, by decide +kernel⟩ ?hw ?hc
  case hw => w_witness2
  case hc =>
    refine GL.walkG (l := PySem.Challenge.rw_rideturns_k30_by_rounds) (n := 63) (k := 7) (x := "_law_script") rfl (by decide) (by kernel_rfl) ⟨rfl, by decide, by decide⟩ ?F
    intro w mg fa h Y G hmg0
    obtain ⟨K, KX, c⟩ := Y
    have hmg : mg ("law" : PySem.Str) = some (.ref fa) := by
      have e : (HandSHeadRun.topDef (OpenLaw.row PySem.Challenge.rw_rideturns_k30_by_rounds).prog 41).name = ("law" : PySem.Str) := by kernel_rfl
      rw [← e]
      exact hmg0
    obtain ⟨fd, hb, hF⟩ := K30.facts (P := (PySem.Challenge.rw_rideturns_k30_by_rounds).prog) (w := w) KX G hmg c
    exact ⟨K, fd, K30.spLaw K, KX, hb, fun H a ns hl hS => ⟨a, ns, rfl, hS, hl, fun _ => rfl⟩, hF⟩
