import PyProof.Rows.All
import Wide.All
import OpenK.AllK
import Wide.FinOn
import HandS.ForMost
import HandS.ForExc
import HandS.Defaults
import HandS.Codes
import HandS.IsInst
import HandS.Wide
import HandS.Flow
import HandS.Evl
import HandS.Steps
import HandS.ExcField
import HandS.Head0
import HandS.Head1
import HandS.Head2
import HandS.HeadEnd
import HandS.HeadHook1
import HandS.HeadHook2
import HandS.HeadHook3
import HandS.HeadHook4
import KE.KExcInit
import HandS.ExcInit
import PyProof.Rows.FactsExc_KeyError
import PyProof.ExcBaseAll.LookupError
import KE.KEqSeq
import HandS.Words
import HandS.MakeKw
import HandS.MakeKwOnly
import HandS.Style
import HandS.Comp
import HandS.Text
import HandS.More
import PyProof.StrOps2
import HandS.Strs
import HandS.Walk
import HandS.StrMore
import KE.KLam
import KE.DataMinKey
import HandS.Dict
import HandS.Lambda
import HandS.HeadWalk
import HandS.Zip
import HandS.DictComp
import HandS.List
import HandS.Call
import KE.SortCalls
import KE.SortKeyed
import HandS.Iter
import HandS.Deep
import KE.LtData
import HandS.SetFor
import KE.KCallOwn
import KE.IntTextLaws
import PyProof.StrLawsAffix
import KE.KIndexOf
import HandS.FStr
import PyProof.ReprRoads
import PyProof.ReprDict
import HandS.OwnEq
import PyProof.EqKinds
import PyProof.NeKinds
import PyProof.FactsAll.dict_1
import HandS.ListEq
import KE.KEqNest
import PyProof.ReprLen
import KE.KRevSl
import HandS.EndTab
import PyProof.OldK
import HandS.NestedK
import PySem.Challenge.RW_rideturns_k32_turns_beside_turns
set_option Elab.async false
set_option linter.all false
set_option maxRecDepth 100000
set_option maxHeartbeats 4000000
namespace K32
open PySem PySem.Spec PyProof.Rows L2
def top (i : Nat) : Stmt := PySem.Challenge.pw_rideturns_k32_turns_beside_turns.main.body.getD i (.Pass ⟨0, 0, 0, 0⟩)
abbrev s__wall : Stmt := top 0
abbrev N__wall : List Str := ["k"]
theorem sc__wall : FnScope N__wall ["k"] (defScope s__wall) := ⟨rfl, rfl, rfl, by decide +kernel, rfl, by decide +kernel, by decide +kernel⟩
def d__wall : He.DefD := ⟨("_wall", none), "_wall", "_wall", defArgs s__wall, defBody s__wall, defScope s__wall, [], []⟩
abbrev s_NoKind_init : Stmt := inClass (top 2) 0
abbrev N_NoKind_init : List Str := ["self", "thing"]
theorem sc_NoKind_init : FnScope N_NoKind_init ["self", "thing"] (defScope s_NoKind_init) := ⟨rfl, rfl, rfl, by decide +kernel, rfl, by decide +kernel, by decide +kernel⟩
def d_NoKind_init : He.DefD := ⟨("NoKind", some "__init__"), "__init__", "NoKind.__init__", defArgs s_NoKind_init, defBody s_NoKind_init, defScope s_NoKind_init, [], []⟩
abbrev s_Nought_init : Stmt := inClass (top 3) 0
abbrev N_Nought_init : List Str := ["self", "top"]
theorem sc_Nought_init : FnScope N_Nought_init ["self", "top"] (defScope s_Nought_init) := ⟨rfl, rfl, rfl, by decide +kernel, rfl, by decide +kernel, by decide +kernel⟩
def d_Nought_init : He.DefD := ⟨("Nought", some "__init__"), "__init__", "Nought.__init__", defArgs s_Nought_init, defBody s_Nought_init, defScope s_Nought_init, [], []⟩
abbrev s_NoName_init : Stmt := inClass (top 4) 0
abbrev N_NoName_init : List Str := ["self", "name"]
theorem sc_NoName_init : FnScope N_NoName_init ["self", "name"] (defScope s_NoName_init) := ⟨rfl, rfl, rfl, by decide +kernel, rfl, by decide +kernel, by decide +kernel⟩
def d_NoName_init : He.DefD := ⟨("NoName", some "__init__"), "__init__", "NoName.__init__", defArgs s_NoName_init, defBody s_NoName_init, defScope s_NoName_init, [], []⟩
abbrev s_NoRule_init : Stmt := inClass (top 5) 0
abbrev N_NoRule_init : List Str := ["self", "thing"]
theorem sc_NoRule_init : FnScope N_NoRule_init ["self", "thing"] (defScope s_NoRule_init) := ⟨rfl, rfl, rfl, by decide +kernel, rfl, by decide +kernel, by decide +kernel⟩
def d_NoRule_init : He.DefD := ⟨("NoRule", some "__init__"), "__init__", "NoRule.__init__", defArgs s_NoRule_init, defBody s_NoRule_init, defScope s_NoRule_init, [], []⟩
abbrev s_is_whole : Stmt := top 8
abbrev N_is_whole : List Str := ["thing"]
theorem sc_is_whole : FnScope N_is_whole ["thing"] (defScope s_is_whole) := ⟨rfl, rfl, rfl, by decide +kernel, rfl, by decide +kernel, by decide +kernel⟩
def d_is_whole : He.DefD := ⟨("is_whole", none), "is_whole", "is_whole", defArgs s_is_whole, defBody s_is_whole, defScope s_is_whole, [], []⟩
abbrev s_is_between : Stmt := top 9
abbrev N_is_between : List Str := ["thing", "low", "high"]
theorem sc_is_between : FnScope N_is_between ["thing", "low", "high"] (defScope s_is_between) := ⟨rfl, rfl, rfl, by decide +kernel, rfl, by decide +kernel, by decide +kernel⟩
def d_is_between : He.DefD := ⟨("is_between", none), "is_between", "is_between", defArgs s_is_between, defBody s_is_between, defScope s_is_between, [], []⟩
abbrev s_is_name : Stmt := top 10
abbrev N_is_name : List Str := ["thing", "sign"]
theorem sc_is_name : FnScope N_is_name ["thing"] (defScope s_is_name) := ⟨rfl, rfl, rfl, by decide +kernel, rfl, by decide +kernel, by decide +kernel⟩
def d_is_name : He.DefD := ⟨("is_name", none), "is_name", "is_name", defArgs s_is_name, defBody s_is_name, defScope s_is_name, [], []⟩
abbrev s_is_order : Stmt := top 14
abbrev N_is_order : List Str := ["thing", "name"]
theorem sc_is_order : FnScope N_is_order ["thing"] (defScope s_is_order) := ⟨rfl, rfl, rfl, by decide +kernel, rfl, by decide +kernel, by decide +kernel⟩
def d_is_order : He.DefD := ⟨("is_order", none), "is_order", "is_order", defArgs s_is_order, defBody s_is_order, defScope s_is_order, [], []⟩
abbrev s_is_rule : Stmt := top 15
abbrev N_is_rule : List Str := ["thing"]
theorem sc_is_rule : FnScope N_is_rule ["thing"] (defScope s_is_rule) := ⟨rfl, rfl, rfl, by decide +kernel, rfl, by decide +kernel, by decide +kernel⟩
def d_is_rule : He.DefD := ⟨("is_rule", none), "is_rule", "is_rule", defArgs s_is_rule, defBody s_is_rule, defScope s_is_rule, [], []⟩
abbrev s_common_part : Stmt := top 17
abbrev N_common_part : List Str := ["one", "other"]
theorem sc_common_part : FnScope N_common_part ["one", "other"] (defScope s_common_part) := ⟨rfl, rfl, rfl, by decide +kernel, rfl, by decide +kernel, by decide +kernel⟩
def d_common_part : He.DefD := ⟨("common_part", none), "common_part", "common_part", defArgs s_common_part, defBody s_common_part, defScope s_common_part, [], []⟩
abbrev s_Share_init : Stmt := inClass (top 18) 0
abbrev N_Share_init : List Str := ["self", "top", "bottom", "thing", "common"]
theorem sc_Share_init : FnScope N_Share_init ["self", "top", "bottom"] (defScope s_Share_init) := ⟨rfl, rfl, rfl, by decide +kernel, rfl, by decide +kernel, by decide +kernel⟩
def d_Share_init : He.DefD := ⟨("Share", some "__init__"), "__init__", "Share.__init__", defArgs s_Share_init, defBody s_Share_init, defScope s_Share_init, [.int 1], []⟩
abbrev s_Share_eq : Stmt := inClass (top 18) 1
abbrev N_Share_eq : List Str := ["self", "other"]
theorem sc_Share_eq : FnScope N_Share_eq ["self", "other"] (defScope s_Share_eq) := ⟨rfl, rfl, rfl, by decide +kernel, rfl, by decide +kernel, by decide +kernel⟩
def d_Share_eq : He.DefD := ⟨("Share", some "__eq__"), "__eq__", "Share.__eq__", defArgs s_Share_eq, defBody s_Share_eq, defScope s_Share_eq, [], []⟩
abbrev s_Share_str : Stmt := inClass (top 18) 2
abbrev N_Share_str : List Str := ["self"]
theorem sc_Share_str : FnScope N_Share_str ["self"] (defScope s_Share_str) := ⟨rfl, rfl, rfl, by decide +kernel, rfl, by decide +kernel, by decide +kernel⟩
def d_Share_str : He.DefD := ⟨("Share", some "__str__"), "__str__", "Share.__str__", defArgs s_Share_str, defBody s_Share_str, defScope s_Share_str, [], []⟩
abbrev s_Share_repr : Stmt := inClass (top 18) 3
abbrev N_Share_repr : List Str := ["self"]
theorem sc_Share_repr : FnScope N_Share_repr ["self"] (defScope s_Share_repr) := ⟨rfl, rfl, rfl, by decide +kernel, rfl, by decide +kernel, by decide +kernel⟩
def d_Share_repr : He.DefD := ⟨("Share", some "__repr__"), "__repr__", "Share.__repr__", defArgs s_Share_repr, defBody s_Share_repr, defScope s_Share_repr, [], []⟩
abbrev s_Share_plus : Stmt := inClass (top 18) 4
abbrev N_Share_plus : List Str := ["self", "other"]
theorem sc_Share_plus : FnScope N_Share_plus ["self", "other"] (defScope s_Share_plus) := ⟨rfl, rfl, rfl, by decide +kernel, rfl, by decide +kernel, by decide +kernel⟩
def d_Share_plus : He.DefD := ⟨("Share", some "plus"), "plus", "Share.plus", defArgs s_Share_plus, defBody s_Share_plus, defScope s_Share_plus, [], []⟩
abbrev s_Share_less : Stmt := inClass (top 18) 5
abbrev N_Share_less : List Str := ["self", "other"]
theorem sc_Share_less : FnScope N_Share_less ["self", "other"] (defScope s_Share_less) := ⟨rfl, rfl, rfl, by decide +kernel, rfl, by decide +kernel, by decide +kernel⟩
def d_Share_less : He.DefD := ⟨("Share", some "less"), "less", "Share.less", defArgs s_Share_less, defBody s_Share_less, defScope s_Share_less, [], []⟩
abbrev s_Share_times : Stmt := inClass (top 18) 6
abbrev N_Share_times : List Str := ["self", "many"]
theorem sc_Share_times : FnScope N_Share_times ["self", "many"] (defScope s_Share_times) := ⟨rfl, rfl, rfl, by decide +kernel, rfl, by decide +kernel, by decide +kernel⟩
def d_Share_times : He.DefD := ⟨("Share", some "times"), "times", "Share.times", defArgs s_Share_times, defBody s_Share_times, defScope s_Share_times, [], []⟩
abbrev s_Share_over : Stmt := inClass (top 18) 7
abbrev N_Share_over : List Str := ["self", "many"]
theorem sc_Share_over : FnScope N_Share_over ["self", "many"] (defScope s_Share_over) := ⟨rfl, rfl, rfl, by decide +kernel, rfl, by decide +kernel, by decide +kernel⟩
def d_Share_over : He.DefD := ⟨("Share", some "over"), "over", "Share.over", defArgs s_Share_over, defBody s_Share_over, defScope s_Share_over, [], []⟩
abbrev s_Share_below : Stmt := inClass (top 18) 8
abbrev N_Share_below : List Str := ["self", "other"]
theorem sc_Share_below : FnScope N_Share_below ["self", "other"] (defScope s_Share_below) := ⟨rfl, rfl, rfl, by decide +kernel, rfl, by decide +kernel, by decide +kernel⟩
def d_Share_below : He.DefD := ⟨("Share", some "below"), "below", "Share.below", defArgs s_Share_below, defBody s_Share_below, defScope s_Share_below, [], []⟩
abbrev s_Share_whole : Stmt := inClass (top 18) 9
abbrev N_Share_whole : List Str := ["self"]
theorem sc_Share_whole : FnScope N_Share_whole ["self"] (defScope s_Share_whole) := ⟨rfl, rfl, rfl, by decide +kernel, rfl, by decide +kernel, by decide +kernel⟩
def d_Share_whole : He.DefD := ⟨("Share", some "whole"), "whole", "Share.whole", defArgs s_Share_whole, defBody s_Share_whole, defScope s_Share_whole, [], []⟩
abbrev s_names_of : Stmt := top 21
abbrev N_names_of : List Str := ["order", "riders", "name"]
theorem sc_names_of : FnScope N_names_of ["order", "riders"] (defScope s_names_of) := ⟨rfl, rfl, rfl, by decide +kernel, rfl, by decide +kernel, by decide +kernel⟩
def d_names_of : He.DefD := ⟨("names_of", none), "names_of", "names_of", defArgs s_names_of, defBody s_names_of, defScope s_names_of, [], []⟩
abbrev s_first_memory : Stmt := top 22
abbrev N_first_memory : List Str := ["rule", "name"]
theorem sc_first_memory : FnScope N_first_memory ["rule"] (defScope s_first_memory) := ⟨rfl, rfl, rfl, by decide +kernel, rfl, by decide +kernel, by decide +kernel⟩
def d_first_memory : He.DefD := ⟨("first_memory", none), "first_memory", "first_memory", defArgs s_first_memory, defBody s_first_memory, defScope s_first_memory, [], []⟩
abbrev s_least_driver : Stmt := top 23
abbrev N_least_driver : List Str := ["rule", "held", "names", "grain", "name", "parts", "counts"]
theorem sc_least_driver : FnScope N_least_driver ["rule", "held", "names"] (defScope s_least_driver) := ⟨rfl, rfl, rfl, by decide +kernel, rfl, by decide +kernel, by decide +kernel⟩
def d_least_driver : He.DefD := ⟨("least_driver", none), "least_driver", "least_driver", defArgs s_least_driver, defBody s_least_driver, defScope s_least_driver, [], []⟩
abbrev s_driver_by : Stmt := top 24
abbrev N_driver_by : List Str := ["rule", "memory", "riders", "names", "gone", "same", "many"]
theorem sc_driver_by : FnScope N_driver_by ["rule", "memory", "riders"] (defScope s_driver_by) := ⟨rfl, rfl, rfl, by decide +kernel, rfl, by decide +kernel, by decide +kernel⟩
def d_driver_by : He.DefD := ⟨("driver_by", none), "driver_by", "driver_by", defArgs s_driver_by, defBody s_driver_by, defScope s_driver_by, [], []⟩
abbrev s_parts_behind : Stmt := top 25
abbrev N_parts_behind : List Str := ["order", "held", "riders", "driver", "behind", "name", "parts", "fare", "wage"]
theorem sc_parts_behind : FnScope N_parts_behind ["order", "held", "riders", "driver"] (defScope s_parts_behind) := ⟨rfl, rfl, rfl, by decide +kernel, rfl, by decide +kernel, by decide +kernel⟩
def d_parts_behind : He.DefD := ⟨("parts_behind", none), "parts_behind", "parts_behind", defArgs s_parts_behind, defBody s_parts_behind, defScope s_parts_behind, [], []⟩
abbrev s_line_behind : Stmt := top 26
abbrev N_line_behind : List Str := ["line", "riders", "driver", "name"]
theorem sc_line_behind : FnScope N_line_behind ["line", "riders", "driver"] (defScope s_line_behind) := ⟨rfl, rfl, rfl, by decide +kernel, rfl, by decide +kernel, by decide +kernel⟩
def d_line_behind : He.DefD := ⟨("line_behind", none), "line_behind", "line_behind", defArgs s_line_behind, defBody s_line_behind, defScope s_line_behind, [], []⟩
abbrev s_rounds_behind : Stmt := top 27
abbrev N_rounds_behind : List Str := ["order", "rounds", "riders", "names", "gone", "same", "many"]
theorem sc_rounds_behind : FnScope N_rounds_behind ["order", "rounds", "riders"] (defScope s_rounds_behind) := ⟨rfl, rfl, rfl, by decide +kernel, rfl, by decide +kernel, by decide +kernel⟩
def d_rounds_behind : He.DefD := ⟨("rounds_behind", none), "rounds_behind", "rounds_behind", defArgs s_rounds_behind, defBody s_rounds_behind, defScope s_rounds_behind, [], []⟩
abbrev s_memory_behind : Stmt := top 28
abbrev N_memory_behind : List Str := ["rule", "memory", "riders", "driver"]
theorem sc_memory_behind : FnScope N_memory_behind ["rule", "memory", "riders"] (defScope s_memory_behind) := ⟨rfl, rfl, rfl, by decide +kernel, rfl, by decide +kernel, by decide +kernel⟩
def d_memory_behind : He.DefD := ⟨("memory_behind", none), "memory_behind", "memory_behind", defArgs s_memory_behind, defBody s_memory_behind, defScope s_memory_behind, [], []⟩
abbrev s_Turns_init : Stmt := inClass (top 29) 0
abbrev N_Turns_init : List Str := ["self", "rule", "name"]
theorem sc_Turns_init : FnScope N_Turns_init ["self", "rule"] (defScope s_Turns_init) := ⟨rfl, rfl, rfl, by decide +kernel, rfl, by decide +kernel, by decide +kernel⟩
def d_Turns_init : He.DefD := ⟨("Turns", some "__init__"), "__init__", "Turns.__init__", defArgs s_Turns_init, defBody s_Turns_init, defScope s_Turns_init, [], []⟩
abbrev s_Turns_eq : Stmt := inClass (top 29) 1
abbrev N_Turns_eq : List Str := ["self", "other"]
theorem sc_Turns_eq : FnScope N_Turns_eq ["self", "other"] (defScope s_Turns_eq) := ⟨rfl, rfl, rfl, by decide +kernel, rfl, by decide +kernel, by decide +kernel⟩
def d_Turns_eq : He.DefD := ⟨("Turns", some "__eq__"), "__eq__", "Turns.__eq__", defArgs s_Turns_eq, defBody s_Turns_eq, defScope s_Turns_eq, [], []⟩
abbrev s_Turns_len : Stmt := inClass (top 29) 2
abbrev N_Turns_len : List Str := ["self"]
theorem sc_Turns_len : FnScope N_Turns_len ["self"] (defScope s_Turns_len) := ⟨rfl, rfl, rfl, by decide +kernel, rfl, by decide +kernel, by decide +kernel⟩
def d_Turns_len : He.DefD := ⟨("Turns", some "__len__"), "__len__", "Turns.__len__", defArgs s_Turns_len, defBody s_Turns_len, defScope s_Turns_len, [], []⟩
abbrev s_Turns_check_riders : Stmt := inClass (top 29) 3
abbrev N_Turns_check_riders : List Str := ["self", "riders", "at", "name"]
theorem sc_Turns_check_riders : FnScope N_Turns_check_riders ["self", "riders"] (defScope s_Turns_check_riders) := ⟨rfl, rfl, rfl, by decide +kernel, rfl, by decide +kernel, by decide +kernel⟩
def d_Turns_check_riders : He.DefD := ⟨("Turns", some "check_riders"), "check_riders", "Turns.check_riders", defArgs s_Turns_check_riders, defBody s_Turns_check_riders, defScope s_Turns_check_riders, [], []⟩
abbrev s_Turns_who : Stmt := inClass (top 29) 4
abbrev N_Turns_who : List Str := ["self", "riders"]
theorem sc_Turns_who : FnScope N_Turns_who ["self", "riders"] (defScope s_Turns_who) := ⟨rfl, rfl, rfl, by decide +kernel, rfl, by decide +kernel, by decide +kernel⟩
def d_Turns_who : He.DefD := ⟨("Turns", some "who"), "who", "Turns.who", defArgs s_Turns_who, defBody s_Turns_who, defScope s_Turns_who, [], []⟩
abbrev s_Turns_ride : Stmt := inClass (top 29) 5
abbrev N_Turns_ride : List Str := ["self", "riders", "driver"]
theorem sc_Turns_ride : FnScope N_Turns_ride ["self", "riders"] (defScope s_Turns_ride) := ⟨rfl, rfl, rfl, by decide +kernel, rfl, by decide +kernel, by decide +kernel⟩
def d_Turns_ride : He.DefD := ⟨("Turns", some "ride"), "ride", "Turns.ride", defArgs s_Turns_ride, defBody s_Turns_ride, defScope s_Turns_ride, [], []⟩
abbrev s_Turns_stands : Stmt := inClass (top 29) 6
abbrev N_Turns_stands : List Str := ["self", "name", "parts"]
theorem sc_Turns_stands : FnScope N_Turns_stands ["self"] (defScope s_Turns_stands) := ⟨rfl, rfl, rfl, by decide +kernel, rfl, by decide +kernel, by decide +kernel⟩
def d_Turns_stands : He.DefD := ⟨("Turns", some "stands"), "stands", "Turns.stands", defArgs s_Turns_stands, defBody s_Turns_stands, defScope s_Turns_stands, [], []⟩
abbrev s_Turns_drives : Stmt := inClass (top 29) 7
abbrev N_Turns_drives : List Str := ["self", "name"]
theorem sc_Turns_drives : FnScope N_Turns_drives ["self"] (defScope s_Turns_drives) := ⟨rfl, rfl, rfl, by decide +kernel, rfl, by decide +kernel, by decide +kernel⟩
def d_Turns_drives : He.DefD := ⟨("Turns", some "drives"), "drives", "Turns.drives", defArgs s_Turns_drives, defBody s_Turns_drives, defScope s_Turns_drives, [], []⟩
abbrev s_Turns_memory : Stmt := inClass (top 29) 8
abbrev N_Turns_memory : List Str := ["self", "parts"]
theorem sc_Turns_memory : FnScope N_Turns_memory ["self"] (defScope s_Turns_memory) := ⟨rfl, rfl, rfl, by decide +kernel, rfl, by decide +kernel, by decide +kernel⟩
def d_Turns_memory : He.DefD := ⟨("Turns", some "memory"), "memory", "Turns.memory", defArgs s_Turns_memory, defBody s_Turns_memory, defScope s_Turns_memory, [], []⟩
abbrev s_l_held : Stmt := top 31
abbrev N_l_held : List Str := ["_law_script"]
theorem sc_l_held : FnScope N_l_held ["_law_script"] (defScope s_l_held) := ⟨rfl, rfl, rfl, by decide +kernel, rfl, by decide +kernel, by decide +kernel⟩
def d_l_held : He.DefD := ⟨("_law_held", none), "_law_held", "_law_held", defArgs s_l_held, defBody s_l_held, defScope s_l_held, [], []⟩
abbrev s_l_draw : Stmt := top 32
abbrev N_l_draw : List Str := ["_law_held_here", "_law_many", "_law_found", "_law_at", "_law_cell", "_law_number"]
theorem sc_l_draw : FnScope N_l_draw ["_law_held_here", "_law_many"] (defScope s_l_draw) := ⟨rfl, rfl, rfl, by decide +kernel, rfl, by decide +kernel, by decide +kernel⟩
def d_l_draw : He.DefD := ⟨("_law_draw", none), "_law_draw", "_law_draw", defArgs s_l_draw, defBody s_l_draw, defScope s_l_draw, [], []⟩
abbrev s_l_names : Stmt := top 33
abbrev N_l_names : List Str := ["_law_held_here", "_law_many", "_law_letters", "_law_size", "_law_k", "_law_base", "_law_at", "_law_begin", "_law_step", "_law_lot", "_law_found", "_law_tail"]
theorem sc_l_names : FnScope N_l_names ["_law_held_here", "_law_many"] (defScope s_l_names) := ⟨rfl, rfl, rfl, by decide +kernel, rfl, by decide +kernel, by decide +kernel⟩
def d_l_names : He.DefD := ⟨("_law_names", none), "_law_names", "_law_names", defArgs s_l_names, defBody s_l_names, defScope s_l_names, [], []⟩
abbrev s_l_low : Stmt := top 34
abbrev N_l_low : List Str := ["_law_top", "_law_bottom", "_law_one", "_law_other"]
theorem sc_l_low : FnScope N_l_low ["_law_top", "_law_bottom"] (defScope s_l_low) := ⟨rfl, rfl, rfl, by decide +kernel, rfl, by decide +kernel, by decide +kernel⟩
def d_l_low : He.DefD := ⟨("_law_low", none), "_law_low", "_law_low", defArgs s_l_low, defBody s_l_low, defScope s_l_low, [], []⟩
abbrev s_l_add : Stmt := top 35
abbrev N_l_add : List Str := ["_law_one", "_law_other"]
theorem sc_l_add : FnScope N_l_add ["_law_one", "_law_other"] (defScope s_l_add) := ⟨rfl, rfl, rfl, by decide +kernel, rfl, by decide +kernel, by decide +kernel⟩
def d_l_add : He.DefD := ⟨("_law_add", none), "_law_add", "_law_add", defArgs s_l_add, defBody s_l_add, defScope s_l_add, [], []⟩
abbrev s_l_pair : Stmt := top 36
abbrev N_l_pair : List Str := ["_law_share", "_law_part"]
theorem sc_l_pair : FnScope N_l_pair ["_law_share"] (defScope s_l_pair) := ⟨rfl, rfl, rfl, by decide +kernel, rfl, by decide +kernel, by decide +kernel⟩
def d_l_pair : He.DefD := ⟨("_law_pair", none), "_law_pair", "_law_pair", defArgs s_l_pair, defBody s_l_pair, defScope s_l_pair, [], []⟩
abbrev s_l_day : Stmt := top 37
abbrev N_l_day : List Str := ["_law_held_here", "_law_order", "_law_many", "_law_left", "_law_found", "_law_turn"]
theorem sc_l_day : FnScope N_l_day ["_law_held_here", "_law_order"] (defScope s_l_day) := ⟨rfl, rfl, rfl, by decide +kernel, rfl, by decide +kernel, by decide +kernel⟩
def d_l_day : He.DefD := ⟨("_law_day", none), "_law_day", "_law_day", defArgs s_l_day, defBody s_l_day, defScope s_l_day, [], []⟩
abbrev s_l_rule : Stmt := top 38
abbrev N_l_rule : List Str := ["_law_held_here", "_law_order", "_law_grain"]
theorem sc_l_rule : FnScope N_l_rule ["_law_held_here", "_law_order"] (defScope s_l_rule) := ⟨rfl, rfl, rfl, by decide +kernel, rfl, by decide +kernel, by decide +kernel⟩
def d_l_rule : He.DefD := ⟨("_law_rule", none), "_law_rule", "_law_rule", defArgs s_l_rule, defBody s_l_rule, defScope s_l_rule, [], []⟩
abbrev s_l_gone : Stmt := top 39
abbrev N_l_gone : List Str := ["_law_due", "_law_riders", "_law_driver", "_law_behind", "_law_name"]
theorem sc_l_gone : FnScope N_l_gone ["_law_due", "_law_riders", "_law_driver"] (defScope s_l_gone) := ⟨rfl, rfl, rfl, by decide +kernel, rfl, by decide +kernel, by decide +kernel⟩
def d_l_gone : He.DefD := ⟨("_law_gone", none), "_law_gone", "_law_gone", defArgs s_l_gone, defBody s_l_gone, defScope s_l_gone, [], []⟩
abbrev s_l_memory : Stmt := top 40
abbrev N_l_memory : List Str := ["_law_turns", "_law_thing"]
theorem sc_l_memory : FnScope N_l_memory ["_law_turns"] (defScope s_l_memory) := ⟨rfl, rfl, rfl, by decide +kernel, rfl, by decide +kernel, by decide +kernel⟩
def d_l_memory : He.DefD := ⟨("_law_memory", none), "_law_memory", "_law_memory", defArgs s_l_memory, defBody s_l_memory, defScope s_l_memory, [], []⟩
abbrev s_l_right : Stmt := top 41
abbrev N_l_right : List Str := ["_law_one", "_law_order", "_law_due", "_law_many", "_law_stands", "_law_name"]
theorem sc_l_right : FnScope N_l_right ["_law_one", "_law_order", "_law_due", "_law_many"] (defScope s_l_right) := ⟨rfl, rfl, rfl, by decide +kernel, rfl, by decide +kernel, by decide +kernel⟩
def d_l_right : He.DefD := ⟨("_law_right", none), "_law_right", "_law_right", defArgs s_l_right, defBody s_l_right, defScope s_l_right, [], []⟩
abbrev s_l_equal_right : Stmt := top 42
abbrev N_l_equal_right : List Str := ["_law_some", "_law_rules", "_law_dues", "_law_k", "_law_j", "_law_one", "_law_other", "_law_due", "_law_thing"]
theorem sc_l_equal_right : FnScope N_l_equal_right ["_law_some", "_law_rules", "_law_dues"] (defScope s_l_equal_right) := ⟨rfl, rfl, rfl, by decide +kernel, rfl, by decide +kernel, by decide +kernel⟩
def d_l_equal_right : He.DefD := ⟨("_law_equal_right", none), "_law_equal_right", "_law_equal_right", defArgs s_l_equal_right, defBody s_l_equal_right, defScope s_l_equal_right, [], []⟩
abbrev s_law : Stmt := top 43
abbrev N_law : List Str := ["_law_script", "_law_held_here", "_law_order", "_law_other", "_law_rules", "_law_some", "_law_dues", "_law_many", "_law_turn", "_law_riders", "_law_k", "_law_day_here", "_law_driver", "_law_alone", "_law_rule_here", "_law_name", "_law_j"]
theorem sc_law : FnScope N_law ["_law_script"] (defScope s_law) := ⟨rfl, rfl, rfl, by decide +kernel, rfl, by decide +kernel, by decide +kernel⟩
def d_law : He.DefD := ⟨("law", none), "law", "law", defArgs s_law, defBody s_law, defScope s_law, [], []⟩
def fn : List He.DefD := [d__wall, d_NoKind_init, d_Nought_init, d_NoName_init, d_NoRule_init, d_is_whole, d_is_between, d_is_name, d_is_order, d_is_rule, d_common_part, d_Share_init, d_Share_eq, d_Share_str, d_Share_repr, d_Share_plus, d_Share_less, d_Share_times, d_Share_over, d_Share_below, d_Share_whole, d_names_of, d_first_memory, d_least_driver, d_driver_by, d_parts_behind, d_line_behind, d_rounds_behind, d_memory_behind, d_Turns_init, d_Turns_eq, d_Turns_len, d_Turns_check_riders, d_Turns_who, d_Turns_ride, d_Turns_stands, d_Turns_drives, d_Turns_memory, d_l_held, d_l_draw, d_l_names, d_l_low, d_l_add, d_l_pair, d_l_day, d_l_rule, d_l_gone, d_l_memory, d_l_right, d_l_equal_right, d_law]
end K32
set_option Elab.async false
set_option linter.all false
set_option maxRecDepth 100000
set_option maxHeartbeats 4000000
/-! GX: own exceptions over any built-in base, whose own __init__ calls the base's and stores a field. -/
namespace GX
open PySem PySem.Spec PyProof.Rows L2

/-- what the written part tells of the class -/
structure Gx (K : PySem.W.Frag) (C : Addr) (bmB : List Value) (nid : String) : Prop where
  over : PySem.W.excOver K C bmB = true
  made : PySem.W.excInitIn K C bmB nid = true
  hasd : ∃ cd, PySem.W.clsIn K C = some cd ∧ cd.hasDict = true
  sets : PySem.W.findIn K (.ref C) "__setattr__" = some (some (.builtin "object.__setattr__"))
  base : PySem.W.subIn K (.ref C) (.type "BaseException") = some true
  typ : PySem.W.typeIn K (.ref C) = some (.type "type")
  keep : PySem.W.keepIn K (.ref C) = true

section
open Builtin Builtin.ObjectAttr
variable {prog : Program} {w : World} {A : Around} {R : Result → Shared → Prop} {hp : Heap} {g : Array GenState} {d : Drawn} {t : Nat} {os : OsState} {B : String} {bmB : List Value}
theorem first_store {K : PySem.W.Frag} {name : Str} {tk : Tok} {v : Value} {x C : Addr} {fv : Array Value} {cd : ClassData} (SF : StoreFacts B bmB "object.__setattr__" "object")
    (X : K.In hp) (hx : hp.get? x = some { cls := .ref C, data := .fields fv }) (ho : PySem.W.excOver K C bmB = true) (hc : PySem.W.clsIn K C = some cd) (hd : cd.hasDict = true)
    (hf : PySem.W.findIn K (.ref C) name = some none)
    (post : ∀ h' tk' dx, (∀ b o, b ≠ x → hp.get? b = some o → h'.get? b = some o) → hp.objs.size ≤ dx → dx ≠ x →
      h'.get? x = some { cls := .ref C, dict := some dx, data := .fields fv } → h'.Ns1 dx (fun y => if y = name then some v else none) → R (.ok (.ret .none)) ⟨h', g, d, tk', os⟩) :
    codeAny (model prog w) A (.call (.builtin "object.__setattr__") ⟨[.ref x, .str name tk, v], []⟩) R ⟨hp, g, d, t, os⟩ := by
  have inst : PySem.W.InstAt hp x { cls := .ref C, data := .fields fv } C none := ⟨hx, rfl, rfl, trivial⟩
  have far : x ≠ hp.objs.size := Nat.ne_of_lt (Heap.lt_size hx)
  have lc : PySem.W.Looks (model prog w) hp (classData C) cd := PySem.W.looks_clsIn X hc
  refine PySem.W.osa_openX (r := none) SF X inst ho (by unfold PySem.W.takerIn; rw [hf]; rfl) fun b => ?_
  dsimp only
  obtain ⟨n1, n2, n3, n4, n5, n6, n7, n8, n9, n10, n11⟩ := cd
  dsimp only at hd
  subst hd
  unfold storeInOwnDict ownDictForStores
  repeat (first | with_reducible refine PySem.HandSPX.store_in_new ?_ ?_ | with_reducible refine wpAny_loadPart_at hx ?_ | with_reducible refine lc.at ?_ | wp_step)
  · exact ⟨_, #[], _, (Heap.get?_update_ne _ _ _ _ far.symm).trans (Heap.get?_push_at rfl rfl), rfl, fun e he => absurd he (by simp), fun _ => rfl⟩
  · intro h' tk' hn hs
    have hx1 : (hp.push { cls := .type "dict", data := .dict #[] }).get? x = some { cls := .ref C, data := .fields fv } := Heap.get?_push_of_some _ hx
    refine post h' tk' hp.objs.size (fun b o hb hob => ?_) (Nat.le_refl _) far.symm ?_ hn
    · have e1 := hs.2 b (Nat.ne_of_lt (Heap.lt_size hob))
      rw [e1, Heap.get?_update_ne _ _ _ _ hb]
      exact Heap.get?_push_of_some _ hob
    · rw [hs.2 x far]
      exact Heap.get?_update_self _ hx1 rfl
end

section
variable {X : Cx} {pins : List (Addr × Obj)} {σ : L2.St} {H : Hp} {s : Shared} {a C dx : Addr} {f : Str} {y : V} {u : Value} {Q : Unit → Shared → Prop} {E : Value → Shared → Prop} {A : Around} {B : String} {bmB : List Value} {nid iid : String}
/-- self.f = y, the first store -/
theorem put_first (SF : StoreFacts B bmB "object.__setattr__" "object") (T : Gx X.K C bmB nid) (I : Inv X pins σ H s) (e : H a = some (exo a C none)) (hno : PySem.W.findIn X.K (.ref C) f = some none) (ry : RelV y u)
    (post : ∀ dx s', H dx = none → dx ≠ a → Inv X pins σ (upd (upd H dx (exd dx [(f, y)])) a (exo a C (some dx))) s' → Q () s') : wpAny (model X.prog X.w) A (setAttr (.ref a) f u) Q E s := by
  obtain ⟨cd, hcd, hdd⟩ := T.hasd
  obtain ⟨t1, at1⟩ := exo_at I.hok e
  obtain ⟨hp, g, d, t, os⟩ := s
  refine PySem.W.set_plain I.kIn (ox := { cls := .ref C, dict := none, data := .fields #[.ref t1, .none, .none, .none, .bool false, .none] }) (od := none) ⟨at1, rfl, rfl, trivial⟩ T.sets ?_
  refine first_store SF I.kIn at1 T.over hcd hdd hno (fun h' tk' dx kp dn dne hx hn => ?_)
  have fresh : H dx = none := I.hok.fresh dn
  have old : ∀ {b : Addr} {o : Obj}, hp.get? b = some o → b ≠ dx := fun {b o} q => Nat.ne_of_lt (Nat.lt_of_lt_of_le (Heap.lt_size q) dn)
  have other : ∀ {b : Addr}, H b = none → b ≠ a := fun {b} n z => by
    rw [z, e] at n
    cases n
  have un : Un X.fs [] H (upd (upd H dx (exd dx [(f, y)])) a (exo a C (some dx))) hp h' := {
    keep := fun b o q n _ _ => kp b o (other n) q
    slot := fun b o q n _ _ => ⟨o.slots, kp b o (other n) q⟩
    free := fun b o q n _ => by rw [upd_ne (other n), upd_ne (old q)]; exact n
    there := fun b o q _ => by
      by_cases hb : b = a
      · exact ⟨_, hb ▸ hx⟩
      · exact ⟨o, kp b o hb q⟩
    tups := fun b xs q => by rw [upd_ne (at_ne e q exo_tup), upd_ne (ne_of_none q fresh)]; exact q
    frzs := fun b o v q => by rw [upd_ne (at_ne e q exo_frz), upd_ne (ne_of_none q fresh)]; exact q
    tbls := fun b ps q => ⟨#[], by rw [upd_ne (at_ne e q exo_tbl), upd_ne (ne_of_none q fresh), q]; simp⟩ }
  refine post dx _ fresh dne (I.un (t' := tk') un fun b o q => ?_)
  by_cases hb : b = a
  · subst hb
    rw [upd_same] at q
    cases q
    exact exo_ok hx
  · rw [upd_ne hb] at q
    by_cases hd : b = dx
    · subst hd
      rw [upd_same] at q
      cases q
      exact exd_ok hn (relO_put (fs := []) ry fun g => True.intro)
    · rw [upd_ne hd] at q
      refine (I.hok b o q).stay (fun c v hc z => kp c v ?_ z) (fun c hc => ?_) (fun c xs hc => ?_)
      · rcases hc with hc | hc
        · exact hc ▸ hb
        · exact at_ne e hc exo_own
      · rw [upd_ne (at_ne e hc exo_own), upd_ne (ne_of_none hc fresh)]; exact hc
      · rw [upd_ne (at_ne e hc exo_tup), upd_ne (ne_of_none hc fresh)]; exact hc
/-- Base.__init__(self, ..) -/
theorem base_init {us : List Value} {Q : Value → Shared → Prop} (FB : ExcBaseFacts B nid iid bmB) (T : Gx X.K C bmB nid) (I : Inv X pins σ H s) (e : H a = some (exo a C none)) (hl : us.length ≤ sizeLine) (post : ∀ s', Inv X pins σ H s' → Q .none s') :
    wpAny (model X.prog X.w) A (call (.builtin iid) (.ref a :: us)) Q E s := by
  obtain ⟨nm, N, qn, bs, bm, hdct, sn, sub, ab, col, dd, k0, k1, k2, k3, k5, hC, hT⟩ := PySem.W.excInit_of I.kIn T.made
  obtain ⟨t1, at1⟩ := exo_at I.hok e
  obtain ⟨hp, g, d, t, os⟩ := s
  refine wpAny_call (PySem.HandSPX.init_base FB hT hC at1 hl fun h' t2 kp hx => ?_)
  have J := I.write (t' := t) (x := a) (e := a) (o := exo a C none) (by rw [e]; exact True.intro) (.inl rfl) kp ⟨_, hx⟩ (exo_ok hx)
  have same : upd H a (exo a C none) = H := funext fun b => by
    by_cases hb : b = a
    · rw [hb, upd_same, e]
    · rw [upd_ne hb]
  rw [same] at J
  exact post _ J
end

/-! ### readings and rules -/
/-- Base.__init__(self, ..) -/
def tBi (K : PySem.W.Frag) (bmB : List Value) (nid : String) (ta : TA) : TE := fun σ H Q => ta σ H fun vs H1 => ∃ (a C : Addr) (ws : List V), vs = .ref a :: ws ∧ ws.length ≤ 1000 ∧ Gx K C bmB nid ∧ H1 a = some (exo a C none) ∧ Q .non H1
/-- self.f = e, the first one -/
def tPf (K : PySem.W.Frag) (bmB : List Value) (nid : String) (f : Str) (to te : TE) : TS := fun D σ H => te σ H fun y H1 => to σ H1 fun x H2 => ∃ a C : Addr, x = .ref a ∧ Gx K C bmB nid ∧ PySem.W.findIn K (.ref C) f = some none ∧
  H2 a = some (exo a C none) ∧ ∀ dx, H2 dx = none → dx ≠ a → D.nx σ (upd (upd H2 dx (exd dx [(f, y)])) a (exo a C (some dx)))
section
variable {X : Cx} {o e : Expr} {es : List Expr} {to te : TE} {ta : TA} {f : Str} {p p' p1 p2 pos : Pos} {B nid iid : String} {bmB : List Value} {x : Str}
theorem pe_bi {pl : Sem Bool} (FB : ExcBaseFacts B nid iid bmB) (hg : Gl X x) (hm : X.mg x = none) (hv : bootBuiltins x = some (.type B)) (ty : typeOf (.type B) = pure (.type "type"))
    (vV : PySem.W.findCls X.K (.type B) (.type "type") "__init__" = some (.val (.builtin iid))) (hb : PySem.W.handedIn (.builtin iid) = true) (hst : Manifest.isStub B = false) (ha : PA X (e :: es) ta)
    (hc : eval (.Call (.Attribute (.Name x p1) "__init__" p2) (e :: es) [] pos) X.env = (do
      let ov ← eval (.Name x p1) X.env
      standAt p2.atName
      let (f, first) ← holding [ov] (getMethod ov "__init__" pl)
      callWith pos f first (backTo pos (starEach (e :: es) X.env)) (backToKw pos (keywordEach [] X.env))) := by rfl)
    (hn : x ≠ "__name__" := by decide) (hd : (x == ("__debug__" : Str)) = false := by decide)
    (he : starEach (e :: es) X.env = (false, eval e X.env) :: starEach es X.env := by rfl) (hpl : (backTo pos (starEach es X.env)).any (·.1) = false := by rfl) :
    PE X (.Call (.Attribute (.Name x p1) "__init__" p2) (e :: es) [] pos) (tBi X.K bmB nid ta) := by
  refine ⟨fun pins s σ H Q I h => ?_⟩
  refine PySem.W.methodCall_KW (ld_blt I hg hm hv ?_ hn hd) hc
  obtain ⟨m, fr⟩ := I.fr
  refine PySem.W.method_type fr I.ok.mod.kin ty hst vV hb ?_
  show wpAny _ _ (callWith pos (Value.builtin iid) [] (backTo pos (starEach (e :: es) X.env)) []) _ _ _
  refine PyProof.Rows.callWith_method1 (thn (ha.run pos pins _ σ H _ (I.tok _) h) fun us s1 hh => ?_) he hpl
  obtain ⟨vs, H1, I1, r1, a, C, ws, ev, hl, T, ea, q⟩ := hh
  subst ev
  cases r1 with
  | @cons _ u0 _ ur ra rw' =>
    obtain rfl : u0 = Value.ref a := ra
    have hlen : ur.length ≤ sizeLine := by
      have := Paired.length rw'
      rw [sizeLine_eq]
      omega
    exact base_init FB T I1 ea hlen fun s' J => ⟨.non, H1, J, rfl, q⟩
theorem ps_pf (SF : StoreFacts B bmB "object.__setattr__" "object") (ho : PE X o to) (he : PE X e te) (hs : swapsWith e (some (.Attribute o f p')) pos.line X.env = pure false := by rfl) : PS X (.Assign [.Attribute o f p'] e pos) (tPf X.K bmB nid f to te) := by
  refine ⟨fun pins s σ H D I h => ?_⟩
  refine plainObj_wpAny_Assign_Attribute (thn (he.run pins s σ H _ I h) fun v s1 h1 => ?_) hs
  obtain ⟨y, H1, I1, r1, q1⟩ := h1
  refine thn (ho.run pins s1 σ H1 _ I1 q1) fun u s2 h2 => ?_
  obtain ⟨z, H2, I2, r2, a, C, ex, T, hno, ea, q⟩ := h2
  subst ex
  obtain rfl : u = Value.ref a := r2
  exact put_first SF T I2 ea hno r1 fun dx s' n ne J => ⟨σ, _, J, q dx n ne⟩
/-- C(e, ..) as what is raised, C's own __init__ keeping sp -/
theorem pmk_gx {CX : CXT} {C fI : Addr} {k : Nat} {fd : FuncData} {ps : List Str} {sp : Sp} {ds : List Value} {dvs : List V} (FB : ExcBaseFacts B nid iid bmB) (T : Gx X.K C bmB nid) (iC : PySem.W.findIn X.K (.ref C) "__init__" = some (some (.ref fI)))
    (tI : PySem.W.typeIn X.K (.ref fI) = some (.type "function"))
    (F1 : FnOk X.prog X.w X.K X.mg X.base CX k fI fd ps sp) (hr : Room (k + 1) X.A) (hb : Binds X.K fd ps ds) (hd : Vals dvs ds) (hx : Passes CX X (fun _ _ _ => False)) (hg : Gl X x) (hm : X.mg x = some (.ref C)) (ha : PA X (e :: es) ta)
    (hdb : (x == ("__debug__" : Str)) = false := by decide) (he : starEach (e :: es) X.env = (false, eval e X.env) :: starEach es X.env := by rfl) (hpl : (backTo pos (starEach es X.env)).any (·.1) = false := by rfl) :
    PMk X (.Call (.Name x p) (e :: es) [] pos) (tMkO C sp dvs ta) := by
  intro pins s σ H Q I h
  refine wpAny_Call_Name_kw (ld_glob I hg hm ?_ hdb)
  refine PySem.W.callWith_K (h₀ := X.base) I.ok.mod.kin T.keep (thn (ha.run pos pins s σ H _ I h) fun us s1 hh => ?_) he hpl
  obtain ⟨vs, H1, I1, r1, hz, q1⟩ := hh
  refine ⟨I1.kIn, ?_⟩
  show wpAny _ _ (call (.ref C) us) _ _ _
  obtain ⟨nm, N, qn, bs, bm, hdct, sn, sub, ab, col, dd, k0, k1, k2, k3, k5, hC, hT⟩ := PySem.W.excInit_of I1.kIn T.made
  obtain ⟨hp, g, dr, tk, os⟩ := s1
  have big : hp.objs.size ≤ hp.objs.size + 1 := Nat.le_succ _
  have hq := q1 (hp.objs.size + 1) (I1.hok.fresh big)
  have kk : ∀ b o, hp.get? b = some o → ((hp.push (PySem.W.kdv_tup us)).push (PySem.HandSPX.excO C hp.objs.size)).get? b = some o := fun b o z =>
    Heap.get?_push_of_some _ (Heap.get?_push_of_some _ z)
  have there : ((hp.push (PySem.W.kdv_tup us)).push (PySem.HandSPX.excO C hp.objs.size)).get? (hp.objs.size + 1) = some (PySem.HandSPX.excO C hp.objs.size) := by heap_get
  have I2 := I1.laid (t' := tk) (a := hp.objs.size + 1) (o := exo (hp.objs.size + 1) C none) (h' := (hp.push (PySem.W.kdv_tup us)).push (PySem.HandSPX.excO C hp.objs.size)) kk big (exo_ok there)
  have r2 : Vals (V.ref (hp.objs.size + 1) :: (vs ++ dvs)) (Value.ref (hp.objs.size + 1) :: (us ++ ds)) := .cons rfl (r1.append hd)
  have hl : (Value.ref (hp.objs.size + 1) :: us ++ ds).length = ps.length := by
    have e1 := r2.length
    rw [F1.len _ _ _ _ hq] at e1
    exact e1.symm
  have few : us.length ≤ sizeLine := by
    have := Paired.length r1
    rw [sizeLine_eq]
    omega
  refine wpAny_call (PySem.HandSPX.call_own FB hT hC (PySem.W.looks_findIn I1.kIn iC) (fun self => PySem.W.bind_fn I1.kIn self tI) few (codeAny_mono
    (F1.run _ X.stack _ _ ⟨Value.ref (hp.objs.size + 1) :: us, []⟩ (Value.ref (hp.objs.size + 1) :: (us ++ ds)) _ _ (fun _ _ _ => False) (hr.make C us []) (I2.env0.make C us []) (hb _ (Value.ref (hp.objs.size + 1) :: us) I2.kIn hl) r2 hq) fun r s' hq' => ?_))
  cases r with
  | error er => exact hx pins σ _ _ er s' I2 hq'
  | ok fl =>
    cases fl with
    | ret u =>
      obtain ⟨v, H2, os2, bare2, un2, hok2, rv, ev, d, fs, ea, ed, hd1, q2⟩ := hq'
      subst ev
      obtain ⟨h2, g2, d2, t2, os'⟩ := s'
      exact ⟨rv, mk_end (raises_own T.base T.typ) I1 big kk un2 hok2 os2 bare2 ea ed hd1 q2⟩
    | next => exact False.elim hq'
    | brk => exact False.elim hq'
    | cont => exact False.elim hq'
end
/-! ### the head's look at such a class -/
def hasDB (K : PySem.W.Frag) (C : Addr) : Bool := match PySem.W.clsIn K C with
  | some cd => cd.hasDict
  | none => false
/-- Base.__init__, read off the class Base -/
def vvB (K : PySem.W.Frag) (B iid : String) : Bool := match PySem.W.findCls K (.type B) (.type "type") "__init__" with
  | some (.val (.builtin n)) => n == iid
  | _ => false
theorem vvB_ok {K : PySem.W.Frag} {B iid : String} (h : vvB K B iid = true) : PySem.W.findCls K (.type B) (.type "type") "__init__" = some (.val (.builtin iid)) := by
  unfold vvB at h
  split at h
  · rename_i n e
    rw [e, eq_of_beq h]
  · cases h
/-- what isinstance asks of an own class -/
def isB (K : PySem.W.Frag) (C : Addr) : Bool := He.eqO (PySem.W.findIn K (.ref C) "__class__") (some (some (.builtin "object.__class__"))) && (He.eqO (PySem.W.specialIn K (.builtin "object.__class__") "__get__") (some (some (.builtin "getset_descriptor.__get__"))) &&
  (decide (PySem.W.takesIn K (.builtin "object.__class__") = some true) && decide (PySem.W.mroIn K C (.type "object") = some true)))
def gxB (K : PySem.W.Frag) (C : Addr) (bmB : List Value) (nid : String) : Bool := PySem.W.excOver K C bmB && (PySem.W.excInitIn K C bmB nid && (hasDB K C &&
  (He.eqO (PySem.W.findIn K (.ref C) "__setattr__") (some (some (.builtin "object.__setattr__"))) && (decide (PySem.W.subIn K (.ref C) (.type "BaseException") = some true) &&
  (decide (PySem.W.typeIn K (.ref C) = some (.type "type")) && PySem.W.keepIn K (.ref C))))))
theorem gxB_ok {K : PySem.W.Frag} {C : Addr} {bmB : List Value} {nid : String} (h : gxB K C bmB nid = true) : Gx K C bmB nid := by
  unfold gxB at h
  simp only [Bool.and_eq_true, decide_eq_true_eq] at h
  obtain ⟨h1, h2, h3, h4, h5, h6, h7⟩ := h
  refine ⟨h1, h2, ?_, He.eqO_ok h4, h5, h6, h7⟩
  unfold hasDB at h3
  split at h3
  · rename_i cd e
    exact ⟨cd, e, h3⟩
  · cases h3
end GX
set_option Elab.async false
set_option linter.all false
set_option maxRecDepth 100000
set_option maxHeartbeats 4000000
/-! GXK: own exceptions over a base that has no __new__ of its own (KeyError: LookupError's is called). -/
namespace GXK
open PySem PySem.Spec L2 PySem.HandSPX
abbrev keT : List Value := [.type "KeyError", .type "LookupError", .type "Exception", .type "BaseException", .type "object"]
/-- what is asked of the base's own __init__ -/
structure InitF (B iid : String) (bmB : List Value) : Prop where
  entry : entryFor table iid = some Builtin.«BaseException.__init__»
  split : splitId iid = some (B, "__init__")
  kind : builtinKind iid = some .slot
  row : Manifest.signature? iid = some ⟨.positional, "*", B, .self, [⟨"args", .varPos, false⟩]⟩
  star : (B != "*") = true
  has : bmB.contains (.type B) = true
  init : Slot B "__init__" iid
/-- what is asked of the __new__ that is called -/
structure NewF (Bn nid inN : String) (bmN bmB : List Value) : Prop where
  base : ExcBaseFacts Bn nid inN bmN
  has : bmB.contains (.type Bn) = true
  noA : bmB.contains (.type "AttributeError") = false
  noN : bmB.contains (.type "NameError") = false
section
variable {prog : Program} {w : World} {M : Model} {A : Around} {E : Value → Shared → Prop} {R : Result → Shared → Prop} {h : Heap} {g : Array GenState} {d : Drawn} {t : Nat} {os : OsState}
variable {nm q : Str} {C N : Addr} {bs bm bmB bmN : List Value} {hdct : Bool} {sn : List Str} {sub : List Value} {ab : Bool} {col : Option Bool} {dd : Option Addr} {k0 k1 k2 k3 k5 : Option Value} {B Bn nid iid inN : String}
theorem new_checked (F : NewF Bn nid inN bmN bmB) (like : ∀ X : String, bm.contains (.type X) = bmB.contains (.type X)) {rest : List Value} {Q : Unit → Shared → Prop} (atC : h.get? C = some (excClassObj nm q C N bs bm hdct sn sub ab col dd k0 k1 k2 k3 k5 nid)) (post : Q () ⟨h, g, d, t, os⟩) : wpAny M A (checkBuiltinCall nid ⟨.ref C :: rest, []⟩) Q E ⟨h, g, d, t, os⟩ := by
  have yes : (Value.ref C :: bm).contains (.type Bn) = true := by rw [List.contains_cons, like, F.has, Bool.or_true]
  have hstar := F.base.noStar
  simp only [checkBuiltinCall, F.base.newKind, F.base.newSplit, F.base.newRow]
  repeat (first | refine wpAny_loadPart_at atC ?_ | (refine wpAny_isSubtype_exc atC ?_; rw [yes]) | refine wpAny_staticBase_exc atC ?_ | refine wpAny_madeBy_exc atC ?_ | simp only [bne_self_eq_false, Bool.false_eq_true, if_false] | wp_step)
  exact post
theorem init_checked (F : InitF B iid bmB) (like : ∀ X : String, bm.contains (.type X) = bmB.contains (.type X)) {e : Addr} {oe : Obj} {rest : List Value} {Q : Unit → Shared → Prop} (atC : h.get? C = some (excClassObj nm q C N bs bm hdct sn sub ab col dd k0 k1 k2 k3 k5 nid)) (ate : h.get? e = some oe) (clsC : oe.cls = .ref C) (post : Q () ⟨h, g, d, t, os⟩) : wpAny M A (checkBuiltinCall iid ⟨.ref e :: rest, []⟩) Q E ⟨h, g, d, t, os⟩ := by
  have yes : (Value.ref C :: bm).contains (.type B) = true := by rw [List.contains_cons, like, F.has, Bool.or_true]
  have hshort := F.star
  simp only [checkBuiltinCall, F.kind, F.split, F.row]
  repeat (first | (with_reducible refine wpAny_loadPart_at ate ?_; rw [clsC]) | with_reducible refine wpAny_loadPart_at atC ?_ | (with_reducible refine wpAny_isSubtype_exc atC ?_; rw [yes]) | wp_step)
  refine wpAny_onRaise ?_
  have star : ∀ (a b : String) (n : Nat), Bind.check ⟨.positional, "*", B, .self, [⟨"args", .varPos, false⟩]⟩ a b n (List.map (fun x => x.fst) ({ pos := Value.ref e :: rest } : Args).kw) = pure () := fun a b n => check_star_args _ _ _ _ _ _
  rw [star]
  exact wpAny_pure post
theorem made (F : NewF Bn nid inN bmN bmB) (like : ∀ X : String, bm.contains (.type X) = bmB.contains (.type X)) {rest : List Value} (atC : h.get? C = some (excClassObj nm q C N bs bm hdct sn sub ab col dd k0 k1 k2 k3 k5 nid))
    (post : R (.ok (.ret (.ref (h.objs.size + 1)))) ⟨(h.push (W.kdv_tup rest)).push (excO C h.objs.size), g, d, t, os⟩) (few : rest.length ≤ sizeLine) : codeAny (model prog w) A (.builtin nid ⟨.ref C :: rest, []⟩) R ⟨h, g, d, t, os⟩ := by
  have hends := F.base.ends
  have c1 : (Value.ref C :: bm).contains (.type Bn) = true := by rw [List.contains_cons, like, F.has, Bool.or_true]
  have c2 : (Value.ref C :: bm).contains (.type "AttributeError") = false := by rw [List.contains_cons, like, F.noA]; rfl
  have c3 : (Value.ref C :: bm).contains (.type "NameError") = false := by rw [List.contains_cons, like, F.noN]; rfl
  refine codeAny_builtinAt F.base.entry ?_
  unfold Builtin.«BaseException.__new__»; refine wpAt_bind ?_
  show wpAt _ _ _ (stack >>= _) _ _ _; refine wpAt_bind (wpAt_stack fun p below => wpAt_of_wpAny ?_)
  wp_walk
  refine wpAt_of_wpAny ?_
  rw [F.base.owner]
  repeat (first | with_reducible refine wpAny_madeHere_exc F.base.canon atC ?_ | with_reducible refine wpAny_loadPart_at atC ?_ | (with_reducible refine wpAny_isSubtype_exc atC ?_; first | rw [c1] | rw [c2] | rw [c3]) | wp_step)
  show R _ _
  rw [Heap.size_push]
  exact post
theorem type_called (F : NewF Bn nid inN bmN bmB) (like : ∀ X : String, bm.contains (.type X) = bmB.contains (.type X)) {rest : List Value} {fI : Addr} {Q : Fin → Shared → Prop} (atC : h.get? C = some (excClassObj nm q C N bs bm hdct sn sub ab col dd k0 k1 k2 k3 k5 nid))
    (hi : W.Looks (model prog w) h (typeLookup (.ref C) "__init__") (some (.ref fI))) (hb : ∀ self, W.Looks (model prog w) h (bindSpecial (.ref fI) self) (.ref fI, [self])) (few : rest.length ≤ sizeLine)
    (run : codeAny (model prog w) A (.call (.ref fI) ⟨.ref (h.objs.size + 1) :: rest, []⟩) (fun r s' => match r with | .ok (.ret v) => v = .none ∧ Q (.done (.ret (.ref (h.objs.size + 1)))) s' | .ok _ => False | .error e => E e s') ⟨(h.push (W.kdv_tup rest)).push (excO C h.objs.size), g, d, t, os⟩) :
    wpAny (model prog w) A (Builtin.«type.__call__» ⟨.ref C :: rest, []⟩) Q E ⟨h, g, d, t, os⟩ := by
  repeat (first | with_reducible refine wpAny_loadPart_at atC ?_ | with_reducible refine wpAny_madeBy_exc atC ?_ | wp_step)
  refine codeAny_call_builtin_code (Code.quiet_builtin _ F.base.quiet) (new_checked F like atC ?_)
  refine made F like atC ?_ few
  show wpAny _ _ _ _ _ _
  have keep : ∀ b o, h.get? b = some o → ((h.push (W.kdv_tup rest)).push (excO C h.objs.size)).get? b = some o := fun b o e => Heap.get?_push_of_some _ (Heap.get?_push_of_some _ e)
  have atC1 := keep _ _ atC
  have ate : ((h.push (W.kdv_tup rest)).push (excO C h.objs.size)).get? (h.objs.size + 1) = some (excO C h.objs.size) := by heap_get
  have own : (Value.ref C :: bm).contains (.ref C) = true := by simp
  have look := hi.keeps keep
  have bnd := (hb (.ref (h.objs.size + 1))).keeps keep
  unfold isInstance
  repeat (first | with_reducible refine wpAny_loadPart_at ate ?_ | (with_reducible refine wpAny_isSubtype_exc atC1 ?_; rw [own]) | wp_step)
  show wpAny _ _ (typeLookup (.ref C) _) _ _ _; refine look.at ?_
  refine wpAny_holding (wpAny_bind (bnd.at ?_)); refine wpAny_bind (wpAny_call (codeAny_mono run fun r s' z => ?_))
  rcases r with e | (v | _ | _ | _) <;> first | exact z | exact z.elim | skip
  obtain ⟨rfl, z⟩ := z
  first | exact wpAny_pure (wpAny_pure z) | (wp_walk; exact z)
theorem called (F : NewF Bn nid inN bmN bmB) (like : ∀ X : String, bm.contains (.type X) = bmB.contains (.type X)) {rest : List Value} {fI : Addr} (atC : h.get? C = some (excClassObj nm q C N bs bm hdct sn sub ab col dd k0 k1 k2 k3 k5 nid))
    (hi : W.Looks (model prog w) h (typeLookup (.ref C) "__init__") (some (.ref fI))) (hb : ∀ self, W.Looks (model prog w) h (bindSpecial (.ref fI) self) (.ref fI, [self])) (few : rest.length ≤ sizeLine)
    (run : codeAny (model prog w) (A.under (.builtin "type.__call__" ⟨.ref C :: rest, []⟩)) (.call (.ref fI) ⟨.ref (h.objs.size + 1) :: rest, []⟩) (W.InitBack (h.objs.size + 1) R) ⟨(h.push (W.kdv_tup rest)).push (excO C h.objs.size), g, d, t, os⟩) : codeAny (model prog w) A (.call (.ref C) ⟨rest, []⟩) R ⟨h, g, d, t, os⟩ := by
  have f1 := tc_lookup
  have f2 := tc_bind (.ref C)
  have hTy : (⟨h, g, d, t, os⟩ : Shared).TypeIs (.ref C) "type" := ⟨_, atC, rfl⟩
  refine codeAny_of_tree ?_
  show wpAny _ _ (callAny (.ref C) _) _ _ _
  repeat (any_goals (first | assumption | with_reducible refine wpAny_loadPart_at atC ?_ | wp_step))
  refine ⟨rfl, codeAny_call_builtin_at (Code.quiet_builtin _ (by decide +kernel)) entry_typeCall (wpAny_check_type_call_sub atC (type_called F like atC hi hb few (codeAny_mono run fun r s' z => ?_)))⟩
  rcases r with e | (v | _ | _ | _) <;> exact z
theorem inited (F : InitF B iid bmB) (like : ∀ X : String, bm.contains (.type X) = bmB.contains (.type X)) {e t0 : Addr} {rest : List Value} (atC : h.get? C = some (excClassObj nm q C N bs bm hdct sn sub ab col dd k0 k1 k2 k3 k5 nid)) (ate : h.get? e = some (excO C t0)) (few : rest.length ≤ sizeLine)
    (post : ∀ h' t1, (∀ b o, b ≠ e → h.get? b = some o → h'.get? b = some o) → h'.get? e = some (excO C t1) → R (.ok (.ret .none)) ⟨h', g, d, t, os⟩) : codeAny (model prog w) A (.call (.builtin iid) ⟨.ref e :: rest, []⟩) R ⟨h, g, d, t, os⟩ := by
  refine codeAny_call_builtin F.init.plain F.entry (init_checked F like atC ate rfl ?_)
  wp_walk
  refine post _ h.objs.size (fun b o hb ho => by rw [Heap.get?_update_other _ _ (Ne.symm hb)]; exact Heap.get?_push_of_some _ ho) ?_
  rw [Heap.get?_update_self _ (Heap.get?_push_of_some _ ate) rfl]; rfl
end
open PyProof.Rows
section
variable {X : Cx} {pins : List (Addr × Obj)} {σ : L2.St} {H : Hp} {s : Shared} {a C : Addr} {E : Value → Shared → Prop} {A : Around} {B Bn nid iid inN : String} {bmB bmN : List Value}
theorem base_init {us : List Value} {Q : Value → Shared → Prop} (FB : InitF B iid bmB) (T : GX.Gx X.K C bmB nid) (I : Inv X pins σ H s) (e : H a = some (exo a C none)) (few : us.length ≤ sizeLine) (post : ∀ s', Inv X pins σ H s' → Q .none s') : wpAny (model X.prog X.w) A (call (.builtin iid) (.ref a :: us)) Q E s := by
  obtain ⟨nm, N, qn, bs, bm, hdct, sn, sub, ab, col, dd, k0, k1, k2, k3, k5, hC, hT⟩ := PySem.W.excInit_of I.kIn T.made
  obtain ⟨t1, at1⟩ := exo_at I.hok e
  obtain ⟨hp, g, d, t, os⟩ := s
  refine wpAny_call (inited FB hT hC at1 few fun h' t2 kp hx => ?_)
  have J := I.write (t' := t) (x := a) (e := a) (o := exo a C none) (by rw [e]; exact True.intro) (.inl rfl) kp ⟨_, hx⟩ (exo_ok hx)
  have same : upd H a (exo a C none) = H := funext fun b => by
    by_cases hb : b = a
    · rw [hb, upd_same, e]
    · rw [upd_ne hb]
  rw [same] at J
  exact post _ J
end
section
variable {X : Cx} {e : Expr} {es : List Expr} {ta : TA} {p p1 p2 pos : Pos} {B Bn nid iid inN : String} {bmB bmN : List Value} {x : Str}
/-- Base.__init__(self, ..) -/
theorem pe_bi {pl : Sem Bool} (FB : InitF B iid bmB) (hg : Gl X x) (hm : X.mg x = none) (hv : bootBuiltins x = some (.type B)) (ty : typeOf (.type B) = pure (.type "type"))
    (vV : PySem.W.findCls X.K (.type B) (.type "type") "__init__" = some (.val (.builtin iid))) (hb : PySem.W.handedIn (.builtin iid) = true) (hst : Manifest.isStub B = false) (ha : PA X (e :: es) ta)
    (hc : eval (.Call (.Attribute (.Name x p1) "__init__" p2) (e :: es) [] pos) X.env = (do
      let ov ← eval (.Name x p1) X.env
      standAt p2.atName
      let (f, first) ← holding [ov] (getMethod ov "__init__" pl)
      callWith pos f first (backTo pos (starEach (e :: es) X.env)) (backToKw pos (keywordEach [] X.env))) := by rfl)
    (hn : x ≠ "__name__" := by decide) (hd : (x == ("__debug__" : Str)) = false := by decide)
    (he : starEach (e :: es) X.env = (false, eval e X.env) :: starEach es X.env := by rfl) (hpl : (backTo pos (starEach es X.env)).any (·.1) = false := by rfl) :
    PE X (.Call (.Attribute (.Name x p1) "__init__" p2) (e :: es) [] pos) (GX.tBi X.K bmB nid ta) := by
  refine ⟨fun pins s σ H Q I h => ?_⟩
  refine PySem.W.methodCall_KW (ld_blt I hg hm hv ?_ hn hd) hc
  obtain ⟨m, fr⟩ := I.fr
  refine PySem.W.method_type fr I.ok.mod.kin ty hst vV hb ?_
  show wpAny _ _ (callWith pos (Value.builtin iid) [] (backTo pos (starEach (e :: es) X.env)) []) _ _ _
  refine PyProof.Rows.callWith_method1 (thn (ha.run pos pins _ σ H _ (I.tok _) h) fun us s1 hh => ?_) he hpl
  obtain ⟨vs, H1, I1, r1, a, C, ws, ev, hl, T, ea, q⟩ := hh
  subst ev
  cases r1 with
  | @cons _ u0 _ ur ra rw' =>
    obtain rfl : u0 = Value.ref a := ra
    have few : ur.length ≤ sizeLine := by
      have := Paired.length rw'
      rw [sizeLine_eq]
      omega
    exact base_init FB T I1 ea few fun s' J => ⟨.non, H1, J, rfl, q⟩
/-- C(e, ..) as what is raised -/
theorem pmk {CX : CXT} {C fI : Addr} {k : Nat} {fd : FuncData} {ps : List Str} {sp : Sp} {ds : List Value} {dvs : List V} (FB : NewF Bn nid inN bmN bmB) (T : GX.Gx X.K C bmB nid) (iC : PySem.W.findIn X.K (.ref C) "__init__" = some (some (.ref fI)))
    (tI : PySem.W.typeIn X.K (.ref fI) = some (.type "function"))
    (F1 : FnOk X.prog X.w X.K X.mg X.base CX k fI fd ps sp) (hr : Room (k + 1) X.A) (hb : Binds X.K fd ps ds) (hd : Vals dvs ds) (hx : Passes CX X (fun _ _ _ => False)) (hg : Gl X x) (hm : X.mg x = some (.ref C)) (ha : PA X (e :: es) ta)
    (hdb : (x == ("__debug__" : Str)) = false := by decide) (he : starEach (e :: es) X.env = (false, eval e X.env) :: starEach es X.env := by rfl) (hpl : (backTo pos (starEach es X.env)).any (·.1) = false := by rfl) :
    PMk X (.Call (.Name x p) (e :: es) [] pos) (tMkO C sp dvs ta) := by
  intro pins s σ H Q I h
  refine wpAny_Call_Name_kw (ld_glob I hg hm ?_ hdb)
  refine PySem.W.callWith_K (h₀ := X.base) I.ok.mod.kin T.keep (thn (ha.run pos pins s σ H _ I h) fun us s1 hh => ?_) he hpl
  obtain ⟨vs, H1, I1, r1, hz, q1⟩ := hh
  refine ⟨I1.kIn, ?_⟩
  show wpAny _ _ (call (.ref C) us) _ _ _
  obtain ⟨nm, N, qn, bs, bm, hdct, sn, sub, ab, col, dd, k0, k1, k2, k3, k5, hC, hT⟩ := PySem.W.excInit_of I1.kIn T.made
  obtain ⟨hp, g, dr, tk, os⟩ := s1
  have big : hp.objs.size ≤ hp.objs.size + 1 := Nat.le_succ _
  have hq := q1 (hp.objs.size + 1) (I1.hok.fresh big)
  have kk : ∀ b o, hp.get? b = some o → ((hp.push (PySem.W.kdv_tup us)).push (excO C hp.objs.size)).get? b = some o := fun b o z => Heap.get?_push_of_some _ (Heap.get?_push_of_some _ z)
  have there : ((hp.push (PySem.W.kdv_tup us)).push (excO C hp.objs.size)).get? (hp.objs.size + 1) = some (excO C hp.objs.size) := by heap_get
  have I2 := I1.laid (t' := tk) (a := hp.objs.size + 1) (o := exo (hp.objs.size + 1) C none) (h' := (hp.push (PySem.W.kdv_tup us)).push (excO C hp.objs.size)) kk big (exo_ok there)
  have r2 : Vals (V.ref (hp.objs.size + 1) :: (vs ++ dvs)) (Value.ref (hp.objs.size + 1) :: (us ++ ds)) := .cons rfl (r1.append hd)
  have hl : (Value.ref (hp.objs.size + 1) :: us ++ ds).length = ps.length := by
    have e1 := r2.length
    rw [F1.len _ _ _ _ hq] at e1
    exact e1.symm
  have few : us.length ≤ sizeLine := by
    have := Paired.length r1
    rw [sizeLine_eq]
    omega
  refine wpAny_call (called FB hT hC (PySem.W.looks_findIn I1.kIn iC) (fun self => PySem.W.bind_fn I1.kIn self tI) few (codeAny_mono
    (F1.run _ X.stack _ _ ⟨Value.ref (hp.objs.size + 1) :: us, []⟩ (Value.ref (hp.objs.size + 1) :: (us ++ ds)) _ _ (fun _ _ _ => False) (hr.make C us []) (I2.env0.make C us []) (hb _ (Value.ref (hp.objs.size + 1) :: us) I2.kIn hl) r2 hq) fun r s' hq' => ?_))
  cases r with
  | error er => exact hx pins σ _ _ er s' I2 hq'
  | ok fl =>
    cases fl with
    | ret u =>
      obtain ⟨v, H2, os2, bare2, un2, hok2, rv, ev, d, fs, ea, ed, hd1, q2⟩ := hq'
      subst ev
      obtain ⟨h2, g2, d2, t2, os'⟩ := s'
      exact ⟨rv, mk_end (raises_own T.base T.typ) I1 big kk un2 hok2 os2 bare2 ea ed hd1 q2⟩
    | next => exact False.elim hq'
    | brk => exact False.elim hq'
    | cont => exact False.elim hq'
end
/-! KeyError -/
theorem initKE : InitF "KeyError" "KeyError.__init__" keT where
  entry := excClass_KeyError.initEntry
  split := by decide +kernel
  kind := by decide +kernel
  row := by kernel_rfl
  star := by decide +kernel
  has := by decide +kernel
  init := excClass_KeyError.init
theorem newKE : NewF "LookupError" "LookupError.__new__" "LookupError.__init__" [.type "LookupError", .type "Exception", .type "BaseException", .type "object"] keT where
  base := PySem.F.excBase_LookupError
  has := by decide +kernel
  noA := by decide +kernel
  noN := by decide +kernel
theorem storeKE : StoreFacts "KeyError" keT "object.__setattr__" "object" where
  mro := by kernel_rfl
  slot := .of (owner := "object") (n := "__setattr__") (by rw [typeLookup_type, builtinLookup_eq_fast]; kernel_rfl) (by decide +kernel) (by decide +kernel) (by decide +kernel) (by first | exact .inl (by decide +kernel) | exact .inr (by decide +kernel)) (by rw [isSubtype_type]; kernel_rfl)
  entry := PySem.F.store_ZeroDivisionError.entry
  kind := by decide +kernel
  split := by decide +kernel
  hasOwner := by decide +kernel
  args := fun a b c => by unfold argsOk; kernel_rfl
  passes := fun self => by kernel_rfl
theorem typKE : typeOf (.type "KeyError") = pure (.type "type") := by kernel_rfl
end GXK
set_option linter.all false
namespace KM
/-- the signed common part -/
def sg (t b : Int) : Int := if b < 0 then -(Int.gcd t b : Int) else (Int.gcd t b : Int)
/-- a fraction in lowest terms -/
def low (t b : Int) : Int × Int := (t.fdiv (sg t b), b.fdiv (sg t b))
theorem gcd_pos {t b : Int} (h : b ≠ 0) : 0 < Int.gcd t b := Int.gcd_pos_of_ne_zero_right t h
theorem sg_ne {t b : Int} (h : b ≠ 0) : sg t b ≠ 0 := by
  have := gcd_pos (t := t) h
  unfold sg
  split <;> omega
theorem sg_dvd_left (t b : Int) : sg t b ∣ t := by
  unfold sg
  split
  · exact Int.neg_dvd.mpr (Int.gcd_dvd_left ..)
  · exact Int.gcd_dvd_left ..
theorem sg_dvd_right (t b : Int) : sg t b ∣ b := by
  unfold sg
  split
  · exact Int.neg_dvd.mpr (Int.gcd_dvd_right ..)
  · exact Int.gcd_dvd_right ..
theorem low_top {t b : Int} : sg t b * (low t b).1 = t := by
  show sg t b * t.fdiv (sg t b) = t
  rw [Int.fdiv_eq_ediv_of_dvd (sg_dvd_left t b)]
  exact Int.mul_ediv_cancel' (sg_dvd_left t b)
theorem low_bot {t b : Int} : sg t b * (low t b).2 = b := by
  show sg t b * b.fdiv (sg t b) = b
  rw [Int.fdiv_eq_ediv_of_dvd (sg_dvd_right t b)]
  exact Int.mul_ediv_cancel' (sg_dvd_right t b)
theorem sg_abs (t b : Int) : (sg t b).natAbs = Int.gcd t b := by
  unfold sg
  split <;> simp
theorem low_pos {t b : Int} (h : b ≠ 0) : 0 < (low t b).2 := by
  have e := low_bot (t := t) (b := b)
  have g := gcd_pos (t := t) h
  by_cases hb : b < 0
  · have hs : sg t b < 0 := by unfold sg; rw [if_pos hb]; omega
    refine Int.lt_of_not_ge fun hc => ?_
    have := Int.mul_nonneg_of_nonpos_of_nonpos (Int.le_of_lt hs) hc
    omega
  · have hs : 0 < sg t b := by unfold sg; rw [if_neg hb]; omega
    refine Int.lt_of_not_ge fun hc => ?_
    have := Int.mul_nonpos_of_nonneg_of_nonpos (Int.le_of_lt hs) hc
    omega
theorem low_cop {t b : Int} (h : b ≠ 0) : Int.gcd (low t b).1 (low t b).2 = 1 := by
  have e : Int.gcd (sg t b * (low t b).1) (sg t b * (low t b).2) = (sg t b).natAbs * Int.gcd (low t b).1 (low t b).2 := Int.gcd_mul_left ..
  rw [low_top, low_bot, sg_abs] at e
  have g := gcd_pos (t := t) h
  have : Int.gcd t b * Int.gcd (low t b).1 (low t b).2 = Int.gcd t b * 1 := by omega
  exact Nat.eq_of_mul_eq_mul_left g this
theorem low_id {t b : Int} (hb : 0 < b) (h : Int.gcd t b = 1) : low t b = (t, b) := by
  have e : sg t b = 1 := by unfold sg; rw [if_neg (by omega), h]; rfl
  unfold low
  rw [e]
  simp
theorem low_low {t b : Int} (h : b ≠ 0) : low (low t b).1 (low t b).2 = low t b := low_id (low_pos h) (low_cop h)
/-- the bottom stays: nothing is taken out -/
theorem low_same {t b : Int} (hb : 0 < b) (h : (low t b).2 = b) : low t b = (t, b) := by
  have e := low_bot (t := t) (b := b)
  rw [h] at e
  have e1 : sg t b * b = 1 * b := by omega
  have e2 := Int.eq_of_mul_eq_mul_right (Int.ne_of_gt hb) e1
  have e3 := low_top (t := t) (b := b)
  rw [e2] at e3
  refine Prod.ext ?_ h
  show (low t b).1 = t
  omega
theorem dvd_le {x y : Int} (h : x * y ≠ 0) : y.natAbs ≤ (x * y).natAbs := by
  rw [Int.natAbs_mul]
  have : x ≠ 0 := fun z => h (by rw [z, Int.zero_mul])
  exact Nat.le_mul_of_pos_left _ (by omega)
theorem low_top_le {t b : Int} (h : b ≠ 0) : (low t b).1.natAbs ≤ t.natAbs := by
  by_cases ht : t = 0
  · subst ht
    have e := low_top (t := 0) (b := b)
    rcases Int.mul_eq_zero.mp e with z | z
    · exact absurd z (sg_ne h)
    · rw [z]; exact Nat.le_refl _
  · have e := low_top (t := t) (b := b)
    have := dvd_le (x := sg t b) (y := (low t b).1) (by omega)
    rw [e] at this
    exact this
theorem low_bot_le {t b : Int} (h : b ≠ 0) : (low t b).2.natAbs ≤ b.natAbs := by
  have e := low_bot (t := t) (b := b)
  have := dvd_le (x := sg t b) (y := (low t b).2) (by omega)
  rw [e] at this
  exact this
theorem sg_le {t b : Int} (h : b ≠ 0) : (sg t b).natAbs ≤ b.natAbs := by
  have e := low_bot (t := t) (b := b)
  have := dvd_le (x := (low t b).2) (y := sg t b) (by rw [Int.mul_comm]; omega)
  rw [Int.mul_comm, e] at this
  exact this
/-- Euclid's turn over whole numbers from 0 on -/
theorem gcd_turn {a b : Int} (ha : 0 ≤ a) (hb : 0 < b) : Int.gcd b (a % b) = Int.gcd a b := by
  obtain ⟨m, rfl⟩ := Int.eq_ofNat_of_zero_le ha
  obtain ⟨n, rfl⟩ := Int.eq_ofNat_of_zero_le (Int.le_of_lt hb)
  show Nat.gcd (Int.natAbs (n : Int)) (Int.natAbs ((m : Int) % (n : Int))) = Nat.gcd (Int.natAbs (m : Int)) (Int.natAbs (n : Int))
  rw [← Int.natCast_emod, Int.natAbs_natCast, Int.natAbs_natCast, Int.natAbs_natCast, Nat.gcd_comm n, Nat.gcd_comm m n]
  exact (Nat.gcd_rec n m).symm
theorem gcd_succ (a : Int) : Int.gcd a (a + 1) = 1 := by
  have : Int.gcd (a + 1) a = Int.gcd 1 a := by
    rw [Int.add_comm, Int.gcd_add_self_left]
  rw [Int.gcd_comm, this, Int.gcd_comm]
  simp
end KM
set_option Elab.async false
set_option linter.all false
set_option maxRecDepth 100000
set_option maxHeartbeats 4000000
namespace K32
open PySem PySem.Spec PyProof.Rows L2
/-- a def of the text -/
abbrev Dn (K : PySem.W.Frag) (d : He.DefD) (f : Addr) (fd : FuncData) : Prop := FunD K d.name d.qual d.params d.body d.scope (d.dvs K) (d.kws K) f fd
/-- what the module's names are -/
structure Bl (mg : Str → Option Value) : Prop where
  isi : mg "isinstance" = none
  int : mg "int" = none
  bool : mg "bool" = none
  abs : mg "abs" = none
  list : mg "list" = none
  range : mg "range" = none
  len : mg "len" = none
theorem op_fdW {X : Cx} : OpR X (binaryOp .FloorDiv) (rI (fun _ j => j ≠ 0 ∧ j.natAbs.log2 < 9000) fun i j => .int (i.fdiv j)) := opI fun _ _ _ _ _ _ _ hc q => floordiv_int hc.1 q (.inl (PyProof.noPylong_of_log2 hc.2))
/-- the fields of a Share -/
def shF (q : Int × Int) : List (Str × V) := putF "bottom" (.int q.2) (putF "top" (.int q.1) [])
theorem tb : ¬ (("top" : Str) = "bottom") := by decide +kernel
theorem shF_top (q : Int × Int) : (shF q).lookup ("top" : Str) = some (.int q.1) := by
  unfold shF
  rw [lookup_putF, if_neg tb, lookup_putF, if_pos rfl]
theorem shF_bot (q : Int × Int) : (shF q).lookup ("bottom" : Str) = some (.int q.2) := by
  unfold shF
  rw [lookup_putF, if_pos rfl]
theorem shF_no (q : Int × Int) {m : Str} (h1 : ¬ m = "bottom") (h2 : ¬ m = "top") : (shF q).lookup m = none := by
  unfold shF
  rw [lookup_putF, if_neg h1, lookup_putF, if_neg h2]
  all_goals rfl
/-- a Share stands at p -/
def Sh (C : Addr) (H : Hp) (p : Addr) (q : Int × Int) : Prop := ∃ dx, H p = some (.ins C dx (shF q))
/-- small enough, the bottom above nought -/
def Bd (n : Nat) (q : Int × Int) : Prop := q.1.natAbs < 2 ^ n ∧ 0 < q.2 ∧ q.2.natAbs < 2 ^ n
theorem Sh.keep {C : Addr} {H H' : Hp} {p : Addr} {q : Int × Int} (s : Same H H') (h : Sh C H p q) : Sh C H' p q := let ⟨dx, e⟩ := h; ⟨dx, s _ _ e⟩
theorem log_lt {j : Int} {n : Nat} (h : j.natAbs < 2 ^ n) (h0 : 0 < n) (h9 : n ≤ 9000) : j.natAbs.log2 < 9000 := Nat.lt_of_lt_of_le (PySem.Flt.log2_lt_of h0 h) h9
/-- what is known of the class -/
structure Cl (K : PySem.W.Frag) (mg : Str → Option Value) (C : Addr) : Prop where
  cl : Cls K C
  nt : NoAttr K C "top"
  nb : NoAttr K C "bottom"
  g : mg "Share" = some (.ref C)
section
variable {P : Program} {w : World} {K : PySem.W.Frag} {mg : Str → Option Value} {base : Heap} {f C : Addr} {fd : FuncData}

def spWhole : Sp := fun vs H Q _ => ∃ n : Int, vs = [.int n] ∧ Q (.bl true) H
theorem ok_whole (F : Dn K d_is_whole f fd) (b : Bl mg) : FnOk P w K mg base CX0 1 f fd ["thing"] spWhole := by
  refine F.ok sc_is_whole (fun vs H Q E h => ?_) (fun cdv A outer s H vs Q E hr h => ?_)
  · obtain ⟨n, rfl, _⟩ := h
    rfl
  · obtain ⟨n, rfl, hQ⟩ := h
    refine ⟨_, PSs.nox (pss_one (ps_ret (pe_and
      (pe_callB call_isi rfl b.isi boot_isinstance (pa_cons (pv 0) (pa_cons (pe_bltn (v := .ty "int") rfl b.int boot_int rfl) pa_nil)))
      (pe_one (pe_not (pe_callB call_isi rfl b.isi boot_isinstance (pa_cons (pv 0) (pa_cons (pe_bltn (v := .ty "bool") rfl b.bool boot_bool rfl) pa_nil)))))))), ?_⟩
    refine ⟨_, rfl, _, _, _, _, true, rfl, ClsV.ty _, TyX.base (TyOf.int n), kit_ty (by decide +kernel), true, rfl, ?_⟩
    refine iteT ?_
    exact ⟨_, rfl, _, _, _, _, false, rfl, ClsV.ty _, TyX.base (TyOf.int n), kit_ty (by decide +kernel), false, rfl, hQ⟩
def spGcd : Sp := fun vs H Q _ => ∃ x y : Int, vs = [.int x, .int y] ∧ Q (.int (Int.gcd x y : Int)) H
theorem abs_eq (x : Int) : (if x < 0 then -x else x) = (x.natAbs : Int) := by split <;> omega
theorem ok_gcd (F : Dn K d_common_part f fd) (b : Bl mg) : FnOk P w K mg base CX0 1 f fd ["one", "other"] spGcd := by
  refine F.ok sc_common_part (fun vs H Q E h => ?_) (fun cdv A outer s H vs Q E hr h => ?_)
  · obtain ⟨x, y, rfl, _⟩ := h
    rfl
  · obtain ⟨x, y, rfl, hQ⟩ := h
    refine ⟨_, PSs.nox (pss_cons (ps_set (i := 0) sc_common_part.nd rfl (.inl rfl) (pe_callB call_abs rfl b.abs boot_abs (pa_cons (pv 0) pa_nil)))
      (pss_cons (ps_set (i := 1) sc_common_part.nd rfl (.inl rfl) (pe_callB call_abs rfl b.abs boot_abs (pa_cons (pv 1) pa_nil)))
      (pss_cons (ps_while PassesOwn.never (pt_cmpR op_ne (pv 1) pe_int (nomark _)) (pss_one (ps_par (i := 0) (j := 1) rfl sc_common_part.nd rfl rfl (by decide) rfl rfl (pa_cons (pv 1) (pa_cons (pe_op op_mod (pv 0) (pv 1)) pa_nil)) rfl)))
      (pss_one (ps_ret (pv 0)))))), ?_⟩
    refine ⟨_, rfl, _, rfl, _, rfl, _, rfl, while_by (fun σ H2 => H2 = H ∧ ∃ a c : Int, σ = [some (.int a), some (.int c)] ∧ 0 ≤ a ∧ 0 ≤ c ∧ Int.gcd a c = Int.gcd x y)
      (fun σ _ => match σ with | [_, some (.int c)] => c.toNat | _ => 0) ⟨rfl, _, _, rfl, ?_, ?_, ?_⟩ ?_ ?_⟩
    · split <;> omega
    · split <;> omega
    · rw [abs_eq, abs_eq]
      rfl
    · rintro σ H2 ⟨rfl, a, c, rfl, ha, hc, hg⟩
      refine ⟨_, rfl, rfl, _, rfl, ?_⟩
      by_cases h0 : c = 0
      · subst h0
        refine iteNS rfl ?_
        refine ⟨_, rfl, ?_⟩
        have e : Int.gcd x y = a.natAbs := by rw [← hg]; simp
        have e2 : (Int.gcd x y : Int) = a := by omega
        rw [e2] at hQ
        exact hQ
      · have hne : (!decide (V.int c = V.int 0)) = true := by simp [h0]
        rw [hne]
        refine iteT ?_
        have hp : 0 < c := by omega
        refine ⟨_, rfl, _, rfl, _, rfl, _, _, rfl, rfl, hp, _, _, rfl, ⟨rfl, _, _, rfl, hc, Int.emod_nonneg _ h0, ?_⟩, ?_⟩
        · rw [KM.gcd_turn ha hp, hg]
        · show (a % c).toNat < c.toNat
          have h1 := Int.emod_nonneg a h0
          have h2 := Int.emod_lt_of_pos a hp
          omega
    · rintro σ H2 Q1 Q2 hm ⟨v, hv, h1, k, hk, q⟩
      exact ⟨v, hv, h1, k, hk, hm _ _ q⟩
end
end K32
set_option Elab.async false
set_option linter.all false
set_option maxRecDepth 100000
set_option maxHeartbeats 4000000
namespace K32
open PySem PySem.Spec PyProof.Rows L2
open C8 (Cal Mak Met pe_c pe_mk pe_mt pe_mt0)
section
variable {P : Program} {w : World} {K : PySem.W.Frag} {mg : Str → Option Value} {base : Heap} {f C : Addr} {fd : FuncData}
abbrev CalW (P : Program) (w : World) (K : PySem.W.Frag) (mg : Str → Option Value) (base : Heap) : Prop := Cal P w K mg base 1 "is_whole" spWhole []
abbrev CalG (P : Program) (w : World) (K : PySem.W.Frag) (mg : Str → Option Value) (base : Heap) : Prop := Cal P w K mg base 1 "common_part" spGcd []
/-- __init__: a Share in lowest terms -/
def spInit (C : Addr) : Sp := fun vs H Q _ => ∃ (p dx : Addr) (t b : Int) (n : Nat), vs = [.ref p, .int t, .int b] ∧ b ≠ 0 ∧ b.natAbs < 2 ^ n ∧ 0 < n ∧ n ≤ 9000 ∧ H p = some (.ins C dx []) ∧
  ∀ H', (∀ a o, a ≠ p → H a = some o → H' a = some o) → H' p = some (.ins C dx (shF (KM.low t b))) → Q .non H'
theorem ok_init (F : Dn K d_Share_init f fd) (cW : CalW P w K mg base) (cG : CalG P w K mg base) (T : Cl K mg C) : FnOk P w K mg base CX0 2 f fd ["self", "top", "bottom"] (spInit C) := by
  refine F.ok sc_Share_init (fun vs H Q E h => ?_) (fun cdv A outer s H vs Q E hr h => ?_)
  · obtain ⟨p, dx, t, b, n, rfl, _⟩ := h
    rfl
  · obtain ⟨p, dx, t, b, n, rfl, hb, hn, hn0, hn9, hp, hQ⟩ := h
    refine ⟨_, PSs.nox (pss_cons (ps_for PassesOwn.never rfl (pi_tup (pe_tup (pa_cons (pv 1) (pa_cons (pv 2) pa_nil)))) (pg_name (i := 3) sc_Share_init.nd rfl (.inl rfl))
        (pss_one (ps_if (pt_not (pt_val (pe_c cW hr (by decide) rfl (pa_cons (pv 3) pa_nil)))) pss_never pss_nil)))
      (pss_cons (ps_if (pt_cmpR op_eq (pv 2) pe_int (nomark _)) pss_never pss_nil)
      (pss_cons (ps_set (i := 4) sc_Share_init.nd rfl (.inl rfl) (pe_c cG hr (by decide) rfl (pa_cons (pv 1) (pa_cons (pv 2) pa_nil))))
      (pss_cons (ps_if (pt_cmpR op_lt (pv 2) pe_int (nomark _)) (pss_one (ps_set (i := 4) sc_Share_init.nd rfl (.inl rfl) (pe_un un_neg (pv 4)))) pss_nil)
      (pss_cons (ps_fld (pv 0) (pe_op op_fdW (pv 1) (pv 4)) rfl)
      (pss_one (ps_fld (pv 0) (pe_op op_fdW (pv 2) (pv 4)) rfl))))))), ?_⟩
    refine ⟨_, rfl, _, rfl, by show 2 ≤ sizeLine; decide, fun u hu => ?_⟩
    have npu : p ≠ u := ne_of_none hp hu
    refine ⟨u, rfl, ⟨_, SqT.of upd_same⟩, for_tup (K := K) (xs := [.int t, .int b]) (fun i σ H2 => H2 = upd H u (.tup [.int t, .int b]) ∧ ∃ v, σ = [some (.ref p), some (.int t), some (.int b), v, none])
      ⟨rfl, none, rfl⟩ (fun i σ H2 _ h => by rw [h.1]; exact SqT.of upd_same) ?_ ?_⟩
    · rintro i y σ H2 hi ⟨rfl, v, rfl⟩
      have hy : ∃ n : Int, y = .int n := by
        match i, hi with
        | 0, e => exact ⟨t, (Option.some.inj e).symm⟩
        | 1, e => exact ⟨b, (Option.some.inj e).symm⟩
      obtain ⟨n, rfl⟩ := hy
      refine ⟨_, rfl, n, rfl, true, rfl, ?_⟩
      refine iteF ?_
      exact ⟨rfl, _, rfl⟩
    · rintro σ H2 ⟨rfl, v, rfl⟩
      refine ⟨_, rfl, rfl, _, rfl, ?_⟩
      have hb0 : decide (V.int b = V.int 0) = false := by simp [hb]
      rw [hb0]
      refine iteF ?_
      refine ⟨_, rfl, _, rfl, t, b, rfl, ?_⟩
      refine ⟨_, rfl, _, _, rfl, rfl, _, rfl, ?_⟩
      have hs9 : (KM.sg t b).natAbs.log2 < 9000 := log_lt (Nat.lt_of_le_of_lt (KM.sg_le hb) hn) hn0 hn9
      have fin : ∀ c : Int, c = KM.sg t b → ∀ v, tSeq (sFld K (tVar 0) (tOp (rI (fun _ j => j ≠ 0 ∧ j.natAbs.log2 < 9000) fun i j => .int (i.fdiv j)) (tVar 1) (tVar 4)) "top") (sFld K (tVar 0) (tOp (rI (fun _ j => j ≠ 0 ∧ j.natAbs.log2 < 9000) fun i j => .int (i.fdiv j)) (tVar 2) (tVar 4)) "bottom")
          { nx := fun _ H' => Q .non H', rt := Q } [some (.ref p), some (.int t), some (.int b), v, some (.int c)] (upd H u (.tup [.int t, .int b])) := by
        rintro c rfl v
        refine ⟨_, rfl, _, rfl, _, _, rfl, rfl, ⟨KM.sg_ne hb, hs9⟩, _, rfl, p, C, dx, _, rfl, (by rw [upd_ne npu]; exact hp), T.cl, T.nt, (by show 0 < 1000; decide), ?_⟩
        refine ⟨_, rfl, _, rfl, _, _, rfl, rfl, ⟨KM.sg_ne hb, hs9⟩, _, rfl, p, C, dx, _, rfl, upd_same, T.cl, T.nb, (by show 1 < 1000; decide), ?_⟩
        refine hQ _ (fun a o ha e => ?_) upd_same
        rw [upd_ne ha, upd_ne ha, upd_ne (ne_of_none e hu)]
        exact e
      refine ite2 (fun h => ?_) (fun h => ?_)
      · have h' : b < 0 := of_decide_eq_true h
        refine ⟨_, rfl, _, rfl, ?_⟩
        exact fin _ (by unfold KM.sg; rw [if_pos h']) _
      · have h' : ¬ b < 0 := fun z => h (decide_eq_true z)
        exact fin _ (by unfold KM.sg; rw [if_neg h']) _
end
end K32
set_option Elab.async false
set_option linter.all false
set_option maxRecDepth 100000
set_option maxHeartbeats 4000000
namespace K32
open PySem PySem.Spec PyProof.Rows L2
open C8 (Cal Mak Met pe_c pe_mk pe_mt pe_mt0)
section
variable {P : Program} {w : World} {K : PySem.W.Frag} {mg : Str → Option Value} {base : Heap} {f C : Addr} {fd : FuncData}
abbrev MakS (P : Program) (w : World) (K : PySem.W.Frag) (mg : Str → Option Value) (base : Heap) (C : Addr) : Prop := Mak P w K mg base 2 "Share" C (spInit C) []
/-- Share(t, b): what is left to show -/
theorem mk_at {H1 : Hp} {t b : Int} {n : Nat} {Q : VK} (hb : b ≠ 0) (hn : b.natAbs < 2 ^ n) (hn0 : 0 < n) (hn9 : n ≤ 9000)
    (hQ : ∀ r H', Same H1 H' → H1 r = none → Sh C H' r (KM.low t b) → Q (.ref r) H') :
    ∀ x dx, H1 x = none → H1 dx = none → dx ≠ x → spInit C (.ref x :: ([V.int t, V.int b] ++ [])) (upd (upd H1 dx (.own x)) x (.ins C dx [])) (fun v H2 => v = .non ∧ Q (.ref x) H2) E0 := by
  intro x dx nx nd ne
  refine ⟨x, dx, t, b, n, rfl, hb, hn, hn0, hn9, upd_same, fun H' kp hp => ⟨rfl, hQ x H' (fun a o e => ?_) nx ⟨dx, hp⟩⟩⟩
  refine kp a o (ne_of_none e nx) ?_
  rw [upd_ne (ne_of_none e nx), upd_ne (ne_of_none e nd)]
  exact e
theorem mul_pos_ne {a b : Int} (ha : 0 < a) (hb : 0 < b) : a * b ≠ 0 := fun z => by
  have := Int.mul_pos ha hb
  omega
def two (n : Nat) (a b : Int × Int) : Prop := Bd n a ∧ Bd n b ∧ 0 < n ∧ n ≤ 4000
end
end K32
set_option Elab.async false
set_option linter.all false
set_option maxRecDepth 100000
set_option maxHeartbeats 4000000
namespace K32
open PySem PySem.Spec PyProof.Rows L2
open C8 (Cal Mak Met pe_c pe_mk pe_mt pe_mt0)
/-- the held dict's pairs -/
def hd0 (l : Addr) (n m : Int) : List (Key × V) := [(Sum.inr "cells", .ref l), (Sum.inr "at", .int n), (Sum.inr "left", .int m)]
theorem hd_cells (l : Addr) (n m : Int) : valV (hd0 l n m) (Sum.inr "cells") = some (.ref l) := valV_pos rfl
theorem k1 : ¬ (("cells" : Str) = "at") := by decide +kernel
theorem k2 : ¬ (("cells" : Str) = "left") := by decide +kernel
theorem k3 : ¬ (("at" : Str) = "left") := by decide +kernel
theorem k1' : ¬ (("at" : Str) = "cells") := by decide +kernel
theorem k3' : ¬ (("left" : Str) = "at") := by decide +kernel
theorem inr_ne {x y : Str} (h : ¬ x = y) : ¬ ((Sum.inr x : Key) = Sum.inr y) := fun z => h (Sum.inr.inj z)
theorem hd_at (l : Addr) (n m : Int) : valV (hd0 l n m) (Sum.inr "at") = some (.int n) := (valV_neg (inr_ne k1)).trans (valV_pos rfl)
theorem hd_left (l : Addr) (n m : Int) : valV (hd0 l n m) (Sum.inr "left") = some (.int m) := (valV_neg (inr_ne k2)).trans ((valV_neg (inr_ne k3)).trans (valV_pos rfl))
theorem put_at (l : Addr) (n m k : Int) : putK (hd0 l n m) (Sum.inr "at") (.int k) = hd0 l k m := by
  unfold putK hd0
  simp [k1, k3']
theorem put_left (l : Addr) (n m k : Int) : putK (hd0 l n m) (Sum.inr "left") (.int k) = hd0 l n k := by
  unfold putK hd0
  simp [k2, k3]
theorem hd_merge (l : Addr) (n m : Int) : mergeK [] (hd0 l n m) = hd0 l n m := by
  simp [mergeK, hd0, putK, k1, k2, k3]
/-- the held dict at h, good for c draws more -/
def Held (H : Hp) (h : Addr) (c : Nat) : Prop := ∃ (l : Addr) (ns : List Int) (n m : Int), H h = some (.dK (hd0 l n m)) ∧ H l = some (.lst (ns.map V.int)) ∧ 0 ≤ n ∧ n + c ≤ 1000000000
theorem Held.weak {H : Hp} {h : Addr} {c c' : Nat} (hc : c' ≤ c) (x : Held H h c) : Held H h c' := by
  obtain ⟨l, ns, n, m, h1, h2, h3, h4⟩ := x
  exact ⟨l, ns, n, m, h1, h2, h3, by omega⟩
/-- all but h is kept -/
def Kp (h : Addr) (H H' : Hp) : Prop := (∀ b o, H b = some o → b ≠ h → H' b = some o) ∧ ∀ l n m, H h = some (.dK (hd0 l n m)) → ∃ n' m', H' h = some (.dK (hd0 l n' m'))
theorem Kp.refl (h : Addr) (H : Hp) : Kp h H H := ⟨fun _ _ e _ => e, fun _ n m e => ⟨n, m, e⟩⟩
theorem Kp.trans {h : Addr} {H H1 H2 : Hp} (a : Kp h H H1) (b : Kp h H1 H2) : Kp h H H2 := ⟨fun c o e n => b.1 c o (a.1 c o e n) n, fun l n m e => let ⟨n', m', e'⟩ := a.2 l n m e; b.2 l n' m' e'⟩
theorem Kp.same {h : Addr} {H H1 : Hp} (a : Same H H1) : Kp h H H1 := ⟨fun c o e _ => a c o e, fun _ n m e => ⟨n, m, a _ _ e⟩⟩
theorem hd_inj {l l' : Addr} {n m n' m' : Int} (h : HO.dK (hd0 l n m) = HO.dK (hd0 l' n' m')) : l = l' := by
  injection h with h
  injection h with h _
  injection h with _ h
  injection h
/-- the held dict put anew -/
theorem Kp.put {h l : Addr} {H : Hp} {n m : Int} (n' m' : Int) (e : H h = some (.dK (hd0 l n m))) : Kp h H (upd H h (.dK (hd0 l n' m'))) := by
  refine ⟨fun c o z ne => by rw [upd_ne ne]; exact z, fun l' n1 m1 z => ⟨n', m', ?_⟩⟩
  rw [upd_same, hd_inj (Option.some.inj (z.symm.trans e))]
theorem Held.same {H H' : Hp} {h : Addr} {c : Nat} (s : Same H H') (x : Held H h c) : Held H' h c := by
  obtain ⟨l, ns, n, m, h1, h2, h3, h4⟩ := x
  exact ⟨l, ns, n, m, s _ _ h1, s _ _ h2, h3, h4⟩
theorem same_new {H : Hp} {p : Addr} {o : HO} (h : H p = none) : Same H (upd H p o) := fun a u e => by
  rw [upd_ne (ne_of_none e h)]
  exact e
theorem dpInts {K : PySem.W.Frag} {H : Hp} : ∀ ns : List Int, DpAll K H (ns.map V.int) (ns.map PyData.int)
  | [] => .nil
  | n :: ns => .cons (.int n) (dpInts ns)
section
variable {P : Program} {w : World} {K : PySem.W.Frag} {mg : Str → Option Value} {base : Heap} {f C : Addr} {fd : FuncData}
def spHeld (K : PySem.W.Frag) : Sp := fun vs H Q _ => ∃ (a : Addr) (ns : List Int), vs = [.ref a] ∧ SqL K H a (ns.map V.int) ∧ ns.length ≤ 63 ∧ ∀ h H', Same H H' → H h = none → Held H' h 900000000 → Q (.ref h) H'
theorem ok_held (F : Dn K d_l_held f fd) (b : Bl mg) : FnOk P w K mg base CX0 1 f fd ["_law_script"] (spHeld K) := by
  refine F.ok sc_l_held (fun vs H Q E h => ?_) (fun cdv A outer s H vs Q E hr h => ?_)
  · obtain ⟨a, ns, rfl, _⟩ := h
    rfl
  · obtain ⟨a, ns, rfl, hS, hlen, hQ⟩ := h
    refine ⟨_, PSs.nox (pss_one (ps_ret (pe_disp (pps_cons pe_str (pe_callTy call_list_of rfl b.list boot_list (pa_cons (pe_slice sl_list (pv 0) po_none (po_some pe_int)) pa_nil)) (pps_cons pe_str pe_int (pps_cons pe_str pe_int pps_nil))) rfl rfl (by simp) (by decide)))), ?_⟩
    intro h hh
    have sS : SqL K (upd H h (.dK [])) a (ns.map V.int) := (same_new hh).seq hS
    refine ⟨_, rfl, 63, rfl, a, _, rfl, sS, fun p hp => ⟨p, _, rfl, Or.inl (SqL.of upd_same), fun l hl => ?_⟩⟩
    have nhp : h ≠ p := ne_of_none upd_same hp
    have nhl : h ≠ l := ne_of_none (by rw [upd_ne nhp]; exact upd_same) hl
    refine ⟨by rw [upd_ne nhl, upd_ne nhp, upd_same], hd0 l 0 0, rfl, by show 3 ≤ 15; decide, ?_⟩
    have e : cutV (ns.map V.int) none (some 63) = (ns.take 63).map V.int := by
      unfold cutV
      simp [HT.sIx, List.map_take]
    refine hQ h _ (fun c o z => ?_) hh ⟨l, ns.take 63, 0, 0, ?_, ?_, by decide, by decide⟩
    · have z1 : c ≠ h := ne_of_none z hh
      have z2 : (upd H h (.dK [])) c = some o := by rw [upd_ne z1]; exact z
      have z3 : c ≠ p := ne_of_none z2 hp
      have z4 : c ≠ l := ne_of_none (by rw [upd_ne z3]; exact z2) hl
      rw [upd_ne z1, upd_ne z4, upd_ne z3]
      exact z2
    · rw [upd_same, hd_merge]
    · rw [upd_ne nhl.symm, upd_same, ← e]

def spDraw : Sp := fun vs H Q _ => ∃ (h : Addr) (c : Nat) (k : Int), vs = [.ref h, .int k] ∧ Held H h (c + 1) ∧ 0 < k ∧ k < 1073741824 ∧
  ∀ r H', 0 ≤ r → r < k → Held H' h c → Kp h H H' → Q (.int r) H'
theorem cb_l {i j : Int} (h1 : -(2 ^ 64) < i) (h2 : i < 2 ^ 64) : CMul i j := .inl ⟨h1, h2⟩
theorem cb_r {i j : Int} (h1 : -(2 ^ 64) < j) (h2 : j < 2 ^ 64) : CMul i j := .inr ⟨h1, h2⟩
theorem ok_draw (F : Dn K d_l_draw f fd) (b : Bl mg) : FnOk P w K mg base CX0 1 f fd ["_law_held_here", "_law_many"] spDraw := by
  refine F.ok sc_l_draw (fun vs H Q E h => ?_) (fun cdv A outer s H vs Q E hr h => ?_)
  · obtain ⟨h, c, k, rfl, _⟩ := h
    rfl
  · obtain ⟨h, c, k, rfl, ⟨l, ns, n, m, hh, hl, hn, hc⟩, hk0, hk1, hQ⟩ := h
    have hu := hu_of hr
    have hu64 : (A.deeper (envOfC d_l_draw.qual d_l_draw.scope s.heap.objs.size f cdv)).units + 64 < cLine := by have := hr.un; omega
    have nlh : l ≠ h := ne_of hl hh (by intro z; cases z)
    refine ⟨_, PSs.nox (pss_cons (ps_if (pt_cmpR op_gt (pe_dget hu (pv 0) pe_str (fun _ _ => rfl)) pe_int (nomark _))
         (pss_cons (ps_set (i := 2) sc_l_draw.nd rfl (.inl rfl) (pe_op op_mod (pe_dget hu (pv 0) pe_str (fun _ _ => rfl)) (pv 1)))
         (pss_cons (ps_dput hu (pv 0) pe_str (pe_op op_fdiv (pe_dget hu (pv 0) pe_str (fun _ _ => rfl)) (pv 1)) rfl)
         (pss_one (ps_ret (pv 2))))) pss_nil)
      (pss_cons (ps_set (i := 3) sc_l_draw.nd rfl (.inl rfl) (pe_dget hu (pv 0) pe_str (fun _ _ => rfl)))
      (pss_cons (ps_dput hu (pv 0) pe_str (pe_op op_add (pv 3) pe_int) rfl)
      (C8.pss_cut (ps_set (i := 4) sc_l_draw.nd rfl (.inl rfl) (pe_ifExp (pt_cmpR (op_neD hu64) (pe_dget hu (pv 0) pe_str (fun _ _ => rfl)) (pe_lst pa_nil) (nomark _))
        (pe_ix ix_list (pe_dget hu (pv 0) pe_str (fun _ _ => rfl)) (pe_op op_mod (pv 3) (pe_callB call_len_seq rfl b.len boot_len (pa_cons (pe_dget hu (pv 0) pe_str (fun _ _ => rfl)) pa_nil))) (fun _ _ => rfl)) pe_int))
      (pss_cons (ps_if (PW.pt (pw_and (pt_cmpR op_ge (pv 4) (pe_op op_pow pe_int pe_int) (nomark _)) (pw_and1 (pt_cmpR op_lt (pv 3) (pe_callB call_len_seq rfl b.len boot_len (pa_cons (pe_dget hu (pv 0) pe_str (fun _ _ => rfl)) pa_nil)) (nomark _)))))
         (pss_cons (ps_dput hu (pv 0) pe_str (pe_op op_fdiv (pe_op op_sub (pv 4) (pe_op op_pow pe_int pe_int)) (pv 1)) rfl)
         (pss_one (ps_ret (pe_op op_mod (pe_op op_sub (pv 4) (pe_op op_pow pe_int pe_int)) (pv 1))))) pss_nil)
      (pss_cons (ps_set (i := 5) sc_l_draw.nd rfl (.inl rfl) (pe_op op_mod (pe_op op_add (pe_op op_add (pe_op op_add (pe_op op_mul (pe_op op_mod (pv 4) pe_int) pe_int) (pe_op op_mul (pe_op op_mul pe_int (pv 3)) (pv 3))) (pe_op op_mul pe_int (pv 3))) pe_int) pe_int))
      (pss_cons (ps_set (i := 5) sc_l_draw.nd rfl (.inl rfl) (pe_op op_mod (pe_op op_add (pe_op op_add (pe_op op_mul (pv 5) pe_int) (pe_op op_fdiv (pv 5) pe_int)) pe_int) pe_int))
      (pss_one (ps_ret (pe_op op_mod (pe_op op_fdiv (pv 5) pe_int) (pv 1))))))))))), ?_⟩
    have cM : ∀ x y : Int, 0 < y → (0 ≤ x % y ∧ x % y < y) := fun x y hy => ⟨Int.emod_nonneg _ (by omega), Int.emod_lt_of_pos _ hy⟩
    refine ⟨_, rfl, h, _, rfl, hd_left l n m ▸ DGet.k (k := Sum.inr "left") hh, _, _, rfl, rfl, _, rfl, ?_⟩
    refine ite2 (fun h1 => ?_) (fun h1 => ?_)
    · refine ⟨_, rfl, h, _, rfl, hd_left l n m ▸ DGet.k (k := Sum.inr "left") hh, _, rfl, _, _, rfl, rfl, hk0, ?_⟩
      refine ⟨_, rfl, h, _, rfl, hd_left l n m ▸ DGet.k (k := Sum.inr "left") hh, _, rfl, _, _, rfl, rfl, ⟨hk0, hk1⟩, _, rfl, h, _, rfl, DPut.k (k := Sum.inr "left") hh (by show 3 < sizeLine; decide), ?_⟩
      refine ⟨_, rfl, hQ _ _ (cM _ _ hk0).1 (cM _ _ hk0).2 ⟨l, ns, n, m / k, ?_, ?_, hn, by omega⟩ ?_⟩
      · rw [upd_same, put_left]
      · rw [upd_ne nlh]; exact hl
      · rw [put_left]; exact Kp.put _ _ hh
    · refine ⟨_, rfl, h, _, rfl, hd_at l n m ▸ DGet.k (k := Sum.inr "at") hh, ?_⟩
      refine ⟨_, rfl, _, _, rfl, rfl, _, rfl, h, _, rfl, DPut.k (k := Sum.inr "at") hh (by show 3 < sizeLine; decide), ?_⟩
      rw [put_at]
      have hh1 : (upd H h (.dK (hd0 l (n + 1) m))) h = some (.dK (hd0 l (n + 1) m)) := upd_same
      have hl1 : (upd H h (.dK (hd0 l (n + 1) m))) l = some (.lst (ns.map V.int)) := by rw [upd_ne nlh]; exact hl
      have kp1 : Kp h H (upd H h (.dK (hd0 l (n + 1) m))) := Kp.put _ _ hh
      refine ⟨fun σ' H' => ∃ (cell : Int), σ' = [some (.ref h), some (.int k), none, some (.int n), some (.int cell), none] ∧ H' h = some (.dK (hd0 l (n + 1) m)) ∧ H' l = some (.lst (ns.map V.int)) ∧ Kp h H H', ?_, ?_⟩
      · refine ⟨_, rfl, h, _, rfl, hd_cells l (n + 1) m ▸ DGet.k (k := Sum.inr "cells") hh1, (by show 0 ≤ sizeLine; decide), fun e he => ?_⟩
        have nhe : h ≠ e := ne_of_none hh1 he
        have nle : l ≠ e := ne_of_none hl1 he
        have hh2 : (upd (upd H h (.dK (hd0 l (n + 1) m))) e (.lst [])) h = some (.dK (hd0 l (n + 1) m)) := by rw [upd_ne nhe]; exact hh1
        have hl2 : (upd (upd H h (.dK (hd0 l (n + 1) m))) e (.lst [])) l = some (.lst (ns.map V.int)) := by rw [upd_ne nle]; exact hl1
        have kp2 : Kp h H (upd (upd H h (.dK (hd0 l (n + 1) m))) e (.lst [])) := kp1.trans (Kp.same (same_new he))
        refine ⟨.list (ns.map .int), .list [], Dp.lst (SqL.of hl2) (dpInts ns), Dp.lst (SqL.of upd_same) .nil, PySem.W.ke_shaped_ints ns, by decide, _, rfl, ?_⟩
        cases ns with
        | nil => exact iteF ⟨0, rfl, hh2, hl2, kp2⟩
        | cons z zs =>
          refine iteT ?_
          have hlen : (0 : Int) < (((z :: zs).map V.int).length : Int) := by simp
          refine ⟨_, rfl, h, _, rfl, hd_cells l (n + 1) m ▸ DGet.k (k := Sum.inr "cells") hh2, _, rfl, _, rfl, h, _, rfl, hd_cells l (n + 1) m ▸ DGet.k (k := Sum.inr "cells") hh2, l, _, rfl, Or.inl (SqL.of hl2), _, _, rfl, rfl, hlen, ?_⟩
          obtain ⟨q, hq⟩ := Int.eq_ofNat_of_zero_le (cM n _ hlen).1
          have hq2 := (cM n _ hlen).2
          rw [hq] at hq2
          have hq3 : q < (z :: zs).length := by rw [List.length_map] at hq2; omega
          refine ⟨l, _, _, .int ((z :: zs)[q]), rfl, rfl, SqL.of hl2, (by rw [hq]; exact atI_nat (by rw [List.getElem?_map, List.getElem?_eq_getElem hq3]; rfl)), ?_⟩
          exact ⟨_, rfl, hh2, hl2, kp2⟩
      · rintro σ' H' ⟨cell, rfl, hh2, hl2, kp2⟩
        have stay : ∀ m', Held (upd H' h (.dK (hd0 l (n + 1) m'))) h c := fun m' => ⟨l, ns, n + 1, m', upd_same, by rw [upd_ne nlh]; exact hl2, by omega, by omega⟩
        have stay0 : Held H' h c := ⟨l, ns, n + 1, m, hh2, hl2, by omega, by omega⟩
        have last : ∀ D : Ends, D.rt = Q → tSeq (tAsg (tOp (rI (fun _ j => 0 < j) fun i j => .int (i % j)) (tOp (rI0 fun i j => .int (i + j)) (tOp (rI0 fun i j => .int (i + j)) (tOp (rI0 fun i j => .int (i + j))
            (tOp (rI CMul fun i j => .int (i * j)) (tOp (rI (fun _ j => 0 < j) fun i j => .int (i % j)) (tVar 4) (tC (.int 2147483587))) (tC (.int 40692))) (tOp (rI CMul fun i j => .int (i * j)) (tOp (rI CMul fun i j => .int (i * j)) (tC (.int 7907)) (tVar 3)) (tVar 3)))
            (tOp (rI CMul fun i j => .int (i * j)) (tC (.int 104729)) (tVar 3))) (tC (.int 17))) (tC (.int 2147483629))) (gName 5))
          (tSeq (tAsg (tOp (rI (fun _ j => 0 < j) fun i j => .int (i % j)) (tOp (rI0 fun i j => .int (i + j)) (tOp (rI0 fun i j => .int (i + j)) (tOp (rI CMul fun i j => .int (i * j)) (tVar 5) (tC (.int 48271))) (tOp (rI CDiv fun i j => .int (i / j)) (tVar 5) (tC (.int 127)))) (tC (.int 31))) (tC (.int 2147483647))) (gName 5))
          (tRet (tOp (rI (fun _ j => 0 < j) fun i j => .int (i % j)) (tOp (rI CDiv fun i j => .int (i / j)) (tVar 5) (tC (.int 89))) (tVar 1)))) D [some (.ref h), some (.int k), none, some (.int n), some (.int cell), none] H' := by
          intro D hD
          refine ⟨_, rfl, _, _, rfl, rfl, (by decide : (0 : Int) < 2147483587), _, _, rfl, rfl, cb_r (by decide) (by decide), _, rfl, _, _, rfl, rfl, cb_l (by decide) (by decide), _, rfl, _, _, rfl, rfl, cb_r (by omega) (by omega), _, _, rfl, rfl, ?_⟩
          refine ⟨_, rfl, _, _, rfl, rfl, cb_l (by decide) (by decide), _, _, rfl, rfl, _, _, rfl, rfl, _, _, rfl, rfl, (by decide : (0 : Int) < 2147483629), ?_⟩
          refine ⟨_, rfl, _, _, rfl, rfl, cb_r (by decide) (by decide), _, rfl, _, _, rfl, rfl, ⟨by decide, by decide⟩, _, _, rfl, rfl, _, _, rfl, rfl, _, _, rfl, rfl, (by decide : (0 : Int) < 2147483647), ?_⟩
          refine ⟨_, rfl, _, _, rfl, rfl, ⟨by decide, by decide⟩, _, rfl, _, _, rfl, rfl, hk0, ?_⟩
          rw [hD]
          exact hQ _ _ (cM _ _ hk0).1 (cM _ _ hk0).2 stay0 kp2
        refine ⟨_, rfl, _, _, rfl, rfl, ⟨by decide, by decide, by decide⟩, _, _, rfl, rfl, _, rfl, ?_⟩
        refine ite2 (fun g1 => ?_) (fun g1 => iteF (last _ rfl))
        refine ⟨_, rfl, _, rfl, h, _, rfl, hd_cells l (n + 1) m ▸ DGet.k (k := Sum.inr "cells") hh2, l, _, rfl, Or.inl (SqL.of hl2), _, _, rfl, rfl, _, rfl, ?_⟩
        refine ite2 (fun g2 => ?_) (fun g2 => last _ rfl)
        refine ⟨_, rfl, _, _, rfl, rfl, ⟨by decide, by decide, by decide⟩, _, _, rfl, rfl, _, rfl, _, _, rfl, rfl, ⟨hk0, hk1⟩, _, rfl, h, _, rfl, DPut.k (k := Sum.inr "left") hh2 (by show 3 < sizeLine; decide), ?_⟩
        refine ⟨_, rfl, _, _, rfl, rfl, ⟨by decide, by decide, by decide⟩, _, _, rfl, rfl, _, rfl, _, _, rfl, rfl, hk0, ?_⟩
        rw [put_left]
        refine hQ _ _ (cM _ _ hk0).1 (cM _ _ hk0).2 (stay _) (kp2.trans (Kp.put _ _ hh2))
end
end K32
set_option linter.all false
namespace KM
/-- top and bottom of a rational number -/
def pr (r : Rat) : Int × Int := (r.num, (r.den : Int))
theorem pr_inj {r s : Rat} (h : pr r = pr s) : r = s := by
  have h1 : r.num = s.num := congrArg Prod.fst h
  have h2 : (r.den : Int) = (s.den : Int) := congrArg Prod.snd h
  rw [← Rat.num_divInt_den r, ← Rat.num_divInt_den s, h1, h2]
theorem den_ne (r : Rat) : (r.den : Int) ≠ 0 := by
  have := r.den_nz
  omega
theorem den_pos (r : Rat) : 0 < (r.den : Int) := by
  have := r.den_nz
  omega
theorem low_eq {t b : Int} (h : b ≠ 0) : low t b = pr (Rat.divInt t b) := by
  have hp := low_pos (t := t) h
  have hc := low_cop (t := t) h
  obtain ⟨d, hd⟩ := Int.eq_ofNat_of_zero_le (Int.le_of_lt hp)
  have hd0 : d ≠ 0 := by
    intro z
    rw [z] at hd
    omega
  have hcop : (low t b).1.natAbs.Coprime d := by
    have : Int.gcd (low t b).1 (low t b).2 = 1 := hc
    rw [hd] at this
    exact this
  have e1 : Rat.divInt (low t b).1 (d : Int) = Rat.divInt t b := by
    rw [Rat.divInt_eq_divInt_iff (by omega) h, ← hd]
    have h1 := low_top (t := t) (b := b)
    have h2 := low_bot (t := t) (b := b)
    calc (low t b).1 * b = (low t b).1 * (sg t b * (low t b).2) := by rw [h2]
      _ = sg t b * (low t b).1 * (low t b).2 := by rw [← Int.mul_assoc, Int.mul_comm (low t b).1]
      _ = t * (low t b).2 := by rw [h1]
  have e2 : ({ num := (low t b).1, den := d, den_nz := hd0, reduced := hcop } : Rat) = Rat.divInt t b := by rw [Rat.mk_eq_divInt, e1]
  rw [← e2]
  exact Prod.ext rfl hd
theorem pr_plus (r s : Rat) : low ((pr r).1 * (pr s).2 + (pr s).1 * (pr r).2) ((pr r).2 * (pr s).2) = pr (r + s) := by
  show low (r.num * s.den + s.num * r.den) (r.den * s.den) = _
  rw [low_eq (Int.mul_ne_zero (den_ne r) (den_ne s)), ← Rat.divInt_add_divInt _ _ (den_ne r) (den_ne s), Rat.num_divInt_den, Rat.num_divInt_den]
theorem pr_less (r s : Rat) : low ((pr r).1 * (pr s).2 - (pr s).1 * (pr r).2) ((pr r).2 * (pr s).2) = pr (r - s) := by
  show low (r.num * s.den - s.num * r.den) (r.den * s.den) = _
  rw [low_eq (Int.mul_ne_zero (den_ne r) (den_ne s)), ← Rat.divInt_sub_divInt _ _ (den_ne r) (den_ne s), Rat.num_divInt_den, Rat.num_divInt_den]
theorem pr_times (r : Rat) (k : Int) : low ((pr r).1 * k) (pr r).2 = pr (r * (Rat.divInt k 1)) := by
  show low (r.num * k) r.den = _
  have e : Rat.divInt (r.num * k) (r.den : Int) = Rat.divInt r.num r.den * Rat.divInt k 1 := by rw [Rat.divInt_mul_divInt, Int.mul_one]
  rw [low_eq (den_ne r), e, Rat.num_divInt_den]
theorem pr_over (r : Rat) {k : Int} (h : k ≠ 0) : low (pr r).1 ((pr r).2 * k) = pr (r * (Rat.divInt 1 k)) := by
  show low r.num (r.den * k) = _
  have e : Rat.divInt r.num (r.den * k : Int) = Rat.divInt r.num r.den * Rat.divInt 1 k := by rw [Rat.divInt_mul_divInt, Int.mul_one]
  rw [low_eq (Int.mul_ne_zero (den_ne r) h), e, Rat.num_divInt_den]
theorem inv_k {k : Int} (h : k ≠ 0) : Rat.divInt k 1 * Rat.divInt 1 k = 1 := by
  rw [Rat.divInt_mul_divInt, Int.mul_one, Int.one_mul]
  exact Rat.divInt_self' h
theorem pr_lt (r s : Rat) : ((pr r).1 * (pr s).2 < (pr s).1 * (pr r).2) ↔ r < s := (Rat.lt_iff r s).symm
theorem pr_bot (r : Rat) : 0 < (pr r).2 := den_pos r
theorem add_back (r s : Rat) : r + s - s = r := by
  rw [Rat.sub_eq_add_neg, Rat.add_assoc, Rat.add_neg_cancel, Rat.add_zero]
theorem sub_back (r s : Rat) : r - s + s = r := by
  rw [Rat.sub_eq_add_neg, Rat.add_assoc, Rat.neg_add_cancel, Rat.add_zero]
theorem mul_back (r : Rat) {k : Int} (h : k ≠ 0) : r * Rat.divInt k 1 * Rat.divInt 1 k = r := by
  rw [Rat.mul_assoc, inv_k h, Rat.mul_one]
theorem div_back (r : Rat) {k : Int} (h : k ≠ 0) : r * Rat.divInt 1 k * Rat.divInt k 1 = r := by
  rw [Rat.mul_assoc, Rat.mul_comm (Rat.divInt 1 k), inv_k h, Rat.mul_one]
/-- small -/
def Sz (n : Nat) (r : Rat) : Prop := r.num.natAbs < 2 ^ n ∧ r.den < 2 ^ n
theorem Sz.mono {n m : Nat} {r : Rat} (h : Sz n r) (hm : n ≤ m) : Sz m r := ⟨Nat.lt_of_lt_of_le h.1 (Nat.pow_le_pow_right (by decide) hm), Nat.lt_of_lt_of_le h.2 (Nat.pow_le_pow_right (by decide) hm)⟩
theorem sz_of_low {t b : Int} {n : Nat} (hb : b ≠ 0) (h1 : t.natAbs < 2 ^ n) (h2 : b.natAbs < 2 ^ n) : Sz n (Rat.divInt t b) := by
  have e := low_eq (t := t) hb
  have e1 : (low t b).1 = (Rat.divInt t b).num := congrArg Prod.fst e
  have e2 : (low t b).2 = ((Rat.divInt t b).den : Int) := congrArg Prod.snd e
  have l1 := low_top_le (t := t) hb
  have l2 := low_bot_le (t := t) hb
  constructor
  · rw [← e1]; omega
  · have : ((low t b).2).natAbs < 2 ^ n := by omega
    rw [e2] at this
    simpa using this
theorem two_lt {x y n m : Nat} (h1 : x < 2 ^ n) (h2 : y < 2 ^ m) : x * y < 2 ^ (n + m) := by
  rw [Nat.pow_add]
  exact Nat.mul_lt_mul'' h1 h2
theorem sz_sum {a b c d : Int} {n m : Nat} (h1 : a.natAbs < 2 ^ n) (h2 : d.natAbs < 2 ^ m) (h3 : c.natAbs < 2 ^ m) (h4 : b.natAbs < 2 ^ n) : (a * d + c * b).natAbs < 2 ^ (n + m + 1) ∧ (a * d - c * b).natAbs < 2 ^ (n + m + 1) := by
  have e1 : (a * d).natAbs < 2 ^ (n + m) := by rw [Int.natAbs_mul]; exact two_lt h1 h2
  have e2 : (c * b).natAbs < 2 ^ (n + m) := by rw [Int.natAbs_mul, Nat.add_comm]; exact two_lt h3 h4
  have e3 : 2 ^ (n + m + 1) = 2 * 2 ^ (n + m) := by rw [Nat.pow_succ, Nat.mul_comm]
  omega
theorem sz_plus {n m : Nat} {r s : Rat} (hr : Sz n r) (hs : Sz m s) : Sz (n + m + 1) (r + s) ∧ Sz (n + m + 1) (r - s) := by
  have d1 : ((r.den : Int)).natAbs < 2 ^ n := by simpa using hr.2
  have d2 : ((s.den : Int)).natAbs < 2 ^ m := by simpa using hs.2
  have hd : ((r.den : Int) * s.den).natAbs < 2 ^ (n + m + 1) := by
    have : ((r.den : Int) * s.den).natAbs < 2 ^ (n + m) := by rw [Int.natAbs_mul]; exact two_lt d1 d2
    exact Nat.lt_of_lt_of_le this (Nat.pow_le_pow_right (by decide) (by omega))
  have hn := sz_sum hr.1 d2 hs.1 d1
  have ne := Int.mul_ne_zero (den_ne r) (den_ne s)
  constructor
  · have := sz_of_low ne hn.1 hd
    rw [← Rat.divInt_add_divInt _ _ (den_ne r) (den_ne s), Rat.num_divInt_den, Rat.num_divInt_den] at this
    exact this
  · have := sz_of_low ne hn.2 hd
    rw [← Rat.divInt_sub_divInt _ _ (den_ne r) (den_ne s), Rat.num_divInt_den, Rat.num_divInt_den] at this
    exact this
theorem sz_times {n m : Nat} {r : Rat} {k : Int} (hr : Sz n r) (hk : k.natAbs < 2 ^ m) : Sz (n + m) (r * Rat.divInt k 1) := by
  have e : r * Rat.divInt k 1 = Rat.divInt (r.num * k) r.den := by
    have : Rat.divInt (r.num * k) (r.den : Int) = Rat.divInt r.num r.den * Rat.divInt k 1 := by rw [Rat.divInt_mul_divInt, Int.mul_one]
    rw [this, Rat.num_divInt_den]
  rw [e]
  refine sz_of_low (den_ne r) (by rw [Int.natAbs_mul]; exact two_lt hr.1 hk) ?_
  have d1 : ((r.den : Int)).natAbs < 2 ^ n := by simpa using hr.2
  exact Nat.lt_of_lt_of_le d1 (Nat.pow_le_pow_right (by decide) (by omega))
theorem sz_over {n m : Nat} {r : Rat} {k : Int} (hr : Sz n r) (h : k ≠ 0) (hk : k.natAbs < 2 ^ m) : Sz (n + m) (r * Rat.divInt 1 k) := by
  have e : r * Rat.divInt 1 k = Rat.divInt r.num (r.den * k) := by
    have : Rat.divInt r.num (r.den * k : Int) = Rat.divInt r.num r.den * Rat.divInt 1 k := by rw [Rat.divInt_mul_divInt, Int.mul_one]
    rw [this, Rat.num_divInt_den]
  rw [e]
  have d1 : ((r.den : Int)).natAbs < 2 ^ n := by simpa using hr.2
  refine sz_of_low (Int.mul_ne_zero (den_ne r) h) (Nat.lt_of_lt_of_le hr.1 (Nat.pow_le_pow_right (by decide) (by omega))) ?_
  rw [Int.natAbs_mul]
  exact two_lt d1 hk
end KM
set_option Elab.async false
set_option linter.all false
set_option maxRecDepth 100000
set_option maxHeartbeats 4000000
/-! KW: calls by keywords alone: f(k = v, ..), o.m(k = v, ..). -/
namespace KW
open PySem PySem.Spec PyProof.Rows L2
section
variable {X : Cx} {k j : Nat} {C f : Addr} {fd : FuncData} {ps ks : List Str} {sp : Sp} {x m : Str} {p pos apos : Pos} {o : Expr} {kws : List Keyword} {ta : TE} {tk : TA} {g : List Value → List Value → List Value} {gV : List V → List V → List V}
theorem pe_cK (F : FnOk X.prog X.w X.K X.mg X.base CX0 k f fd ps sp) (hr : Room k X.A) (hg : Gl X x) (hm : X.mg x = some (.ref f)) (hk : PySem.W.keepIn X.K (.ref f) = true) (hb : KBn X.K fd ps 0 ks g gV) (hkw : PK X kws tk)
    (hall : (backToKw pos (keywordEach kws X.env)).all (·.1.isSome) = true := by rfl) (hks : (backToKw pos (keywordEach kws X.env)).filterMap (·.1) = ks := by rfl) (hdb : (x == ("__debug__" : Str)) = false := by decide)
    (hpl : ((backTo pos (starEach [] X.env)).any (·.1) || (backToKw pos (keywordEach kws X.env)).any (·.1.isNone)) = false := by rfl) :
    PE X (.Call (.Name x p) [] kws pos) (fun σ H Q => tk σ H fun zs H1 => zs.length = ks.length ∧ sp (gV [] zs) H1 Q E0) := by
  refine ⟨fun pins s σ H Q I h => wpAny_Call_Name_kw (ld_glob I hg hm (PySem.W.callWith_KW0 (h₀ := X.base) I.ok.mod.kin hk hall ?_ hpl) hdb)⟩
  refine thn (hkw.run pos pins s σ H _ I h) fun ws s2 ⟨zs, H2, I2, rz, l2, q2⟩ => ⟨I2.kIn, ?_⟩
  rw [hks]
  exact run_fnN (us := []) (vs := []) F hr hb (fun _ _ _ _ _ _ _ h => False.elim h) I2 .nil rz rfl l2 q2
theorem pe_mtK {pl : Sem Bool} (he : PE X o ta) (c : Cls X.K C) (hm : Meth X.K C m f) (F : FnOk X.prog X.w X.K X.mg X.base CX0 k f fd ps sp) (hr : Room k X.A) (hb : KBn X.K fd ps 1 ks g gV) (hkw : PK X kws tk)
    (hall : (backToKw pos (keywordEach kws X.env)).all (·.1.isSome) = true := by rfl) (hks : (backToKw pos (keywordEach kws X.env)).filterMap (·.1) = ks := by rfl)
    (hpl : ((backTo pos (starEach [] X.env)).any (·.1) || (backToKw pos (keywordEach kws X.env)).any (·.1.isNone)) = false := by rfl)
    (ht : eval (.Call (.Attribute o m apos) [] kws pos) X.env = (do
      let ov ← eval o X.env
      standAt apos.atName
      let (f, first) ← holding [ov] (getMethod ov m pl)
      callWith pos f first (backTo pos (starEach [] X.env)) (backToKw pos (keywordEach kws X.env))) := by rfl) :
    PE X (.Call (.Attribute o m apos) [] kws pos) (fun σ H Q => ta σ H fun x H1 => ∃ a dx fs, x = .ref a ∧ H1 a = some (.ins C dx fs) ∧ fs.lookup m = none ∧ tk σ H1 fun zs H2 => zs.length = ks.length ∧ sp (gV [.ref a] zs) H2 Q E0) := by
  refine ⟨fun pins s σ H Q I h => ?_⟩
  refine PySem.W.methodCall_KW (pl := pl) (thn (he.run pins s σ H _ I h) fun u s1 ⟨x, H1, I1, rx, a, dx, fs, ex, ea, l, q⟩ => ?_) ht
  subst ex
  obtain rfl : u = Value.ref a := rx
  refine getmeth_ok I1 ea c hm l (PySem.W.callWith_KW0 (first := [.ref a]) (h₀ := X.base) I.ok.mod.kin hm.kp hall ?_ hpl)
  refine thn (hkw.run pos pins s1 σ H1 _ I1 q) fun ws s2 ⟨zs, H2, I2, rz, l2, q2⟩ => ⟨I2.kIn, ?_⟩
  rw [hks]
  exact run_fnN (us := [.ref a]) (vs := [.ref a]) F hr hb (fun _ _ _ _ _ _ _ h => False.elim h) I2 (.cons rfl .nil) rz rfl l2 q2
end
end KW
set_option Elab.async false
set_option linter.all false
set_option maxRecDepth 100000
set_option maxHeartbeats 4000000
namespace K32
open PySem PySem.Spec PyProof.Rows L2
open C8 (Cal Mak Met pe_c pe_mk pe_mt pe_mt0)
open KM (pr Sz)
/-- what isinstance asks of the class -/
structure IsC (K : PySem.W.Frag) (C : Addr) : Prop where
  ha : PySem.W.findIn K (.ref C) "__class__" = some (some (.builtin "object.__class__"))
  hn : PySem.W.specialIn K (.builtin "object.__class__") "__get__" = some (some (.builtin "getset_descriptor.__get__"))
  htk : PySem.W.takesIn K (.builtin "object.__class__") = some true
  hm : PySem.W.mroIn K C (.type "object") = some true
  kit : PySem.W.kitOne K (.ref C) (.ref C) = some true
theorem bd_of {n : Nat} {r : Rat} (h : Sz n r) : Bd n (pr r) := ⟨h.1, KM.den_pos r, by simpa [pr] using h.2⟩

section
variable {P : Program} {w : World} {K : PySem.W.Frag} {mg : Str → Option Value} {base : Heap} {f C : Addr} {fd : FuncData}
abbrev CalD (P : Program) (w : World) (K : PySem.W.Frag) (mg : Str → Option Value) (base : Heap) : Prop := Cal P w K mg base 1 "_law_draw" spDraw []
def tupP (q : Int × Int) : HO := .tup [.int q.1, .int q.2]
def spLow : Sp := fun vs H Q _ => ∃ (t b : Int) (n : Nat), vs = [.int t, .int b] ∧ b ≠ 0 ∧ b.natAbs < 2 ^ n ∧ 0 < n ∧ n ≤ 9000 ∧ ∀ r, H r = none → Q (.ref r) (upd H r (tupP (KM.low t b)))
theorem ok_low (F : Dn K d_l_low f fd) (b : Bl mg) : FnOk P w K mg base CX0 1 f fd ["_law_top", "_law_bottom"] spLow := by
  refine F.ok sc_l_low (fun vs H Q E h => ?_) (fun cdv A outer s H vs Q E hr h => ?_)
  · obtain ⟨t, b, n, rfl, _⟩ := h
    rfl
  · obtain ⟨x, y, n, rfl, hy, hn, hn0, hn9, hQ⟩ := h
    refine ⟨_, PSs.nox (pss_cons (ps_par (i := 2) (j := 3) rfl sc_l_low.nd rfl rfl (by decide) rfl rfl (pa_cons (pe_callB call_abs rfl b.abs boot_abs (pa_cons (pv 0) pa_nil)) (pa_cons (pe_callB call_abs rfl b.abs boot_abs (pa_cons (pv 1) pa_nil)) pa_nil)) rfl)
      (pss_cons (ps_while PassesOwn.never (pt_cmpR op_gt (pv 3) pe_int (nomark _)) (pss_one (ps_par (i := 2) (j := 3) rfl sc_l_low.nd rfl rfl (by decide) rfl rfl (pa_cons (pv 3) (pa_cons (pe_op op_mod (pv 2) (pv 3)) pa_nil)) rfl)))
      (C8.pss_cut (ps_if (pt_cmpR op_lt (pv 1) pe_int (nomark _)) (pss_one (ps_set (i := 2) sc_l_low.nd rfl (.inl rfl) (pe_op op_sub pe_int (pv 2)))) pss_nil)
      (pss_one (ps_ret (pe_tup (pa_cons (pe_op op_fdW (pv 0) (pv 2)) (pa_cons (pe_op op_fdW (pv 1) (pv 2)) pa_nil)))))))), ?_⟩
    refine ⟨_, rfl, _, rfl, _, rfl, _, rfl, _, _, rfl, while_by (fun σ H2 => H2 = H ∧ ∃ a c : Int, σ = [some (.int x), some (.int y), some (.int a), some (.int c)] ∧ 0 ≤ a ∧ 0 ≤ c ∧ Int.gcd a c = Int.gcd x y)
      (fun σ _ => match σ with | [_, _, _, some (.int c)] => c.toNat | _ => 0) ⟨rfl, _, _, rfl, ?_, ?_, ?_⟩ ?_ ?_⟩
    · split <;> omega
    · split <;> omega
    · rw [abs_eq, abs_eq]
      rfl
    · rintro σ H2 ⟨rfl, a, c, rfl, ha, hc, hg⟩
      refine ⟨_, rfl, _, _, rfl, rfl, _, rfl, ?_⟩
      refine ite2 (fun g => ?_) (fun g => ?_)
      · have hp : 0 < c := of_decide_eq_true g
        refine ⟨_, rfl, _, rfl, _, rfl, _, _, rfl, rfl, hp, _, _, rfl, ⟨rfl, _, _, rfl, hc, Int.emod_nonneg _ (by omega), ?_⟩, ?_⟩
        · rw [KM.gcd_turn ha hp, hg]
        · show (a % c).toNat < c.toNat
          have h1 := Int.emod_nonneg a (show c ≠ 0 by omega)
          have h2 := Int.emod_lt_of_pos a hp
          omega
      · have h0 : c = 0 := by
          have : ¬ 0 < c := fun z => g (decide_eq_true z)
          omega
        subst h0
        have e : Int.gcd x y = a.natAbs := by rw [← hg]; simp
        refine ⟨fun σ' H' => H' = H2 ∧ ∃ v, σ' = [some (.int x), some (.int y), some (.int (KM.sg x y)), v], ?_, ?_⟩
        · refine ⟨_, rfl, _, _, rfl, rfl, _, rfl, ?_⟩
          refine ite2 (fun g1 => ?_) (fun g1 => ?_)
          · refine ⟨_, rfl, _, _, rfl, rfl, rfl, some (.int 0), ?_⟩
            have e2 : KM.sg x y = 0 - a := by unfold KM.sg; rw [if_pos (of_decide_eq_true g1), e]; omega
            rw [e2]
            rfl
          · refine ⟨rfl, some (.int 0), ?_⟩
            have e2 : KM.sg x y = a := by unfold KM.sg; rw [if_neg (fun z => g1 (decide_eq_true z)), e]; omega
            rw [e2]
        · rintro σ' H' ⟨rfl, v, rfl⟩
          have hs9 : (KM.sg x y).natAbs.log2 < 9000 := log_lt (Nat.lt_of_le_of_lt (KM.sg_le hy) hn) hn0 hn9
          refine ⟨_, rfl, _, rfl, _, _, rfl, rfl, ⟨KM.sg_ne hy, hs9⟩, _, rfl, _, rfl, _, _, rfl, rfl, ⟨KM.sg_ne hy, hs9⟩, (by show 2 ≤ sizeLine; decide), fun r hr => hQ r hr⟩
    · rintro σ H2 Q1 Q2 hm ⟨v, hv, i, j, e1, e2, k, hk, q⟩
      exact ⟨v, hv, i, j, e1, e2, k, hk, hm _ _ q⟩
abbrev CalL (P : Program) (w : World) (K : PySem.W.Frag) (mg : Str → Option Value) (base : Heap) : Prop := Cal P w K mg base 1 "_law_low" spLow []
def spAdd : Sp := fun vs H Q _ => ∃ (p q : Addr) (a b : Int × Int) (n : Nat), vs = [.ref p, .ref q] ∧ H p = some (tupP a) ∧ H q = some (tupP b) ∧ two n a b ∧
  ∀ r, H r = none → Q (.ref r) (upd H r (tupP (KM.low (a.1 * b.2 + b.1 * a.2) (a.2 * b.2))))
theorem at0 {a b : V} : atI [a, b] 0 = some a := rfl
theorem at1 {a b : V} : atI [a, b] 1 = some b := rfl
theorem ok_add (F : Dn K d_l_add f fd) (cL : CalL P w K mg base) : FnOk P w K mg base CX0 2 f fd ["_law_one", "_law_other"] spAdd := by
  refine F.ok sc_l_add (fun vs H Q E h => ?_) (fun cdv A outer s H vs Q E hr h => ?_)
  · obtain ⟨p, q, a, b, n, rfl, _⟩ := h
    rfl
  · obtain ⟨p, q, a, b, n, rfl, hp, hq, ⟨ba, bb, hn0, hn9⟩, hQ⟩ := h
    refine ⟨_, PSs.nox (pss_one (ps_ret (pe_c cL hr (by decide) rfl (pa_cons (pe_op op_add (pe_op op_mulW (pe_ix ix_tup (pv 0) pe_int (fun _ _ => rfl)) (pe_ix ix_tup (pv 1) pe_int (fun _ _ => rfl))) (pe_op op_mulW (pe_ix ix_tup (pv 1) pe_int (fun _ _ => rfl)) (pe_ix ix_tup (pv 0) pe_int (fun _ _ => rfl))))
      (pa_cons (pe_op op_mulW (pe_ix ix_tup (pv 0) pe_int (fun _ _ => rfl)) (pe_ix ix_tup (pv 1) pe_int (fun _ _ => rfl))) pa_nil))))), ?_⟩
    refine ⟨_, rfl, p, _, _, _, rfl, rfl, SqT.of hp, at0, _, rfl, q, _, _, _, rfl, rfl, SqT.of hq, at1, _, _, rfl, rfl, wide_mul ba.1 bb.2.2 hn0 hn0 (by omega), ?_⟩
    refine ⟨_, rfl, q, _, _, _, rfl, rfl, SqT.of hq, at0, _, rfl, p, _, _, _, rfl, rfl, SqT.of hp, at1, _, _, rfl, rfl, wide_mul bb.1 ba.2.2 hn0 hn0 (by omega), _, _, rfl, rfl, ?_⟩
    refine ⟨_, rfl, p, _, _, _, rfl, rfl, SqT.of hp, at1, _, rfl, q, _, _, _, rfl, rfl, SqT.of hq, at1, _, _, rfl, rfl, wide_mul ba.2.2 bb.2.2 hn0 hn0 (by omega), ?_⟩
    exact ⟨_, _, n + n, rfl, mul_pos_ne ba.2.1 bb.2.1, wide_lt ba.2.2 bb.2.2, by omega, by omega, hQ⟩
def spPair (C : Addr) : Sp := fun vs H Q _ => ∃ (p : Addr) (q : Int × Int), vs = [.ref p] ∧ Sh C H p q ∧ ∀ r H', Same H H' → H r = none → H' r = some (tupP q) → Q (.ref r) H'
theorem ok_pair (F : Dn K d_l_pair f fd) (b : Bl mg) (T : Cl K mg C) (S : IsC K C) : FnOk P w K mg base CX0 1 f fd ["_law_share"] (spPair C) := by
  refine F.ok sc_l_pair (fun vs H Q E h => ?_) (fun cdv A outer s H vs Q E hr h => ?_)
  · obtain ⟨p, q, rfl, _⟩ := h
    rfl
  · obtain ⟨p, q, rfl, ⟨dp, hp⟩, hQ⟩ := h
    refine ⟨_, PSs.nox (pss_cons (ps_if (pt_not (pt_val (pe_callB call_isi rfl b.isi boot_isinstance (pa_cons (pv 0) (pa_cons (pe_glob (v := .ref C) rfl T.g rfl) pa_nil))))) pss_never pss_nil)
      (pss_cons (ps_for PassesOwn.never rfl (pi_tup (pe_tup (pa_cons (pe_fld (pv 0) rfl) (pa_cons (pe_fld (pv 0) rfl) pa_nil)))) (pg_name (i := 1) sc_l_pair.nd rfl (.inl rfl))
        (pss_one (ps_if (PW.pt (pw_or (pt_not (pt_val (pe_callB call_isi rfl b.isi boot_isinstance (pa_cons (pv 1) (pa_cons (pe_bltn (v := .ty "int") rfl b.int boot_int rfl) pa_nil)))))
          (pw_or1 (pt_val (pe_callB call_isi rfl b.isi boot_isinstance (pa_cons (pv 1) (pa_cons (pe_bltn (v := .ty "bool") rfl b.bool boot_bool rfl) pa_nil))))))) pss_never pss_nil)))
      (pss_one (ps_ret (pe_tup (pa_cons (pe_fld (pv 0) rfl) (pa_cons (pe_fld (pv 0) rfl) pa_nil))))))), ?_⟩
    refine ⟨_, rfl, _, _, _, _, true, rfl, ClsV.own C, TyX.base (TyOf.ins hp T.cl S.ha S.hn S.htk S.hm), S.kit, true, rfl, ?_⟩
    refine iteF ?_
    refine ⟨_, rfl, p, C, dp, _, _, rfl, hp, T.cl, T.nt, shF_top q, _, rfl, p, C, dp, _, _, rfl, hp, T.cl, T.nb, shF_bot q, by show 2 ≤ sizeLine; decide, fun u hu => ?_⟩
    have npu : p ≠ u := ne_of_none hp hu
    refine ⟨u, rfl, ⟨_, SqT.of upd_same⟩, for_tup (K := K) (xs := [.int q.1, .int q.2]) (fun i σ H2 => H2 = upd H u (.tup [.int q.1, .int q.2]) ∧ ∃ v, σ = [some (.ref p), v])
      ⟨rfl, none, rfl⟩ (fun i σ H2 _ h => by rw [h.1]; exact SqT.of upd_same) ?_ ?_⟩
    · rintro i y σ H2 hi ⟨rfl, v, rfl⟩
      have hy : ∃ n : Int, y = .int n := by
        match i, hi with
        | 0, e => exact ⟨_, (Option.some.inj e).symm⟩
        | 1, e => exact ⟨_, (Option.some.inj e).symm⟩
      obtain ⟨n, rfl⟩ := hy
      refine ⟨_, rfl, _, _, _, _, true, rfl, ClsV.ty _, TyX.base (TyOf.int n), kit_ty (by decide +kernel), true, rfl, ?_⟩
      refine iteF ?_
      refine ⟨_, rfl, _, _, _, _, false, rfl, ClsV.ty _, TyX.base (TyOf.int n), kit_ty (by decide +kernel), false, rfl, ?_⟩
      exact iteF ⟨rfl, _, rfl⟩
    · rintro σ H2 ⟨rfl, v, rfl⟩
      have hp2 : (upd H u (.tup [.int q.1, .int q.2])) p = some (.ins C dp (shF q)) := by rw [upd_ne npu]; exact hp
      refine ⟨_, rfl, p, C, dp, _, _, rfl, hp2, T.cl, T.nt, shF_top q, _, rfl, p, C, dp, _, _, rfl, hp2, T.cl, T.nb, shF_bot q, by show 2 ≤ sizeLine; decide, fun r hr => ?_⟩
      exact hQ r _ ((same_new hu).trans (same_new hr)) ((same_new hu).free hr) upd_same
/-- two Shares in, a Share out -/
def sp2 (C : Addr) (g : Rat → Rat → Rat) : Sp := fun vs H Q _ => ∃ (p q : Addr) (r s : Rat) (n : Nat), vs = [.ref p, .ref q] ∧ Sh C H p (pr r) ∧ Sh C H q (pr s) ∧ Sz n r ∧ Sz n s ∧ 0 < n ∧ n ≤ 4000 ∧
  ∀ t H', Same H H' → H t = none → Sh C H' t (pr (g r s)) → Q (.ref t) H'
abbrev MakS1 (P : Program) (w : World) (K : PySem.W.Frag) (mg : Str → Option Value) (base : Heap) (C : Addr) : Prop := Mak P w K mg base 2 "Share" C (spInit C) [.int 1]
theorem mk_in {C x dx : Addr} {H1 : Hp} {t b : Int} {n : Nat} {Qv : VK} {E : XK} (nx : H1 x = none) (nd : H1 dx = none) (hb : b ≠ 0) (hn : b.natAbs < 2 ^ n) (hn0 : 0 < n) (hn9 : n ≤ 9000)
    (hQ : ∀ H', Same H1 H' → Sh C H' x (pr (Rat.divInt t b)) → Qv .non H') : spInit C [.ref x, .int t, .int b] (upd (upd H1 dx (.own x)) x (.ins C dx [])) Qv E := by
  refine ⟨x, dx, t, b, n, rfl, hb, hn, hn0, hn9, upd_same, fun H' kp hp => hQ H' (fun a o e => ?_) ⟨dx, KM.low_eq hb ▸ hp⟩⟩
  refine kp a o (ne_of_none e nx) ?_
  rw [upd_ne (ne_of_none e nx), upd_ne (ne_of_none e nd)]
  exact e
end
end K32
set_option Elab.async false
set_option linter.all false
set_option maxRecDepth 100000
set_option maxHeartbeats 4000000
/-! NM: the names that a law draws: words by a base, a place, a spot and a way. -/
namespace NM
open PySem PySem.Spec
def ok (l : List Nat) : Prop := 1 ≤ l.length ∧ l.length ≤ 8 ∧ ∀ c ∈ l, 97 ≤ c ∧ c ≤ 122
def words : List (List Nat) := [[108, 97, 116, 101], [105, 110], [111, 117, 116], [114, 105, 100, 101], [104, 97, 110, 100], [108, 97, 99, 107], [121, 101, 115], [110, 111], [110, 97, 109, 101, 115], [103, 111, 110, 101], [116, 101, 120, 116], [112, 108, 97, 110], [117, 110, 100, 111], [117, 115, 117, 97, 108], [98, 97, 99, 107], [108, 101, 97, 118, 101]]
def lets : List Nat := (List.range 26).map (97 + ·)
def w0 (bs : List Nat) (at_ spot k : Nat) : List Nat := bs.take at_ ++ [97 + (spot + 5 * k) % 26] ++ bs.drop (at_ + 1)
def w1 (bs : List Nat) (at_ spot k : Nat) : List Nat := (w0 bs at_ spot k).take (bs.length - k % (bs.length - at_))
def w2 (spot k : Nat) : List Nat := (List.replicate 8 (97 + (spot + k / 8) % 26)).take (k % 8 + 1)
def w3 (spot k : Nat) : List Nat := words.getD ((spot + k) % 16) []
def word (bs : List Nat) (at_ spot way k : Nat) : List Nat := if way = 1 then w1 bs at_ spot k else if way = 2 then w2 spot k else if way = 3 then w3 spot k else w0 bs at_ spot k
theorem words_ok : ∀ i, i < 16 → ok (words.getD i []) := by
  have : ∀ i : Fin 16, 1 ≤ (words.getD i.1 []).length ∧ (words.getD i.1 []).length ≤ 8 ∧ (words.getD i.1 []).all (fun c => decide (97 ≤ c ∧ c ≤ 122)) = true := by decide +kernel
  intro i hi
  obtain ⟨h1, h2, h3⟩ := this ⟨i, hi⟩
  refine ⟨h1, h2, fun c hc => ?_⟩
  have := List.all_eq_true.mp h3 c hc
  exact of_decide_eq_true this
theorem words_inj : ∀ i j, i < 16 → j < 16 → words.getD i [] = words.getD j [] → i = j := by
  have : ∀ i j : Fin 16, words.getD i.1 [] = words.getD j.1 [] → i = j := by decide +kernel
  intro i j hi hj e
  exact congrArg Fin.val (this ⟨i, hi⟩ ⟨j, hj⟩ e)
section
variable {bs : List Nat} {at_ spot k : Nat}
theorem w0_len (h : at_ < bs.length) : (w0 bs at_ spot k).length = bs.length := by
  unfold w0
  simp only [List.length_append, List.length_take, List.length_drop, List.length_cons, List.length_nil]
  omega
theorem w0_at (h : at_ < bs.length) : (w0 bs at_ spot k)[at_]? = some (97 + (spot + 5 * k) % 26) := by
  unfold w0
  rw [List.append_assoc, List.getElem?_append_right (by rw [List.length_take]; omega), List.length_take, Nat.min_eq_left (by omega), Nat.sub_self]
  rfl
theorem w0_mem (hb : ∀ c ∈ bs, 97 ≤ c ∧ c ≤ 122) : ∀ c ∈ w0 bs at_ spot k, 97 ≤ c ∧ c ≤ 122 := by
  intro c hc
  unfold w0 at hc
  rcases List.mem_append.mp hc with hc | hc
  · rcases List.mem_append.mp hc with hc | hc
    · exact hb c (List.mem_of_mem_take hc)
    · rw [List.mem_singleton] at hc
      omega
  · exact hb c (List.mem_of_mem_drop hc)
theorem w1_len (h : at_ < bs.length) : at_ + 1 ≤ (w1 bs at_ spot k).length ∧ (w1 bs at_ spot k).length ≤ bs.length := by
  unfold w1
  rw [List.length_take, w0_len h]
  have := Nat.mod_lt k (show 0 < bs.length - at_ by omega)
  omega
theorem w1_at (h : at_ < bs.length) : (w1 bs at_ spot k)[at_]? = some (97 + (spot + 5 * k) % 26) := by
  have h1 := (w1_len (spot := spot) (k := k) h).1
  unfold w1 at h1 ⊢
  rw [List.length_take, w0_len h] at h1
  rw [List.getElem?_take_of_lt (by omega)]
  exact w0_at h
theorem spot_inj {i j : Nat} (hi : i < 16) (hj : j < 16) (e : 97 + (spot + 5 * i) % 26 = 97 + (spot + 5 * j) % 26) : i = j := by omega
theorem word_ok (hb0 : 1 ≤ bs.length) (hb8 : bs.length ≤ 8) (hb : ∀ c ∈ bs, 97 ≤ c ∧ c ≤ 122) (h : at_ < bs.length) (way : Nat) : ok (word bs at_ spot way k) := by
  unfold word
  split
  · have := w1_len (spot := spot) (k := k) h
    exact ⟨by omega, by omega, fun c hc => w0_mem hb c (List.mem_of_mem_take hc)⟩
  split
  · unfold w2
    refine ⟨by rw [List.length_take, List.length_replicate]; omega, by rw [List.length_take, List.length_replicate]; omega, fun c hc => ?_⟩
    have := List.eq_of_mem_replicate (List.mem_of_mem_take hc)
    omega
  split
  · exact words_ok _ (Nat.mod_lt _ (by decide))
  · exact ⟨by rw [w0_len h]; exact hb0, by rw [w0_len h]; exact hb8, w0_mem hb⟩
theorem word_inj (h : at_ < bs.length) (way : Nat) {i j : Nat} (hi : i < 16) (hj : j < 16) (e : word bs at_ spot way i = word bs at_ spot way j) : i = j := by
  unfold word at e
  split at e
  · have h1 := w1_at (spot := spot) (k := i) h
    rw [e, w1_at h] at h1
    exact (spot_inj hj hi (Option.some.inj h1)).symm
  split at e
  · unfold w2 at e
    have hl := congrArg List.length e
    rw [List.length_take, List.length_take, List.length_replicate, List.length_replicate] at hl
    have h0 : ((List.replicate 8 (97 + (spot + i / 8) % 26)).take (i % 8 + 1))[0]? = ((List.replicate 8 (97 + (spot + j / 8) % 26)).take (j % 8 + 1))[0]? := by rw [e]
    rw [List.getElem?_take_of_lt (by omega), List.getElem?_take_of_lt (by omega), List.getElem?_replicate, List.getElem?_replicate, if_pos (by decide), if_pos (by decide)] at h0
    have := Option.some.inj h0
    omega
  split at e
  · have := words_inj _ _ (Nat.mod_lt _ (by decide)) (Nat.mod_lt _ (by decide)) e
    omega
  · have h1 := w0_at (spot := spot) (k := i) h
    rw [e, w0_at h] at h1
    exact (spot_inj hj hi (Option.some.inj h1)).symm
/-- as many as are asked: unlike ones -/
theorem all_unlike (h : at_ < bs.length) (way n : Nat) (hn : n ≤ 16) : ((List.range n).map (word bs at_ spot way)).Pairwise (· ≠ ·) := by
  rw [List.pairwise_map]
  refine (List.pairwise_lt_range (n := n)).imp_of_mem fun {a b} ha hb hlt e => ?_
  have := word_inj h way (by have := List.mem_range.mp ha; omega) (by have := List.mem_range.mp hb; omega) e
  omega
end
end NM
set_option Elab.async false
set_option linter.all false
set_option maxRecDepth 100000
set_option maxHeartbeats 4000000
/-! NH: the names that a law with a held dict draws. -/
namespace NH
open PySem PySem.Spec
def word (bs : List Nat) (at_ begin_ step lot k : Nat) : List Nat := bs.take at_ ++ [97 + (begin_ + step * k) % 26] ++ (bs.drop at_).take (if lot = 0 then 8 else k % (bs.length - at_ + 1))
def steps : List Nat := [1, 3, 5, 7, 9, 11, 15, 17]
section
variable {bs : List Nat} {at_ begin_ step lot k : Nat}
theorem word_at (h : at_ ≤ bs.length) : (word bs at_ begin_ step lot k)[at_]? = some (97 + (begin_ + step * k) % 26) := by
  unfold word
  rw [List.append_assoc, List.getElem?_append_right (by rw [List.length_take]; omega), List.length_take, Nat.min_eq_left h, Nat.sub_self]
  rfl
theorem step_inj {i j : Nat} (hs : step ∈ steps) (hi : i < 13) (hj : j < 13) (e : 97 + (begin_ + step * i) % 26 = 97 + (begin_ + step * j) % 26) : i = j := by
  simp only [steps, List.mem_cons, List.not_mem_nil, or_false] at hs
  rcases hs with rfl | rfl | rfl | rfl | rfl | rfl | rfl | rfl <;> omega
theorem word_inj (h : at_ ≤ bs.length) (hs : step ∈ steps) {i j : Nat} (hi : i < 13) (hj : j < 13) (e : word bs at_ begin_ step lot i = word bs at_ begin_ step lot j) : i = j := by
  have h1 := word_at (begin_ := begin_) (step := step) (lot := lot) (k := i) h
  rw [e, word_at h] at h1
  exact (step_inj hs hj hi (Option.some.inj h1)).symm
theorem word_ok (h8 : bs.length ≤ 7) (hb : ∀ c ∈ bs, 97 ≤ c ∧ c ≤ 122) (h : at_ ≤ bs.length) : NM.ok (word bs at_ begin_ step lot k) := by
  unfold word
  refine ⟨?_, ?_, fun c hc => ?_⟩
  · simp only [List.length_append, List.length_take, List.length_drop, List.length_cons, List.length_nil]
    omega
  · simp only [List.length_append, List.length_take, List.length_drop, List.length_cons, List.length_nil]
    omega
  · rcases List.mem_append.mp hc with hc | hc
    · rcases List.mem_append.mp hc with hc | hc
      · exact hb c (List.mem_of_mem_take hc)
      · rw [List.mem_singleton] at hc
        omega
    · exact hb c (List.mem_of_mem_drop (List.mem_of_mem_take hc))
theorem all_unlike (h : at_ ≤ bs.length) (hs : step ∈ steps) (n : Nat) (hn : n ≤ 13) : ((List.range n).map (word bs at_ begin_ step lot)).Pairwise (· ≠ ·) := by
  rw [List.pairwise_map]
  refine (List.pairwise_lt_range (n := n)).imp_of_mem fun {a b} ha hb hlt e => ?_
  have := word_inj h hs (by have := List.mem_range.mp ha; omega) (by have := List.mem_range.mp hb; omega) e
  omega
end
end NH
set_option Elab.async false
set_option linter.all false
set_option maxRecDepth 100000
set_option maxHeartbeats 4000000
namespace K32
open PySem PySem.Spec PyProof.Rows L2
open C8 (Cal Mak Met pe_c pe_mk pe_mt pe_mt0)
open SX (S)
theorem lets_S : (Str.ofString "abcdefghijklmnopqrstuvwxyz").cps.toList = NM.lets := by decide +kernel
theorem at_lets {x : Int} {j : Nat} (e : x = (j : Int)) (hj : j < 26) : atI (Str.ofString "abcdefghijklmnopqrstuvwxyz").cps.toList x = some (97 + j) := by
  rw [e, lets_S]
  refine atI_nat ?_
  unfold NM.lets
  rw [List.getElem?_map, List.getElem?_range hj]
  rfl
theorem cut_t {l : List Nat} {x : Int} {j : Nat} (e : x = (j : Int)) (h : j ≤ l.length) : cutS (S l) none (some x) = S (l.take j) := by
  rw [e]
  unfold cutS
  rw [HT.sIx_nat, HT.sIx_none, SX.S_len, Nat.min_eq_left h]
  simp [S]
theorem cut_m {l : List Nat} {x y : Int} {j m : Nat} (e : x = (j : Int)) (e2 : y = ((j + m : Nat) : Int)) (h : j ≤ l.length) : cutS (S l) (some x) (some y) = S ((l.drop j).take m) := by
  rw [e, e2]
  unfold cutS
  rw [HT.sIx_nat, HT.sIx_nat, SX.S_len, Nat.min_eq_left h]
  have e3 : (l.drop j).take (min (j + m) l.length - j) = (l.drop j).take m := by
    by_cases c : j + m ≤ l.length
    · rw [Nat.min_eq_left c, Nat.add_sub_cancel_left]
    · rw [Nat.min_eq_right (by omega), List.take_of_length_le (Nat.le_of_eq (List.length_drop ..)), List.take_of_length_le (by rw [List.length_drop]; omega)]
  simp [S, e3]
theorem ones : ∀ bs : List Nat, ((bs.map fun c => S [c]).map (·.length)).sum = bs.length
  | [] => rfl
  | b :: bs => by
    rw [List.map_cons, List.map_cons, List.sum_cons, ones bs, List.length_cons, SX.S_len]
    simp
    omega
theorem joined : ∀ bs : List Nat, TL.joinL [] (bs.map fun c => [c]) = bs
  | [] => rfl
  | [b] => rfl
  | b :: d :: bs => by
    have := joined (d :: bs)
    simp only [List.map_cons, TL.joinL] at this ⊢
    simp [this]
theorem Held.ne_new {H : Hp} {h u : Addr} {c : Nat} (x : Held H h c) (e : H u = none) : u ≠ h := by
  obtain ⟨l, ns, n, m, h1, _⟩ := x
  exact (ne_of_none h1 e).symm
/-- the held dict's cells aren't at D -/
def Cel (h D : Addr) (H : Hp) : Prop := ∃ la n m, H h = some (.dK (hd0 la n m)) ∧ la ≠ D ∧ h ≠ D
theorem Cel.kp {h D : Addr} {H H' : Hp} (x : Cel h D H) (k : Kp h H H') : Cel h D H' := by
  obtain ⟨la, n, m, e, n1, n2⟩ := x
  obtain ⟨n', m', e'⟩ := k.2 _ _ _ e
  exact ⟨la, n', m', e', n1, n2⟩
theorem Cel.of {h D : Addr} {H : Hp} {c : Nat} (x : Held H h c) (f : H D = none) : Cel h D H := by
  obtain ⟨la, ns, n, m, e1, e2, _⟩ := x
  exact ⟨la, n, m, e1, ne_of_none e2 f, ne_of_none e1 f⟩
theorem Cel.ne {h D : Addr} {H : Hp} (x : Cel h D H) : D ≠ h := by
  obtain ⟨_, _, _, _, _, n⟩ := x
  exact n.symm
theorem Held.put {h D : Addr} {H : Hp} {o : HO} {c : Nat} (x : Held H h c) (y : Cel h D H) : Held (upd H D o) h c := by
  obtain ⟨la, ns, n, m, e1, e2, e3⟩ := x
  obtain ⟨la', n', m', e', n1, n2⟩ := y
  cases hd_inj (Option.some.inj (e1.symm.trans e'))
  exact ⟨la, ns, n, m, by rw [upd_ne n2]; exact e1, by rw [upd_ne n1]; exact e2, e3⟩
theorem Cel.put {h D D' : Addr} {H : Hp} {o : HO} (x : Cel h D H) (n : h ≠ D') : Cel h D (upd H D' o) := by
  obtain ⟨la', n', m', e', n1, n2⟩ := x
  exact ⟨la', n', m', by rw [upd_ne n]; exact e', n1, n2⟩
theorem Kp.new {h st : Addr} {H1 H2 : Hp} {o : HO} (k : Kp h H1 H2) (f : H1 st = none) : Kp h H1 (upd H2 st o) :=
  ⟨fun b u e ne => by rw [upd_ne (ne_of_none e f)]; exact k.1 b u e ne, fun l n m e => by
    obtain ⟨n', m', e'⟩ := k.2 l n m e
    exact ⟨n', m', by rw [upd_ne (ne_of_none e f)]; exact e'⟩⟩
theorem pick {α : Type} (g : α → V) {L : List α} {i : Int} (i0 : 0 ≤ i) (i1 : i < (L.length : Int)) : ∃ x ∈ L, atI (L.map g) i = some (g x) := by
  obtain ⟨j, rfl⟩ := Int.eq_ofNat_of_zero_le i0
  have hj : j < L.length := by omega
  exact ⟨L[j], List.getElem_mem hj, atI_nat (j := j) (by rw [List.getElem?_map, List.getElem?_eq_getElem hj]; rfl)⟩
section
variable {P : Program} {w : World} {K : PySem.W.Frag} {mg : Str → Option Value} {base : Heap} {f C : Addr} {fd : FuncData}
def spNames : Sp := fun vs H Q _ => ∃ (h : Addr) (c n : Nat), vs = [.ref h, .int n] ∧ Held H h (c + 40) ∧ n ≤ 13 ∧
  ∀ (o : Addr) (zs : List (List Nat)) (H' : Hp), Held H' h c → Kp h H H' → H o = none → H' o = some (.lst (zs.map fun l => V.str (S l))) → zs.length = n → (∀ z ∈ zs, NM.ok z) → zs.Pairwise (· ≠ ·) → Q (.ref o) H'
theorem ok_names (F : Dn K d_l_names f fd) (bl : Bl mg) (cD : CalD P w K mg base) : FnOk P w K mg base CX0 2 f fd ["_law_held_here", "_law_many"] spNames := by
  refine F.ok sc_l_names (fun vs H Q E h => ?_) (fun cdv A outer s H vs Q E hr h => ?_)
  · obtain ⟨p, c, n, rfl, _⟩ := h
    rfl
  · obtain ⟨p, c, n, rfl, pen, hn, hQ⟩ := h
    refine ⟨_, PSs.nox (pss_cons (ps_set (i := 2) sc_l_names.nd rfl (.inr rfl) pe_str)
      (pss_cons (ps_set (i := 3) sc_l_names.nd rfl (.inl rfl) (pe_c cD hr (by decide) rfl (pa_cons (pv 0) (pa_cons pe_int pa_nil))))
      (C8.pss_cut (ps_set (i := 5) sc_l_names.nd rfl (.inl rfl) (pe_join pe_str (pe_lc (own := [("_law_k", 4)]) (g := gName 4) (tt := tYes) rfl sc_l_names.nd (pi_range1 rfl bl.range (pa_cons (pv 3) pa_nil)) (blkOk_by (N := N_l_names) (sc := defScope s_l_names) (by decide +kernel))
          (fun _ _ _ _ _ => pg_name (i := 4) sc_l_names.nd rfl (Or.inl rfl)) (fun _ _ _ _ _ => pts_nil) (fun _ _ _ _ _ => pe_ix ix_str (pv 2) (pe_c cD hr (by decide) rfl (pa_cons (pv 0) (pa_cons pe_int pa_nil))) (fun _ _ => rfl)))))
      (pss_cons (ps_par (i := 6) (j := 7) rfl sc_l_names.nd rfl rfl (by decide) rfl rfl (pa_cons (pe_c cD hr (by decide) rfl (pa_cons (pv 0) (pa_cons (pe_op op_add (pv 3) pe_int) pa_nil))) (pa_cons (pe_c cD hr (by decide) rfl (pa_cons (pv 0) (pa_cons pe_int pa_nil))) pa_nil)) rfl)
      (pss_cons (ps_par (i := 8) (j := 9) rfl sc_l_names.nd rfl rfl (by decide) rfl rfl (pa_cons (pe_ix ix_list (pe_lst (pa_cons pe_int (pa_cons pe_int (pa_cons pe_int (pa_cons pe_int (pa_cons pe_int (pa_cons pe_int (pa_cons pe_int (pa_cons pe_int pa_nil))))))))) (pe_c cD hr (by decide) rfl (pa_cons (pv 0) (pa_cons pe_int pa_nil))) (fun _ _ => rfl)) (pa_cons (pe_c cD hr (by decide) rfl (pa_cons (pv 0) (pa_cons pe_int pa_nil))) pa_nil)) rfl)
      (pss_cons (ps_set (i := 10) sc_l_names.nd rfl (.inl rfl) (pe_lst pa_nil))
      (pss_cons (ps_for PassesOwn.never rfl (pi_range1 rfl bl.range (pa_cons (pv 1) pa_nil)) (pg_name (i := 4) sc_l_names.nd rfl (.inl rfl))
        (C8.pss_cut (ps_set (i := 11) sc_l_names.nd rfl (.inl rfl) (pe_slice sl_str (pv 5) (po_some (pv 6)) (po_some (pe_op op_add (pv 6) (pe_ix ix_list (pe_lst (pa_cons pe_int (pa_cons (pe_op op_mod (pv 4) (pe_op op_add (pe_op op_sub (pv 3) (pv 6)) pe_int)) pa_nil))) (pv 9) (fun _ _ => rfl))))))
        (pss_one (ps_expr (pe_bm PySem.F.plainAttrs_list PySem.F.slot_list_append PySem.F.type_list_append mt_append (pv 10) (pa_cons (pe_op op_add_str (pe_op op_add_str (pe_slice sl_str (pv 5) po_none (po_some (pv 6))) (pe_ix ix_str (pv 2) (pe_op op_mod (pe_op op_add (pv 7) (pe_op op_mul (pv 8) (pv 4))) pe_int) (fun _ _ => rfl))) (pv 11)) pa_nil))))))
      (pss_one (ps_ret (pv 10)))))))))), ?_⟩
    -- the size
    refine ⟨_, rfl, p, c + 39, _, rfl, pen, by decide, by decide, fun z0 H2 a2 b2 pen2 k2 => ?_⟩
    obtain ⟨sz, rfl⟩ := Int.eq_ofNat_of_zero_le a2
    have sz7 : sz ≤ 7 := by omega
    -- the base
    refine ⟨fun σ' H' => ∃ bs : List Nat, σ' = [some (.ref p), some (.int n), some (.str (Str.ofString "abcdefghijklmnopqrstuvwxyz")), some (.int (sz : Int)), none, some (.str (S bs)), none, none, none, none, none, none] ∧ bs.length = sz ∧ (∀ c ∈ bs, 97 ≤ c ∧ c ≤ 122) ∧
      Held H' p (c + 30) ∧ Kp p H H', ?_, ?_⟩
    · refine ⟨⟨_, rfl⟩, _, rfl, _, rfl, by omega, by omega, ?_⟩
      rw [Int.toNat_natCast]
      intro D hD
      have offD := Cel.of pen2 hD
      have sD := same_new (o := .lst []) hD
      refine lc_range (n := sz) (fun i H3 => ∃ bs : List Nat, bs.length = i ∧ (∀ c ∈ bs, 97 ≤ c ∧ c ≤ 122) ∧ H3 D = some (.lst (bs.map fun c => V.str (S [c]))) ∧ Held H3 p (c + 39 - i) ∧ Kp p H2 H3 ∧ Cel p D H3) ?_ ?_ ?_
      · exact ⟨[], rfl, by simp, upd_same, pen2.same sD, Kp.same sD, offD.kp (Kp.same sD)⟩
      · rintro i H3 hi ⟨bs, hbl, hbc, hd, pen3, k3, off3⟩
        refine ⟨rfl, ?_⟩
        refine ⟨_, rfl, _, rfl, p, c + 39 - (i + 1), _, rfl, pen3.weak (by omega), by decide, by decide, fun r H4 r0 r1 pen4 k4 => ?_⟩
        obtain ⟨rn, rfl⟩ := Int.eq_ofNat_of_zero_le r0
        have hd4 := k4.1 _ _ hd off3.ne
        have off4 := off3.kp k4
        refine ⟨_, _, 97 + rn, rfl, rfl, by decide +kernel, at_lets rfl (by omega), _, hd4, ?_, bs ++ [97 + rn], by simp [hbl], ?_, ?_, pen4.put off4, (k3.trans k4).new hD, ?_⟩
        · rw [List.length_map, hbl]
          exact Nat.lt_of_lt_of_le (by omega : i < 64) (by decide)
        · intro c' hc'
          rcases List.mem_append.mp hc' with hc' | hc'
          · exact hbc c' hc'
          · rw [List.mem_singleton] at hc'
            omega
        · rw [upd_same]
          simp [S]
        · exact off4.put off4.ne.symm
      · rintro H3 ⟨bs, hbl, hbc, hd, pen3, k3, off3⟩
        have ey : (bs.map fun c => V.str (S [c])) = (bs.map fun c => S [c]).map V.str := by rw [List.map_map]; rfl
        refine ⟨_, D, bs.map fun c => S [c], rfl, rfl, .inl (by rw [← ey]; exact SqL.of hd), ?_, bs, ?_, hbl, hbc, pen3.weak (by omega), k2.trans k3⟩
        · rw [ones bs, List.length_map]
          have e2 : (Str.ofString "").length = 0 := by decide +kernel
          rw [e2, hbl]
          omega
        · have e3 : Txt.join (Str.ofString "") (bs.map fun c => S [c]) = S bs := by
            have e4 : Str.ofString "" = S [] := by decide +kernel
            have e5 : (bs.map fun c => S [c]) = (bs.map fun c => [c]).map S := by rw [List.map_map]; rfl
            rw [e4, e5, SX.join_S, joined]
          rw [e3]
          rfl
    clear pen pen2 k2
    rintro σ' H3 ⟨bs, rfl, hbl, hbc, pen3, k3⟩
    refine ⟨_, rfl, _, rfl, _, _, rfl, rfl, p, c + 29, _, rfl, pen3, by omega, by omega, fun at_ H4 a4 b4 pen4 k4 => ?_⟩
    refine ⟨_, rfl, p, c + 28, _, rfl, pen4, by decide, by decide, fun bg H5 a5 b5 pen5 k5 => ⟨_, _, rfl, ?_⟩⟩
    refine ⟨by show 8 ≤ sizeLine; decide, fun u fu => ?_⟩
    have su := same_new (o := .lst [.int 1, .int 3, .int 5, .int 7, .int 9, .int 11, .int 15, .int 17]) fu
    refine ⟨_, rfl, p, c + 27, 8, rfl, pen5.same su, by decide, by decide, fun q6 H6 a6 b6 pen6 k6 => ?_⟩
    have hu6 := k6.1 u _ upd_same (pen5.ne_new fu)
    obtain ⟨st, hst, est⟩ := pick (fun n : Nat => V.int (n : Int)) (L := NH.steps) a6 (by simpa [NH.steps] using b6)
    refine ⟨u, _, _, _, rfl, rfl, SqL.of hu6, est, ?_⟩
    refine ⟨_, rfl, p, c + 26, 2, rfl, pen6, by decide, by decide, fun lot H7 a7 b7 pen7 k7 => ⟨_, _, rfl, ?_⟩⟩
    obtain ⟨at_, rfl⟩ := Int.eq_ofNat_of_zero_le a4
    obtain ⟨bg, rfl⟩ := Int.eq_ofNat_of_zero_le a5
    obtain ⟨lot, rfl⟩ := Int.eq_ofNat_of_zero_le a7
    have hat : at_ ≤ bs.length := by omega
    have k07 := ((k3.trans k4).trans k5).trans (((Kp.same su).trans k6).trans k7)
    have st17 : st ≤ 17 := by
      simp only [NH.steps, List.mem_cons, List.not_mem_nil, or_false] at hst
      omega
    clear k3 k4 k5 k6 k7 su pen3 pen4 pen5 pen6
    refine ⟨by show 0 ≤ sizeLine; decide, fun o fo => ?_⟩
    have so := same_new (o := .lst []) fo
    refine ⟨_, rfl, _, rfl, by omega, by omega, ?_⟩
    rw [Int.toNat_natCast]
    have fo0 : H o = none := by
      cases e : H o with
      | none => rfl
      | some ob =>
        by_cases z : o = p
        · rw [z] at fo
          obtain ⟨l0, ns0, n0, m0, h0, _⟩ := pen7
          rw [h0] at fo
          cases fo
        · rw [k07.1 o ob e z] at fo
          cases fo
    refine for_range (n := n) (fun i σ H8 => ∃ (v4 v11 : Option V), σ = [some (.ref p), some (.int n), some (.str (Str.ofString "abcdefghijklmnopqrstuvwxyz")), some (.int (sz : Int)), v4, some (.str (S bs)), some (.int (at_ : Int)), some (.int (bg : Int)), some (.int (st : Int)), some (.int (lot : Int)), some (.ref o), v11] ∧
        H8 o = some (.lst (((List.range i).map (NH.word bs at_ bg st lot)).map fun l => V.str (S l))) ∧ Held H8 p c ∧ Kp p H H8 ∧ Cel p o H8)
      ⟨none, none, rfl, upd_same, (pen7.same so).weak (by omega), k07.trans (Kp.same so), (Cel.of pen7 fo).kp (Kp.same so)⟩ ?_ ?_
    · rintro i σ H8 hi ⟨v4, v11, rfl, ho8, pen8, k8, off8⟩
      have len0 : (S bs).length ≤ sizeLine := by rw [SX.S_len]; exact Nat.le_trans (by omega : bs.length ≤ 8) (by decide)
      have lets_len : (Str.ofString "abcdefghijklmnopqrstuvwxyz").length ≤ sizeLine := by decide +kernel
      obtain ⟨m, hm⟩ : ∃ m : Nat, (if lot = 0 then 8 else i % (bs.length - at_ + 1)) = m := ⟨_, rfl⟩
      refine ⟨fun σ' H' => σ' = [some (.ref p), some (.int n), some (.str (Str.ofString "abcdefghijklmnopqrstuvwxyz")), some (.int (sz : Int)), some (.int (0 + (i : Int))), some (.str (S bs)), some (.int (at_ : Int)), some (.int (bg : Int)), some (.int (st : Int)), some (.int (lot : Int)), some (.ref o), some (.str (S ((bs.drop at_).take m)))] ∧ Same H8 H', ?_, ?_⟩
      · refine ⟨_, rfl, _, rfl, _, rfl, _, rfl, _, rfl, _, rfl, _, rfl, _, _, rfl, rfl, _, _, rfl, rfl, _, _, rfl, rfl, by omega, by show 2 ≤ sizeLine; decide, fun u2 fu2 => ?_⟩
        have eix : atI [V.int 8, .int ((0 + (i : Int)) % ((sz : Int) - (at_ : Int) + 1))] (lot : Int) = some (.int (m : Nat)) := by
          rcases (show lot = 0 ∨ lot = 1 by omega) with rfl | rfl
          · rw [← hm]
            rfl
          · have h1 : ((sz : Int) - (at_ : Int) + 1) = ((bs.length - at_ + 1 : Nat) : Int) := by omega
            rw [h1, Int.zero_add, ← Int.natCast_emod, ← hm]
            rfl
        refine ⟨_, rfl, u2, _, _, _, rfl, rfl, SqL.of upd_same, eix, _, _, rfl, rfl, _, rfl, _, rfl, len0, ?_⟩
        rw [cut_m (j := at_) (m := m) rfl (by omega) hat]
        exact ⟨rfl, same_new fu2⟩
      · rintro σ' H9 ⟨rfl, s9⟩
        have ho9 := s9 _ _ ho8
        have e5 : ((bg : Int) + (st : Int) * (0 + (i : Int))) % 26 = (((bg + st * i) % 26 : Nat) : Int) := by
          rw [Int.zero_add, ← Int.natCast_mul, ← Int.natCast_add]
          exact (Int.natCast_emod _ 26).symm
        refine ⟨_, rfl, Or.inl ⟨rfl, _, SqL.of ho9⟩, _, rfl, _, rfl, _, rfl, _, rfl, len0, ?_⟩
        rw [cut_t rfl hat]
        refine ⟨_, rfl, _, rfl, _, rfl, _, rfl, _, _, rfl, rfl, cb_l (by omega) (by omega), _, _, rfl, rfl, _, _, rfl, rfl, (by decide : (0 : Int) < 26), _, _, _, rfl, rfl, lets_len, at_lets e5 (Nat.mod_lt _ (by decide)), _, _, rfl, rfl, ?_, ?_⟩
        · rw [SX.S_len, List.length_take]
          exact Nat.le_trans (by show min at_ bs.length + 1 ≤ 64; omega) (by decide)
        have ec : S (bs.take at_) ++ (⟨#[97 + (bg + st * i) % 26]⟩ : Str) = S (bs.take at_ ++ [97 + (bg + st * i) % 26]) := SX.S_cat _ _
        rw [ec]
        refine ⟨_, rfl, _, _, rfl, rfl, ?_, ?_⟩
        · rw [SX.S_len, SX.S_len, List.length_append, List.length_take, List.length_take, List.length_drop]
          exact Nat.le_trans (by show min at_ bs.length + 1 + min m (bs.length - at_) ≤ 64; omega) (by decide)
        rw [SX.S_cat]
        have ew : bs.take at_ ++ [97 + (bg + st * i) % 26] ++ (bs.drop at_).take m = NH.word bs at_ bg st lot i := by rw [← hm]; rfl
        rw [ew]
        refine ⟨o, _, _, rfl, rfl, ho9, ?_, _, _, rfl, ?_, (pen8.same s9).put (off8.kp (Kp.same s9)), (k8.trans (Kp.same s9)).new fo0, (off8.kp (Kp.same s9)).put off8.ne.symm⟩
        · rw [List.length_map, List.length_map, List.length_range]
          exact Nat.lt_of_lt_of_le (by omega : i < 64) (by decide)
        · rw [upd_same, List.range_succ, List.map_append, List.map_append]
          rfl
    · rintro σ H8 ⟨v4, v11, rfl, ho8, pen8, k8, off8⟩
      refine ⟨_, rfl, hQ o _ H8 pen8 k8 fo0 ho8 (by simp) (fun z hz => ?_) (NH.all_unlike hat hst n hn)⟩
      obtain ⟨k, _, rfl⟩ := List.mem_map.mp hz
      exact NH.word_ok (by omega) hbc hat
end
end K32
set_option Elab.async false
set_option linter.all false
set_option maxRecDepth 100000
set_option maxHeartbeats 4000000
namespace K32
open PySem PySem.Spec PyProof.Rows L2
open C8 (Cal Mak Met pe_c pe_mk pe_mt pe_mt0)
/-- a day: unlike names of the order -/
structure DayOk (xs R : List Str) : Prop where
  ne : R ≠ []
  nd : R.Nodup
  sub : ∀ y ∈ R, y ∈ xs
  ln : R.length ≤ xs.length
theorem map_eraseIdx' {α β : Type} {g : α → β} : ∀ {xs : List α} {q : Nat}, (xs.map g).eraseIdx q = (xs.eraseIdx q).map g
  | [], _ => rfl
  | _ :: _, 0 => rfl
  | x :: xs, q + 1 => by simp [map_eraseIdx' (xs := xs) (q := q)]
theorem perm_eraseIdx {α : Type} : ∀ {xs : List α} {q : Nat} (h : q < xs.length), xs.Perm (xs[q] :: xs.eraseIdx q)
  | x :: xs, 0, _ => by simp
  | x :: xs, q + 1, h => by
    have hq : q < xs.length := by simpa using h
    simp only [List.getElem_cons_succ, List.eraseIdx_cons_succ]
    exact ((perm_eraseIdx hq).cons x).trans (List.Perm.swap _ _ _)
theorem Kp.free {h t : Addr} {H H' : Hp} {c : Nat} (k : Kp h H H') (pn : Held H' h c) (f : H' t = none) : H t = none := by
  cases e : H t with
  | none => rfl
  | some o =>
    by_cases z : t = h
    · rw [z] at f
      obtain ⟨l, ns, n, m, h1, _⟩ := pn
      rw [h1] at f
      cases f
    · rw [k.1 t o e z] at f
      cases f
theorem Kp.tupS {K : PySem.W.Frag} {h t : Addr} {H H' : Hp} {c : Nat} {xs : List V} (k : Kp h H H') (x : Held H h c) (e : H t = some (.tup xs)) : H' t = some (.tup xs) := by
  obtain ⟨l, ns, n, m, h1, _⟩ := x
  exact k.1 t _ e (ne_of e h1 (by intro z; cases z))
section
variable {P : Program} {w : World} {K : PySem.W.Frag} {mg : Str → Option Value} {base : Heap} {f C : Addr} {fd : FuncData}
def spDay : Sp := fun vs H Q _ => ∃ (h ot : Addr) (c : Nat) (xs : List Str), vs = [.ref h, .ref ot] ∧ Held H h (c + 20) ∧ H ot = some (.tup (xs.map V.str)) ∧ xs ≠ [] ∧ xs.Nodup ∧ xs.length ≤ 13 ∧
  ∀ (o : Addr) (R : List Str) (H' : Hp), Held H' h c → Kp h H H' → H o = none → H' o = some (.lst (R.map V.str)) → DayOk xs R → Q (.ref o) H'
theorem ok_day (F : Dn K d_l_day f fd) (bl : Bl mg) (bmin : mg "min" = none) (cD : CalD P w K mg base) : FnOk P w K mg base CX0 2 f fd ["_law_held_here", "_law_order"] spDay := by
  refine F.ok sc_l_day (fun vs H Q E h => ?_) (fun cdv A outer s H vs Q E hr h => ?_)
  · obtain ⟨h, ot, c, xs, rfl, _⟩ := h
    rfl
  · obtain ⟨h, ot, c, xs, rfl, hld, hot, xne, xnd, xlen, hQ⟩ := h
    refine ⟨_, PSs.nox (pss_cons (ps_set (i := 2) sc_l_day.nd rfl (.inl rfl) (pe_op op_add pe_int (pe_c cD hr (by decide) rfl (pa_cons (pv 0) (pa_cons (pe_callB call_len_seq rfl bl.len boot_len (pa_cons (pv 1) pa_nil)) pa_nil)))))
      (C8.pss_cut (ps_if (PW.pt (pw_and (pt_cmpR op_eq (pv 2) pe_int (nomark _)) (pw_and1 (pt_cmpR op_gt (pe_c cD hr (by decide) rfl (pa_cons (pv 0) (pa_cons pe_int pa_nil))) pe_int (nomark _)))))
        (pss_one (ps_set (i := 2) sc_l_day.nd rfl (.inl rfl) (pe_callB (call_min2 rfl) rfl bmin boot_min (pa_cons pe_int (pa_cons (pe_callB call_len_seq rfl bl.len boot_len (pa_cons (pv 1) pa_nil)) pa_nil))))) pss_nil)
      (pss_cons (ps_par (i := 3) (j := 4) rfl sc_l_day.nd rfl rfl (by decide) rfl rfl (pa_cons (pe_callTy call_list_of rfl bl.list boot_list (pa_cons (pv 1) pa_nil)) (pa_cons (pe_lst pa_nil) pa_nil)) rfl)
      (pss_cons (ps_for PassesOwn.never rfl (pi_range1 rfl bl.range (pa_cons (pv 2) pa_nil)) (pg_name (i := 5) sc_l_day.nd rfl (.inl rfl))
        (pss_one (ps_expr (pe_bm PySem.F.plainAttrs_list PySem.F.slot_list_append PySem.F.type_list_append mt_append (pv 4) (pa_cons (pe_bm PySem.F.plainAttrs_list PySem.F.slot_list_pop PySem.F.type_list_pop mt_popAt (pv 3) (pa_cons (pe_c cD hr (by decide) rfl (pa_cons (pv 0) (pa_cons (pe_callB call_len_seq rfl bl.len boot_len (pa_cons (pv 3) pa_nil)) pa_nil))) pa_nil)) pa_nil)))))
      (pss_one (ps_ret (pv 4))))))), ?_⟩
    have xpos : 0 < xs.length := List.length_pos_iff.mpr xne
    refine ⟨_, rfl, _, rfl, ot, _, rfl, .inr (SqT.of hot), h, c + 19, _, rfl, hld, by rw [List.length_map]; omega, by rw [List.length_map]; omega, fun r1 H1 a1 b1 held1 k1 => ⟨_, _, rfl, rfl, ?_⟩⟩
    rw [List.length_map] at b1
    have hot1 := k1.tupS (K := K) hld hot
    refine ⟨fun σ' H' => ∃ m : Nat, σ' = [some (.ref h), some (.ref ot), some (.int (m : Nat)), none, none, none] ∧ 1 ≤ m ∧ m ≤ xs.length ∧ Held H' h (c + 18) ∧ Kp h H H', ?_, ?_⟩
    · refine ⟨_, rfl, rfl, _, rfl, ?_⟩
      obtain ⟨k, rfl⟩ : ∃ k : Nat, r1 = k := ⟨r1.toNat, by omega⟩
      obtain ⟨m, hm⟩ : ∃ m : Nat, m = 1 + k := ⟨_, rfl⟩
      have hv : (fun i j => V.int (i + j)) 1 (k : Int) = V.int (m : Int) := by
        show V.int (1 + (k : Int)) = V.int (m : Int)
        rw [hm]; congr 1
      rw [hv]
      refine ite2 (fun _ => ?_) (fun _ => iteF ⟨m, rfl, by omega, by omega, held1.weak (by omega), k1⟩)
      refine ⟨_, rfl, h, c + 18, 4, rfl, held1, by decide, by decide, fun r2 H2 a2 b2 held2 k2 => ⟨_, _, rfl, rfl, _, rfl, ?_⟩⟩
      have hot2 := k2.tupS (K := K) held1 hot1
      refine ite2 (fun _ => ?_) (fun _ => ⟨m, rfl, by omega, by omega, held2, k1.trans k2⟩)
      refine ⟨_, rfl, ot, _, rfl, .inr (SqT.of hot2), _, _, rfl, ?_⟩
      rw [List.length_map]
      obtain ⟨m2, hm2, h21, h22⟩ : ∃ m2 : Nat, (if (xs.length : Int) < 2 then (xs.length : Int) else 2) = m2 ∧ 1 ≤ m2 ∧ m2 ≤ xs.length := by
        by_cases z : xs.length < 2
        · exact ⟨xs.length, if_pos (by omega), xpos, Nat.le_refl _⟩
        · exact ⟨2, if_neg (by omega), by decide, by omega⟩
      rw [hm2]
      exact ⟨m2, rfl, h21, h22, held2, k1.trans k2⟩
    rintro σ' H2 ⟨m, rfl, m1, mn, held2, k2⟩
    have hot2 := k2.tupS (K := K) hld hot
    refine ⟨_, rfl, ot, _, rfl, .inr (SqT.of hot2), fun ll fll => ⟨by show 0 ≤ sizeLine; decide, fun o fo => ⟨_, _, rfl, ?_⟩⟩⟩
    have sl := same_new (o := .lst (xs.map V.str)) fll
    have so := same_new (o := .lst []) fo
    have nlo : ll ≠ o := ne_of_none upd_same fo
    have fo2 : H2 o = none := sl.free fo
    have k4 : Kp h H (upd (upd H2 ll (.lst (xs.map V.str))) o (.lst [])) := k2.trans (Kp.same (sl.trans so))
    have fl0 : H ll = none := k2.free held2 fll
    have fo0 : H o = none := k2.free held2 fo2
    refine ⟨_, rfl, _, rfl, by omega, by omega, ?_⟩
    rw [Int.toNat_natCast]
    refine for_range (n := m) (fun i σ H5 => ∃ (L R : List Str) (v5 : Option V), σ = [some (.ref h), some (.ref ot), some (.int (m : Nat)), some (.ref ll), some (.ref o), v5] ∧ H5 ll = some (.lst (L.map V.str)) ∧ H5 o = some (.lst (R.map V.str)) ∧ (R ++ L).Perm xs ∧ R.length = i ∧ Held H5 h (c + 18 - i) ∧ Kp h H H5 ∧ Cel h ll H5 ∧ Cel h o H5)
      ⟨xs, [], _, rfl, by rw [upd_ne nlo]; exact upd_same, upd_same, List.Perm.refl _, rfl, held2.same (sl.trans so), k4, (Cel.of held2 fll).kp (Kp.same (sl.trans so)), (Cel.of held2 fo2).kp (Kp.same (sl.trans so))⟩ ?_ ?_
    · rintro i σ H5 hi ⟨L, R, v5, rfl, hL, hR, pm, rl, held5, k5, cl5, co5⟩
      have lenL : L.length = xs.length - i := by
        have := pm.length_eq
        rw [List.length_append] at this
        omega
      refine ⟨_, rfl, Or.inl ⟨rfl, _, SqL.of hR⟩, _, rfl, Or.inl ⟨rfl, _, SqL.of hL⟩, _, rfl, _, rfl, ll, _, rfl, .inl (SqL.of hL), h, c + 18 - (i + 1), _, rfl, held5.weak (by omega), by rw [List.length_map]; omega, by rw [List.length_map]; omega, fun r H6 a6 b6 held6 k6 => ?_⟩
      rw [List.length_map] at b6
      obtain ⟨q, rfl⟩ := Int.eq_ofNat_of_zero_le a6
      have hq : q < L.length := by omega
      have hL6 := k6.1 _ _ hL cl5.ne
      have hR6 := k6.1 _ _ hR co5.ne
      have cl6 := cl5.kp k6
      have co6 := co5.kp k6
      refine ⟨ll, _, _, q, .str L[q], rfl, rfl, hL6, by omega, by omega, ?_, ?_, ?_⟩
      · rw [List.length_map]
        unfold seqIndex?
        have z : ¬ ((q : Int) < 0) := by omega
        simp [hq, z]
      · rw [List.getElem?_map, List.getElem?_eq_getElem hq]
        rfl
      have hR7 : (upd H6 ll (.lst ((L.map V.str).eraseIdx q))) o = some (.lst (R.map V.str)) := by rw [upd_ne nlo.symm]; exact hR6
      refine ⟨o, _, _, rfl, rfl, hR7, ?_, L.eraseIdx q, R ++ [L[q]], _, rfl, ?_, ?_, ?_, by simp [rl], (held6.put cl6).put (co6.put cl6.ne.symm), ((k5.trans k6).new fl0).new fo0, (cl6.put cl6.ne.symm).put co6.ne.symm, (co6.put cl6.ne.symm).put co6.ne.symm⟩
      · rw [List.length_map, rl]
        exact Nat.lt_of_lt_of_le (by omega : i < 64) (by decide)
      · rw [upd_ne nlo, upd_same, map_eraseIdx']
      · rw [upd_same, List.map_append]
        rfl
      · have e1 : L.Perm (L[q] :: L.eraseIdx q) := perm_eraseIdx hq
        rw [List.append_assoc]
        exact (List.Perm.append_left R e1.symm).trans pm
    · rintro σ H5 ⟨L, R, v5, rfl, hL, hR, pm, rl, held5, k5, cl5, co5⟩
      have nd := pm.nodup_iff.mpr xnd
      refine ⟨_, rfl, hQ o R H5 (held5.weak (by omega)) k5 fo0 hR ⟨fun z => ?_, (List.nodup_append.mp nd).1, fun y hy => pm.mem_iff.mp (List.mem_append_left _ hy), by omega⟩⟩
      rw [z] at rl
      simp at rl
      omega
end
end K32
set_option Elab.async false
set_option linter.all false
set_option maxRecDepth 100000
set_option maxHeartbeats 4000000
/-! ST: len(set(xs)) of unlike texts, xs a list or a tuple. -/
namespace ST
open PySem PySem.Spec PyProof.Rows
theorem not_yet {xs : List Str} (hn : xs.Nodup) {i : Nat} (h : i < xs.length) : ((xs.take i).any (· == xs.getD i Str.empty)) = false := by
  have e : xs.getD i Str.empty = xs[i] := by rw [List.getD_eq_getElem?_getD, List.getElem?_eq_getElem h]; rfl
  rw [e, List.any_eq_false]
  intro x hx z
  obtain ⟨j, hj, ej⟩ := List.getElem_of_mem hx
  have hji : j < i := by rw [List.length_take] at hj; omega
  rw [List.getElem_take] at ej
  exact List.pairwise_iff_getElem.mp hn j i (by omega) h hji (ej.trans (beq_iff_eq.mp z))
theorem one_more (xs : List Str) {i : Nat} (h : i < xs.length) (k : Str) : ((xs.take i).any (· == k) || decide (k = xs.getD i Str.empty)) = (xs.take (i + 1)).any (· == k) := by
  have e : xs.getD i Str.empty = xs[i] := by rw [List.getD_eq_getElem?_getD, List.getElem?_eq_getElem h]; rfl
  rw [e, List.take_add_one, List.getElem?_eq_getElem h, List.any_append]
  congr 1
  show decide (k = xs[i]) = [xs[i]].any (· == k)
  rw [List.any_cons, List.any_nil, Bool.or_false, Bool.eq_iff_iff, decide_eq_true_eq, beq_iff_eq]
  exact ⟨Eq.symm, Eq.symm⟩
section
variable {prog : Program} {w : World} {A : Around} {R : Result → Shared → Prop} {I S : Addr} {fp wr : List Addr} {G : Array GenState → Array GenState → Prop} {n : Nat} {P : Nat → Value → Prop} {St : Nat → Shared → Prop}
/-- the set of the first i of them stands at S -/
abbrev Has (prog : Program) (w : World) (S : Addr) (xs : List Str) (i : Nat) (h : Heap) : Prop := h.SetOf (PySem.strKind prog w) S (fun k => (xs.take i).any (· == k)) i
theorem Has.to {xs : List Str} {i : Nat} {h h' : Heap} (x : Has prog w S xs i h) (k : ∀ o, h.get? S = some o → h'.get? S = some o) : Has prog w S xs i h' := by
  obtain ⟨o, es, ep, t, ho, r⟩ := x
  exact ⟨o, es, ep, t, k o ho, r⟩
theorem walk (W : WalksS prog w A.in1 I fp wr G n P St) (hf : S ∉ fp) {xs : List Str} (hn : xs.Nodup) (hl : xs.length = n) (hb : n + 1 < scanBound) (hv : ∀ i v, P i v → ∃ t, v = .str (xs.getD i Str.empty) t) :
    ∀ (r i : Nat) (s : Shared), i + r = n → St i s → Has prog w S xs i s.heap → (∀ s', Moved (S :: wr) G s s' → Has prog w S xs n s'.heap → R (.ok (.ret .none)) s') →
      codeAny (model prog w) A (.builtin "set.update.loop" ⟨[.ref S, .ref I], []⟩) R s := by
  have nw : S ∉ wr := fun z => hf (W.sub _ z)
  have up : ∀ b ∈ wr, b ∈ S :: wr := fun b z => List.mem_cons_of_mem _ z
  intro r
  induction r with
  | zero =>
    intro i s e st hs fin
    cases (show i = n from e)
    refine codeAny_builtin PyProof.Rows.F.entry_set_update_loop ?_; rw [Around.under_plainId PyProof.Rows.F.plain_set_update_loop _]
    show wpAny _ A.in1 (pyNext (.ref I) >>= _) _ _ s; refine wpAny_bind (W.done s _ _ st fun s' m => ?_)
    exact wpAny_pure (fin s' (m.mono up) (hs.to fun o => m.heap S o nw))
  | succ r ih =>
    intro i s e st hs fin
    have li : i < n := by omega
    refine codeAny_builtin PyProof.Rows.F.entry_set_update_loop ?_; rw [Around.under_plainId PyProof.Rows.F.plain_set_update_loop _]
    show wpAny _ A.in1 (pyNext (.ref I) >>= _) _ _ s; refine wpAny_bind (W.item i s _ _ li st fun v s' pv st' m => ?_)
    obtain ⟨t, rfl⟩ := hv i v pv
    have hs' := hs.to fun o => m.heap S o nw
    show wpAny _ A.in1 (holding [Value.str (xs.getD i Str.empty) t] (setAdd S (.str (xs.getD i Str.empty) t)) >>= _) _ _ s'; refine wpAny_bind (wpAny_holding ?_)
    unfold setAdd
    refine wpAny_holding (wpAny_bind ((PySem.strKind prog w).pyHash (k := xs.getD i Str.empty) (strKind_is _ _ _ _) ?_))
    refine wpAny_setAddHashed_of (knd := PySem.strKind prog w) (s := { s' with toks := s'.toks + 1 }) (strKind_is _ _ _ _) rfl hs' (by omega) fun h' but h2 => ?_
    have hs2 : Has prog w S xs (i + 1) h' := SetOf_congr h2 (fun k => one_more xs (by omega) k) (by
      have z : (xs.take i).any (· == xs.getD i Str.empty) = false := not_yet hn (by omega)
      show (if (xs.take i).any (· == xs.getD i Str.empty) = true then i else i + 1) = i + 1
      rw [z]; rfl)
    refine wpAny_pure ⟨plainId_quiet PyProof.Rows.F.plain_set_update_loop _, ih (i + 1) _ (by omega) (W.frame _ s' _ _ st' (Nat.le_succ _) fun b hb o eo => ?_) hs2 fun s2 m2 h3 => ?_⟩
    · rw [but.2 b (fun z : b = S => hf (z ▸ hb))]
      exact eo
    · refine fin s2 (Moved.trans W.gtrans ((m.mono up).then_heap (Nat.le_succ _) fun b o hb eo => ?_) m2) h3
      rw [but.2 b (fun z : b = S => hb (z ▸ List.mem_cons_self))]
      exact eo
end
/-- a new set -/
abbrev fresh (led : Bool) : Obj := { cls := .type "set", dict := none, data := .set #[] 0 (.fresh 0 0 led) }
section
variable {prog : Program} {w : World} {A : Around} {E : Value → Shared → Prop} {s : Shared}
/-- how the call of set ends -/
abbrev EndOf (prog : Program) (w : World) (xs : List Str) (s : Shared) (s2 : Shared) : Prop := ∃ h' tk, s2 = { s with heap := h', toks := tk } ∧ Has prog w s.heap.objs.size xs xs.length h' ∧ ∀ b o, s.heap.get? b = some o → h'.get? b = some o
set_option maxHeartbeats 8000000 in
/-- set(xs), given what __init__ does with the new set -/
theorem call_by {l : Addr} {xs : List Str} {Q : Value → Shared → Prop}
    (hi : ∀ led : Bool, wpAny (model prog w) A.in1.in1 (Builtin.«set.__init__» ⟨[.ref s.heap.objs.size, .ref l], []⟩)
      (fun fin s' => match fin with | .done f => wants (fun r s₂ => r = .none ∧ EndOf prog w xs s s₂) E (.ok f) s' | .again c' => c'.quiet = true ∧ codeAny (model prog w) A.in1 c' (wants (fun r s₂ => r = .none ∧ EndOf prog w xs s s₂) E) s')
      (fun e s' => wants (fun r s₂ => r = .none ∧ EndOf prog w xs s s₂) E (.error e) s') { s with heap := s.heap.push (fresh led) })
    (h : ∀ s2, EndOf prog w xs s s2 → Q (.ref s.heap.objs.size) s2) : wpAny (model prog w) A (call (.type "set") [.ref l]) Q E s := by
  obtain ⟨c0, t0, mro0⟩ := PySem.F.called_set.mro
  have made0 := PySem.F.called_set.made; have sub0 := PySem.F.called_set.sub
  refine wpAny_call (codeAny_of_tree ?_); show wpAny _ _ (callAny (.type "set") _) _ _ _
  refine wpAny_pure ⟨Code.quiet_builtin _ (by decide +kernel), codeAny_builtin PySem.F.entry_type_call ?_⟩; rw [Around.under_plain (weight_type_call_type "set" [.ref l] []) rfl]
  have nt0 := PySem.F.called_set.notType; have cc0 := PySem.F.called_set.canCreate; have ct0 := PySem.F.typeCall_set_1 (.ref l)
  (repeat (any_goals (first | assumption | wp_step)))
  refine codeAny_mono (code_set_new_1 (.ref l) (E := E) (Q₁ := fun ob s1 => ∃ led : Bool, ob = .ref s.heap.objs.size ∧ s1 = { s with heap := s.heap.push (fresh led) }) fun led => ⟨led, rfl, rfl⟩) fun r s1 hr => ?_
  match r, hr with
  | .error e, hr => exact hr
  | .ok .next, hr => exact hr.elim
  | .ok .brk, hr => exact hr.elim
  | .ok .cont, hr => exact hr.elim
  | .ok (.ret ob), hr =>
    obtain ⟨led, rfl, rfl⟩ := hr
    have at0 : (s.heap.push (fresh led)).get? s.heap.objs.size = some (fresh led) := Heap.get?_push_size _ rfl
    have ty0 : Shared.TypeIs { s with heap := s.heap.push (fresh led) } (.ref s.heap.objs.size) "set" := ⟨_, at0, rfl⟩
    have lo0 := PySem.F.called_set.init.lookup; have bi0 := PySem.F.called_set.init.bind (.ref s.heap.objs.size)
    (repeat (any_goals (first | assumption | wp_step)))
    refine codeAny_mono (codeAny_call_builtin (R := wants (fun r s₂ => r = .none ∧ EndOf prog w xs s s₂) E) PySem.F.called_set.init.plain PySem.F.entry_set_init (check_set_init_1 ty0 (hi led))) fun r2 s2 hr2 => ?_
    match r2, hr2 with
    | .error e, hr2 => exact hr2
    | .ok .next, hr2 => exact hr2.elim
    | .ok .brk, hr2 => exact hr2.elim
    | .ok .cont, hr2 => exact hr2.elim
    | .ok (.ret v), hr2 =>
      obtain ⟨rfl, en⟩ := hr2
      have q := h s2 en
      obtain ⟨h', tk, rfl, h1, h2⟩ := en
      (repeat (any_goals (first | assumption | wp_step)))
set_option maxHeartbeats 8000000 in
theorem call_tup {l : Addr} {items : Array Value} {xs : List Str} {Q : Value → Shared → Prop} (hh : A.handled = none) (hl : s.heap.IsTuple l items) (hi : PyProof.Rows.StrsAre items.toList xs) (hn : xs.Nodup) (hb : xs.length + 1 < scanBound)
    (h : ∀ s2, EndOf prog w xs s s2 → Q (.ref s.heap.objs.size) s2) : wpAny (model prog w) A (call (.type "set") [.ref l]) Q E s := by
  refine call_by (xs := xs) (fun led => ?_) h
  obtain ⟨ol, ho, hc, nl, hd⟩ := hl
  obtain ⟨cl, dc, dt, sl⟩ := ol
  simp only at hc hd
  subst hc; subst hd
  have o1 : (s.heap.push (fresh led)).get? l = some { cls := .type "tuple", dict := dc, data := .seq items nl, slots := sl } := Heap.get?_push_of_some _ ho
  have l1 : (s.heap.push (fresh led)).IsTuple l items := ⟨_, o1, rfl, nl, rfl⟩
  have at0 : (s.heap.push (fresh led)).get? s.heap.objs.size = some (fresh led) := Heap.get?_push_size _ rfl
  have u1 := PySem.F.sub_tuple_set; have u2 := PySem.F.sub_tuple_frozenset; have u3 : (Value.type "tuple" == Value.type "dict") = false := by decide
  unfold Builtin.«set.__init__» noKeywords Builtin.Frozenset.updateFrom; generalize hp : pyIter = pit
  wp_walk
  subst hp
  refine wpAny_pyIter_tuple l1 (wpAny_bind (wpAny_runValue ?_))
  have ls : l < s.heap.objs.size := Heap.lt_size ho
  have h3 : A.in1.in1.in1.handled = none := by simp [hh]
  have ne1 : l ≠ (s.heap.push (fresh led)).objs.size := by rw [Heap.size_push]; exact Nat.ne_of_lt (Nat.lt_succ_of_lt ls)
  have nf : s.heap.objs.size ∉ [(s.heap.push (fresh led)).objs.size, l] := by
    rw [Heap.size_push]
    intro z
    simp only [List.mem_cons, List.not_mem_nil, or_false] at z
    rcases z with z | z
    · exact Nat.ne_of_lt (Nat.lt_succ_self _) z
    · exact Nat.ne_of_gt ls z
  have sz : xs.length = items.size := by rw [← StrsAre.len_eq hi, Array.length_toList]
  refine walk ((Walks.tuple h3 _ l ne1 items).toS) nf hn sz (by omega) (fun i v hv => SS.strs_at hi i v (by rw [Array.getElem?_toList]; exact hv)) items.size 0 _ (by omega) ⟨⟨_, Heap.get?_push_size _ rfl, rfl, rfl⟩, l1.push _⟩ ?_ ?_
  · exact PyProof.Rows.SetOf_congr ((PyProof.Rows.setObjOf_fresh (knd := PySem.strKind prog w) led).setOf (Heap.get?_push_of_some _ at0) (by unfold scanBound; omega)) (fun _ => rfl) rfl
  · intro s' hm hs'
    obtain ⟨h', g', d', tk', os'⟩ := s'
    cases (show g' = s.gens from hm.gens); cases (show d' = s.drawn from hm.drawn); cases (show os' = s.os from hm.os)
    show wpAny _ _ _ _ _ _
    refine wpAny_pure ?_
    show wpAny _ _ (ret Value.none) _ _ _
    refine wpAny_pure ⟨rfl, h', tk', rfl, by rw [sz]; exact hs', fun b o e => ?_⟩
    have lb : b < s.heap.objs.size := Heap.lt_size e
    refine hm.heap b o (fun z => ?_) (Heap.get?_push_of_some _ (Heap.get?_push_of_some _ e))
    rw [Heap.size_push] at z
    simp only [List.mem_cons, List.not_mem_nil, or_false] at z
    rcases z with z | z
    · exact Nat.ne_of_lt lb z
    · exact Nat.ne_of_lt (Nat.lt_succ_of_lt lb) z
set_option maxHeartbeats 8000000 in
theorem call_lst {l : Addr} {items : Array Value} {xs : List Str} {Q : Value → Shared → Prop} (hh : A.handled = none) (hl : s.heap.IsList l items) (hi : PyProof.Rows.StrsAre items.toList xs) (hn : xs.Nodup) (hb : xs.length + 1 < scanBound)
    (h : ∀ s2, EndOf prog w xs s s2 → Q (.ref s.heap.objs.size) s2) : wpAny (model prog w) A (call (.type "set") [.ref l]) Q E s := by
  refine call_by (xs := xs) (fun led => ?_) h
  obtain ⟨ol, ho, hc, nl, hd⟩ := hl
  obtain ⟨cl, dc, dt, sl⟩ := ol
  simp only at hc hd
  subst hc; subst hd
  have o1 : (s.heap.push (fresh led)).get? l = some { cls := .type "list", dict := dc, data := .seq items nl, slots := sl } := Heap.get?_push_of_some _ ho
  have l1 : (s.heap.push (fresh led)).IsList l items := ⟨_, o1, rfl, nl, rfl⟩
  have at0 : (s.heap.push (fresh led)).get? s.heap.objs.size = some (fresh led) := Heap.get?_push_size _ rfl
  have u1 := PySem.F.sub_list_set; have u2 := PySem.F.sub_list_frozenset; have u3 : (Value.type "list" == Value.type "dict") = false := by decide
  unfold Builtin.«set.__init__» noKeywords Builtin.Frozenset.updateFrom; generalize hp : pyIter = pit
  wp_walk
  subst hp
  refine wpAny_pyIter_list l1 (wpAny_bind (wpAny_runValue ?_))
  have ls : l < s.heap.objs.size := Heap.lt_size ho
  have h3 : A.in1.in1.in1.handled = none := by simp [hh]
  have ne1 : l ≠ (s.heap.push (fresh led)).objs.size := by rw [Heap.size_push]; exact Nat.ne_of_lt (Nat.lt_succ_of_lt ls)
  have nf : s.heap.objs.size ∉ [(s.heap.push (fresh led)).objs.size, l] := by
    rw [Heap.size_push]
    intro z
    simp only [List.mem_cons, List.not_mem_nil, or_false] at z
    rcases z with z | z
    · exact Nat.ne_of_lt (Nat.lt_succ_self _) z
    · exact Nat.ne_of_gt ls z
  have sz : xs.length = items.size := by rw [← StrsAre.len_eq hi, Array.length_toList]
  refine walk ((Walks.list h3 _ l ne1 items).toS) nf hn sz (by omega) (fun i v hv => SS.strs_at hi i v (by rw [Array.getElem?_toList]; exact hv)) items.size 0 _ (by omega) ⟨⟨_, Heap.get?_push_size _ rfl, rfl, rfl⟩, l1.push _⟩ ?_ ?_
  · exact PyProof.Rows.SetOf_congr ((PyProof.Rows.setObjOf_fresh (knd := PySem.strKind prog w) led).setOf (Heap.get?_push_of_some _ at0) (by unfold scanBound; omega)) (fun _ => rfl) rfl
  · intro s' hm hs'
    obtain ⟨h', g', d', tk', os'⟩ := s'
    cases (show g' = s.gens from hm.gens); cases (show d' = s.drawn from hm.drawn); cases (show os' = s.os from hm.os)
    show wpAny _ _ _ _ _ _
    refine wpAny_pure ?_
    show wpAny _ _ (ret Value.none) _ _ _
    refine wpAny_pure ⟨rfl, h', tk', rfl, by rw [sz]; exact hs', fun b o e => ?_⟩
    have lb : b < s.heap.objs.size := Heap.lt_size e
    refine hm.heap b o (fun z => ?_) (Heap.get?_push_of_some _ (Heap.get?_push_of_some _ e))
    rw [Heap.size_push] at z
    simp only [List.mem_cons, List.not_mem_nil, or_false] at z
    rcases z with z | z
    · exact Nat.ne_of_lt lb z
    · exact Nat.ne_of_lt (Nat.lt_succ_of_lt lb) z
end
end ST
namespace ST
open PySem PySem.Spec PyProof.Rows L2
section
variable {X : Cx}
/-- len(set(xs)): unlike texts -/
def tLenSet (K : PySem.W.Frag) (ta : TE) : TE := fun σ H Q => ta σ H fun x H1 => ∃ (l : Addr) (xs : List Str), x = .ref l ∧ (SqL K H1 l (xs.map V.str) ∨ SqT K H1 l (xs.map V.str)) ∧ xs.Nodup ∧ xs.length < 64 ∧ Q (.int xs.length) H1
theorem pe_lenSet {a : Expr} {ta : TE} {p p2 q pos : Pos} (hc : X.calm = true) (hg : Gl X "len") (hm : X.mg "len" = none) (hg2 : Gl X "set") (hm2 : X.mg "set" = none) (ha : PE X a ta)
    (na : starEach [a] X.env = (false, eval a X.env) :: starEach [] X.env := by rfl) : PE X (.Call (.Name "len" p) [.Call (.Name "set" p2) [a] [] q] [] pos) (tLenSet X.K ta) := by
  refine ⟨fun pins s σ H Q I h => Call_ (ld_blt I hg hm boot_len (PyProof.Rows.callWith_builtin1 (PyProof.Rows.args_cons (Call_ (ld_blt I hg2 hm2 boot_set ?_)) rfl) rfl rfl))⟩
  refine PyProof.Rows.callWith_type1 (PyProof.Rows.args_cons (thn (ha.run pins s σ H _ I h) fun v s1 ⟨x, H1, I1, r1, z1⟩ => PyProof.Rows.args_nil ?_) na) na rfl
  obtain ⟨l, xs, rfl, hs, hn, h6, q1⟩ := z1
  cases r1
  have sb : xs.length + 1 < scanBound := by unfold scanBound; omega
  have fin : ∀ s2, EndOf X.prog X.w xs s1 s2 → wpAny (model X.prog X.w) X.A (spliced (backTo pos (starEach [] X.env))) (fun vs s₂ => wpAny (model X.prog X.w) X.A (call (.builtin "len") (Value.ref s1.heap.objs.size :: vs)) (EP X pins σ Q) X.xe s₂) X.xe s2 := by
    rintro _ ⟨h', tk, rfl, hS, hk⟩
    refine PyProof.Rows.args_nil ?_
    obtain ⟨o, es, ep, t, ho, ex, hd, _, _, _, hf, hn⟩ := hS
    have I2 : Inv X pins σ H1 { s1 with heap := h', toks := tk } := I1.kept hk
    exact call_len_set ho ex hd hf (by rw [hn]; omega) ⟨.int xs.length, H1, I2.tok _, ⟨_, by rw [hn]⟩, q1⟩
  rcases hs with hs | hs
  · obtain ⟨its, r, pl, hz⟩ := I1.list hs
    exact call_lst (I1.ok.hd hc) pl.isList (by simpa using strsAre_of r) hn sb fin
  · obtain ⟨its, r, pl, hz⟩ := I1.tuple hs
    exact call_tup (I1.ok.hd hc) pl (by simpa using strsAre_of r) hn sb fin
end
end ST
set_option Elab.async false
set_option linter.all false
set_option maxRecDepth 100000
set_option maxHeartbeats 4000000
namespace K32
open PySem PySem.Spec PyProof.Rows L2
open C8 (Cal Mak Met pe_c pe_mk pe_mt pe_mt0)
open SX (S)
/-- more of the module's names -/
structure Bl2 (mg : Str → Option Value) : Prop where
  str : mg "str" = none
  all : mg "all" = none
  tup : mg "tuple" = none
  set : mg "set" = none
  zip : mg "zip" = none
  min : mg "min" = none
  enum : mg "enumerate" = none
section
variable {P : Program} {w : World} {K : PySem.W.Frag} {mg : Str → Option Value} {base : Heap} {f C : Addr} {fd : FuncData}
def spBetween : Sp := fun vs H Q _ => ∃ n lo hi : Int, vs = [.int n, .int lo, .int hi] ∧ Q (.bl (decide (lo ≤ n ∧ n ≤ hi))) H
theorem ok_between (F : Dn K d_is_between f fd) (cW : CalW P w K mg base) : FnOk P w K mg base CX0 2 f fd ["thing", "low", "high"] spBetween := by
  refine F.ok sc_is_between (fun vs H Q E h => ?_) (fun cdv A outer s H vs Q E hr h => ?_)
  · obtain ⟨n, lo, hi, rfl, _⟩ := h
    rfl
  · obtain ⟨n, lo, hi, rfl, hQ⟩ := h
    refine ⟨_, PSs.nox (pss_one (ps_ret (pe_and (pe_c cW hr (by decide) rfl (pa_cons (pv 0) pa_nil)) (pe_one (pe_chain op_le op_le (pv 1) (pv 0) (pv 2)))))), ?_⟩
    refine ⟨_, rfl, n, rfl, true, rfl, iteT ?_⟩
    refine ⟨_, rfl, _, rfl, _, _, rfl, rfl, _, rfl, ?_⟩
    refine ite2 (fun h1 => ?_) (fun h1 => ?_)
    · have h1' : lo ≤ n := of_decide_eq_true h1
      refine ⟨_, rfl, _, _, rfl, rfl, ?_⟩
      have e : decide (n ≤ hi) = decide (lo ≤ n ∧ n ≤ hi) := decide_eq_decide.mpr ⟨fun z => ⟨h1', z⟩, fun z => z.2⟩
      show Q (.bl (decide (n ≤ hi))) H
      rw [e]
      exact hQ
    · have h1' : ¬ lo ≤ n := fun z => h1 (decide_eq_true z)
      have e : decide (lo ≤ n ∧ n ≤ hi) = false := decide_eq_false fun z => h1' z.1
      rw [e] at hQ
      exact hQ
abbrev CalB (P : Program) (w : World) (K : PySem.W.Frag) (mg : Str → Option Value) (base : Heap) : Prop := Cal P w K mg base 2 "is_between" spBetween []
/-- what is a name -/
def spName : Sp := fun vs H Q _ => ∃ l : List Nat, vs = [.str (S l)] ∧ NM.ok l ∧ ∀ H', Same H H' → Q (.bl true) H'
theorem ok_name (F : Dn K d_is_name f fd) (b : Bl mg) (b2 : Bl2 mg) (g : ∃ t, mg "LONGEST_NAME" = some (.int 8 t)) : FnOk P w K mg base CX0 1 f fd ["thing"] spName := by
  refine F.ok sc_is_name (fun vs H Q E h => ?_) (fun cdv A outer s H vs Q E hr h => ?_)
  · obtain ⟨l, rfl, _⟩ := h
    rfl
  · obtain ⟨l, rfl, ⟨l1, l8, lc⟩, hQ⟩ := h
    obtain ⟨t, g⟩ := g
    have hz : (S l).length ≤ sizeLine := by rw [SX.S_len]; exact Nat.le_trans l8 (by decide)
    refine ⟨_, PSs.nox (pss_cons (ps_if (PW.pt (pw_or (pt_not (pt_val (pe_callB call_isi rfl b.isi boot_isinstance (pa_cons (pv 0) (pa_cons (pe_bltn (v := .ty "str") rfl b2.str boot_str rfl) pa_nil)))))
        (pw_or1 (pt_not (pt_chain op_le op_le pe_int (pe_callB call_len_str rfl b.len boot_len (pa_cons (pv 0) pa_nil)) (pe_glob (v := .int 8) rfl g ⟨t, rfl⟩)))))) pss_never pss_nil)
      (pss_one (ps_ret (pe_callB (cr_all rfl) rfl b2.all boot_all (pa_cons (pe_lc (own := [("sign", 1)]) (g := gName 1) (tt := tYes) rfl sc_is_name.nd (pi_str (pv 0)) (blkOk_by (N := N_is_name) (sc := defScope s_is_name) (by decide +kernel))
          (fun _ _ _ _ _ => pg_name (i := 1) sc_is_name.nd rfl (Or.inl rfl)) (fun _ _ _ _ _ => pts_nil) (fun _ _ _ _ _ => pe_chain op_le_str op_le_str pe_str (pv 1) pe_str)) pa_nil))))), ?_⟩
    refine ⟨_, rfl, _, _, _, _, true, rfl, ClsV.ty _, TyX.base (TyOf.str _), kit_ty (by decide +kernel), true, rfl, iteF ?_⟩
    refine ⟨_, rfl, _, rfl, hz, _, _, rfl, rfl, _, rfl, ?_⟩
    rw [SX.S_len]
    refine ite2 (fun _ => ?_) (fun z => absurd (decide_eq_true (by omega)) z)
    refine ⟨_, _, rfl, rfl, _, rfl, ?_⟩
    have e8 : decide ((l.length : Int) ≤ 8) = true := decide_eq_true (by omega)
    rw [e8]
    refine iteF ?_
    refine ⟨_, rfl, _, rfl, fun D hD => lc_it walk_str (fun i H2 => H2 D = some (.lst ((List.replicate i true).map V.bl)) ∧ Same H H2) ⟨upd_same, same_new hD⟩ (fun _ _ _ _ => trivial) ?_ ?_⟩
    · rintro i x H2 H3 hi ⟨hd, sm⟩ ⟨rfl, c', hc', rfl⟩
      have hi' : i < l.length := by simpa [S] using hi
      have hmem : c' ∈ l := by
        have : l[i]? = some c' := by simpa [S] using hc'
        exact List.mem_of_getElem? this
      have hcc := lc c' hmem
      refine ⟨rfl, ?_⟩
      refine ⟨_, rfl, _, _, rfl, rfl, _, rfl, ?_⟩
      have ea : (!decide ((⟨#[c']⟩ : Str).cps.toList < (Str.ofString "a").cps.toList)) = true := by
        have e1 : (Str.ofString "a").cps.toList = [97] := by decide +kernel
        rw [e1]
        have : ¬ (([c'] : List Nat) < [97]) := by
          rw [List.cons_lt_cons_iff]
          rintro (z | ⟨z, z'⟩)
          · omega
          · exact absurd z' (by simp)
        simp [this]
      have ez : (!decide ((Str.ofString "z").cps.toList < (⟨#[c']⟩ : Str).cps.toList)) = true := by
        have e1 : (Str.ofString "z").cps.toList = [122] := by decide +kernel
        rw [e1]
        have : ¬ (([122] : List Nat) < [c']) := by
          rw [List.cons_lt_cons_iff]
          rintro (z | ⟨z, z'⟩)
          · omega
          · exact absurd z' (by simp)
        simp [this]
      rw [ea]
      refine iteT ⟨_, _, rfl, rfl, ?_⟩
      rw [ez]
      refine ⟨_, hd, ?_, ?_, ?_⟩
      · rw [List.length_map, List.length_replicate]
        exact Nat.lt_of_lt_of_le (by omega : i < 64) (by decide)
      · rw [upd_same]
        simp [List.replicate_succ']
      · intro a o e
        rw [upd_ne (ne_of_none e hD)]
        exact sm a o e
    · rintro H2 ⟨hd, sm⟩
      refine ⟨D, _, rfl, SqL.of hd, ?_⟩
      have e3 : (List.replicate (S l).cps.size true).all id = true := by simp
      rw [e3]
      exact hQ H2 sm

/-- an order: one to eight unlike names -/
structure Ord (xs : List Str) : Prop where
  ne : xs ≠ []
  l8 : xs.length ≤ 8
  nd : xs.Nodup
  nm : ∀ x ∈ xs, ∃ l, x = S l ∧ NM.ok l
abbrev CalN (P : Program) (w : World) (K : PySem.W.Frag) (mg : Str → Option Value) (base : Heap) : Prop := Cal P w K mg base 1 "is_name" spName []
def spOrder : Sp := fun vs H Q _ => ∃ (ot : Addr) (xs : List Str), vs = [.ref ot] ∧ H ot = some (.tup (xs.map V.str)) ∧ Ord xs ∧ ∀ H', Same H H' → Q (.bl true) H'
theorem ok_order (F : Dn K d_is_order f fd) (b : Bl mg) (b2 : Bl2 mg) (g : ∃ t, mg "MOST_NAMES" = some (.int 8 t)) (cN : CalN P w K mg base) : FnOk P w K mg base CX0 2 f fd ["thing"] spOrder := by
  refine F.ok sc_is_order (fun vs H Q E h => ?_) (fun cdv A outer s H vs Q E hr h => ?_)
  · obtain ⟨ot, xs, rfl, _⟩ := h
    rfl
  · obtain ⟨ot, xs, rfl, hot, ox, hQ⟩ := h
    obtain ⟨t, g⟩ := g
    have xpos : 0 < xs.length := List.length_pos_iff.mpr ox.ne
    have l8 := ox.l8
    refine ⟨_, PSs.nox (pss_cons (ps_if (PW.pt (pw_or (pt_not (pt_val (pe_callB call_isi rfl b.isi boot_isinstance (pa_cons (pv 0) (pa_cons (pe_bltn (v := .ty "tuple") rfl b2.tup boot_tuple rfl) pa_nil)))))
        (pw_or1 (pt_not (pt_chain op_le op_le pe_int (pe_callB call_len_seq rfl b.len boot_len (pa_cons (pv 0) pa_nil)) (pe_glob (v := .int 8) rfl g ⟨t, rfl⟩)))))) pss_never pss_nil)
      (pss_one (ps_ret (pe_and (pe_callB (cr_all rfl) rfl b2.all boot_all (pa_cons (pe_lc (own := [("name", 1)]) (g := gName 1) (tt := tYes) rfl sc_is_order.nd (pi_tup (pv 0)) (blkOk_by (N := N_is_order) (sc := defScope s_is_order) (by decide +kernel))
          (fun _ _ _ _ _ => pg_name (i := 1) sc_is_order.nd rfl (Or.inl rfl)) (fun _ _ _ _ _ => pts_nil) (fun _ _ _ _ _ => pe_c cN hr (by decide) rfl (pa_cons (pv 1) pa_nil))) pa_nil))
        (pe_one (pe_cmpR op_eq (ST.pe_lenSet rfl rfl b.len rfl b2.set (pv 0)) (pe_callB call_len_seq rfl b.len boot_len (pa_cons (pv 0) pa_nil)) (nomark _))))))), ?_⟩
    refine ⟨_, rfl, _, _, _, _, true, rfl, ClsV.ty _, TyX.base (TyOf.tup hot), kit_ty (by decide +kernel), true, rfl, iteF ?_⟩
    refine ⟨_, rfl, ot, _, rfl, .inr (SqT.of hot), _, _, rfl, rfl, _, rfl, ?_⟩
    rw [List.length_map]
    refine ite2 (fun _ => ?_) (fun z => absurd (decide_eq_true (by omega)) z)
    refine ⟨_, _, rfl, rfl, _, rfl, ?_⟩
    have e8 : decide ((xs.length : Int) ≤ 8) = true := decide_eq_true (by omega)
    rw [e8]
    refine iteF ?_
    refine ⟨_, rfl, ot, rfl, ⟨_, SqT.of hot⟩, fun D hD => lc_tup (fun i H2 => H2 D = some (.lst ((List.replicate i true).map V.bl)) ∧ Same H H2) ⟨upd_same, same_new hD⟩ (fun _ H2 _ z => SqT.of (z.2 _ _ hot)) ?_ ?_⟩
    · rintro i x H2 hx ⟨hd, sm⟩
      have hi' : i < xs.length := by
        have := (List.getElem?_eq_some_iff.mp hx).1
        simpa using this
      rw [List.getElem?_map] at hx
      obtain ⟨y, hy, rfl⟩ := Option.map_eq_some_iff.mp hx
      obtain ⟨l, rfl, hl⟩ := ox.nm y (List.mem_of_getElem? hy)
      refine ⟨rfl, ?_⟩
      refine ⟨_, rfl, l, rfl, hl, fun H3 s3 => ⟨_, s3 _ _ hd, ?_, ?_, ?_⟩⟩
      · rw [List.length_map, List.length_replicate]
        exact Nat.lt_of_lt_of_le (by omega : i < 64) (by decide)
      · rw [upd_same]
        simp [List.replicate_succ']
      · intro a o e
        rw [upd_ne (ne_of_none e hD)]
        exact s3 a o (sm a o e)
    · rintro H2 ⟨hd, sm⟩
      refine ⟨D, _, rfl, SqL.of hd, true, ?_, ?_⟩
      · have e3 : (List.replicate (xs.map V.str).length true).all id = true := by simp
        rw [e3]
      refine iteT ?_
      refine ⟨_, rfl, ot, xs, rfl, .inr (SqT.of (sm _ _ hot)), ox.nd, by omega, _, rfl, ot, _, rfl, .inr (SqT.of (sm _ _ hot)), ?_⟩
      rw [List.length_map]
      exact ⟨rfl, by simpa using hQ H2 sm⟩
/-- a rule by the least credit -/
def LeastR (H : Hp) (r ot : Addr) (xs : List Str) (g : Int) : Prop := H r = some (.tup [.str "least", .ref ot, .int g]) ∧ H ot = some (.tup (xs.map V.str)) ∧ Ord xs ∧ 0 ≤ g ∧ g ≤ 1000
theorem LeastR.ext {H H' : Hp} {r ot : Addr} {xs : List Str} {g : Int} (h : LeastR H r ot xs g) (e : ∀ a ys, H a = some (.tup ys) → H' a = some (.tup ys)) : LeastR H' r ot xs g := ⟨e _ _ h.1, e _ _ h.2.1, h.2.2⟩
/-- the word of a rule -/
inductive Word where
  | least (g : Int)
  | longest
  | rounds
def Word.vs (ot : Addr) : Word → List V
  | .least g => [.str "least", .ref ot, .int g]
  | .longest => [.str "longest", .ref ot]
  | .rounds => [.str "rounds", .ref ot]
def Word.ok : Word → Prop
  | .least g => 0 ≤ g ∧ g ≤ 1000
  | _ => True
theorem Word.at1 (ot : Addr) (w : Word) : atI (w.vs ot) 1 = some (.ref ot) := by cases w <;> rfl
theorem l_least : decide (V.str "longest" = V.str "least") = false := by decide +kernel
theorem l_rounds : decide (V.str "longest" = V.str "rounds") = false := by decide +kernel
theorem e_rounds : decide (V.str "least" = V.str "rounds") = false := by decide +kernel
theorem r_least : decide (V.str "rounds" = V.str "least") = false := by decide +kernel
theorem r_longest : decide (V.str "rounds" = V.str "longest") = false := by decide +kernel
/-- a rule of any word -/
structure Rule3 (H : Hp) (r ot : Addr) (xs : List Str) (w : Word) : Prop where
  hr : H r = some (.tup (w.vs ot))
  ho : H ot = some (.tup (xs.map V.str))
  ox : Ord xs
  ok : w.ok
theorem Rule3.ext {H H' : Hp} {r ot : Addr} {xs : List Str} {w : Word} (h : Rule3 H r ot xs w) (e : ∀ a ys, H a = some (.tup ys) → H' a = some (.tup ys)) : Rule3 H' r ot xs w := ⟨e _ _ h.hr, e _ _ h.ho, h.ox, h.ok⟩
theorem Rule3.same {H H' : Hp} {r ot : Addr} {xs : List Str} {w : Word} (h : Rule3 H r ot xs w) (e : Same H H') : Rule3 H' r ot xs w := h.ext fun a ys z => e _ _ z
theorem Rule3.least {H : Hp} {r ot : Addr} {xs : List Str} {g : Int} (h : Rule3 H r ot xs (.least g)) : LeastR H r ot xs g := ⟨h.hr, h.ho, h.ox, h.ok.1, h.ok.2⟩
def spRule : Sp := fun vs H Q _ => ∃ (r ot : Addr) (xs : List Str) (w : Word), vs = [.ref r] ∧ Rule3 H r ot xs w ∧ ∀ H', Same H H' → Q (.bl true) H'
theorem ok_or {k : Nat} {ps : List Str} {sp1 sp2 : Sp} (F1 : FnOk P w K mg base CX0 k f fd ps sp1) (F2 : FnOk P w K mg base CX0 k f fd ps sp2) : FnOk P w K mg base CX0 k f fd ps (fun vs H Q E => sp1 vs H Q E ∨ sp2 vs H Q E) :=
  ⟨fun vs H Q E h => h.elim (F1.len vs H Q E) (F2.len vs H Q E), fun A outer s H args us vs Q E hr he hb hv h => h.elim (F1.run A outer s H args us vs Q E hr he hb hv) (F2.run A outer s H args us vs Q E hr he hb hv)⟩
def spRuleW (wd : Str) : Sp := fun vs H Q _ => ∃ (r ot : Addr) (xs : List Str), vs = [.ref r] ∧ H r = some (.tup [.str wd, .ref ot]) ∧ H ot = some (.tup (xs.map V.str)) ∧ Ord xs ∧ ∀ H', Same H H' → Q (.bl true) H'
theorem ok_ruleW {wd : Str} (nl : decide (V.str wd = V.str "least") = false) (iv : inV (.str wd) [.str "longest", .str "rounds"] = true) (F : Dn K d_is_rule f fd) (b : Bl mg) (b2 : Bl2 mg) (cO : Cal P w K mg base 2 "is_order" spOrder []) : FnOk P w K mg base CX0 3 f fd ["thing"] (spRuleW wd) := by
  refine F.ok sc_is_rule (fun vs H Q E h => ?_) (fun cdv A outer s H vs Q E hr h => ?_)
  · obtain ⟨r, ot, xs, rfl, _⟩ := h
    rfl
  · obtain ⟨r, ot, xs, rfl, hrr, hot, ox, hQ⟩ := h
    refine ⟨_, PSs.nox (pss_cons (ps_if (PW.pt (pw_or (pt_not (pt_val (pe_callB call_isi rfl b.isi boot_isinstance (pa_cons (pv 0) (pa_cons (pe_bltn (v := .ty "tuple") rfl b2.tup boot_tuple rfl) pa_nil)))))
        (pw_or (pt_cmpR op_lt (pe_callB call_len_seq rfl b.len boot_len (pa_cons (pv 0) pa_nil)) pe_int (nomark _))
        (pw_or1 (pt_not (pt_val (pe_c cO hr (by decide) rfl (pa_cons (pe_ix ix_tup (pv 0) pe_int (fun _ _ => rfl)) pa_nil)))))))) pss_never pss_nil)
      (pss_cons (ps_if (pt_cmpR op_eq (pe_ix ix_tup (pv 0) pe_int (fun _ _ => rfl)) pe_str (nomark _)) pss_never pss_nil)
      (pss_one (ps_ret (pe_and (pe_cmpR op_eq (pe_callB call_len_seq rfl b.len boot_len (pa_cons (pv 0) pa_nil)) pe_int (nomark _))
        (pe_one (pe_cmpR op_in_seq (pe_ix ix_tup (pv 0) pe_int (fun _ _ => rfl)) (pe_tup (pa_cons pe_str (pa_cons pe_str pa_nil))) (by rfl)))))))), ?_⟩
    refine ⟨_, rfl, _, _, _, _, true, rfl, ClsV.ty _, TyX.base (TyOf.tup hrr), kit_ty (by decide +kernel), true, rfl, iteF ?_⟩
    refine ⟨_, rfl, r, _, rfl, .inr (SqT.of hrr), _, _, rfl, rfl, _, rfl, iteF ?_⟩
    refine ⟨_, rfl, r, _, _, _, rfl, rfl, SqT.of hrr, rfl, ot, xs, rfl, hot, ox, fun H2 s2 => ⟨true, rfl, iteF ?_⟩⟩
    have hrr2 := s2 _ _ hrr
    refine ⟨_, rfl, r, _, _, _, rfl, rfl, SqT.of hrr2, rfl, rfl, _, rfl, ?_⟩
    rw [nl]
    refine iteF ?_
    refine ⟨_, rfl, r, _, rfl, .inr (SqT.of hrr2), rfl, true, rfl, iteT ?_⟩
    refine ⟨_, rfl, r, _, _, _, rfl, rfl, SqT.of hrr2, rfl, by show 2 ≤ sizeLine; decide, fun t ft => ?_⟩
    refine ⟨t, _, rfl, .inr (SqT.of upd_same), rfl, rfl, ?_⟩
    simp only [Bool.false_eq_true, if_false]
    rw [iv]
    exact hQ _ (s2.trans (same_new ft))
def spRuleL : Sp := fun vs H Q _ => ∃ (r ot : Addr) (xs : List Str) (g : Int), vs = [.ref r] ∧ LeastR H r ot xs g ∧ ∀ H', Same H H' → Q (.bl true) H'
theorem ok_ruleL (F : Dn K d_is_rule f fd) (b : Bl mg) (b2 : Bl2 mg) (g : ∃ t, mg "MOST_GRAIN" = some (.int 1000 t)) (cO : Cal P w K mg base 2 "is_order" spOrder []) (cB : CalB P w K mg base) : FnOk P w K mg base CX0 3 f fd ["thing"] spRuleL := by
  refine F.ok sc_is_rule (fun vs H Q E h => ?_) (fun cdv A outer s H vs Q E hr h => ?_)
  · obtain ⟨r, ot, xs, gr, rfl, _⟩ := h
    rfl
  · obtain ⟨r, ot, xs, gr, rfl, ⟨hrr, hot, ox, g0, g1⟩, hQ⟩ := h
    obtain ⟨t, g⟩ := g
    refine ⟨_, PSs.nox (pss_cons (ps_if (PW.pt (pw_or (pt_not (pt_val (pe_callB call_isi rfl b.isi boot_isinstance (pa_cons (pv 0) (pa_cons (pe_bltn (v := .ty "tuple") rfl b2.tup boot_tuple rfl) pa_nil)))))
      (pw_or (pt_cmpR op_lt (pe_callB call_len_seq rfl b.len boot_len (pa_cons (pv 0) pa_nil)) pe_int (nomark _))
      (pw_or1 (pt_not (pt_val (pe_c cO hr (by decide) rfl (pa_cons (pe_ix ix_tup (pv 0) pe_int (fun _ _ => rfl)) pa_nil)))))))) pss_never pss_nil)
    (pss_cons (ps_if (pt_cmpR op_eq (pe_ix ix_tup (pv 0) pe_int (fun _ _ => rfl)) pe_str (nomark _)) (pss_one (ps_ret (pe_and (pe_cmpR op_eq (pe_callB call_len_seq rfl b.len boot_len (pa_cons (pv 0) pa_nil)) pe_int (nomark _))
      (pe_one (pe_c cB hr (by decide) rfl (pa_cons (pe_ix ix_tup (pv 0) pe_int (fun _ _ => rfl)) (pa_cons pe_int (pa_cons (pe_glob (v := .int 1000) rfl g ⟨t, rfl⟩) pa_nil)))))))) pss_nil) pss_never)), ?_⟩
    refine ⟨_, rfl, _, _, _, _, true, rfl, ClsV.ty _, TyX.base (TyOf.tup hrr), kit_ty (by decide +kernel), true, rfl, iteF ?_⟩
    refine ⟨_, rfl, r, _, rfl, .inr (SqT.of hrr), _, _, rfl, rfl, _, rfl, iteF ?_⟩
    refine ⟨_, rfl, r, _, _, _, rfl, rfl, SqT.of hrr, rfl, ot, xs, rfl, hot, ox, fun H2 s2 => ⟨true, rfl, iteF ?_⟩⟩
    have hrr2 := s2 _ _ hrr
    refine ⟨_, rfl, r, _, _, _, rfl, rfl, SqT.of hrr2, rfl, rfl, _, rfl, iteT ?_⟩
    refine ⟨_, rfl, r, _, rfl, .inr (SqT.of hrr2), rfl, true, rfl, iteT ?_⟩
    refine ⟨_, rfl, r, _, _, _, rfl, rfl, SqT.of hrr2, rfl, gr, 0, 1000, rfl, ?_⟩
    rw [decide_eq_true (show 0 ≤ gr ∧ gr ≤ 1000 from ⟨g0, g1⟩)]
    exact hQ H2 s2
theorem ok_rule (F : Dn K d_is_rule f fd) (b : Bl mg) (b2 : Bl2 mg) (g : ∃ t, mg "MOST_GRAIN" = some (.int 1000 t)) (cO : Cal P w K mg base 2 "is_order" spOrder []) (cB : CalB P w K mg base) : FnOk P w K mg base CX0 3 f fd ["thing"] spRule :=
  (ok_or (ok_ruleL F b b2 g cO cB) (ok_or (ok_ruleW l_least (by decide +kernel) F b b2 cO) (ok_ruleW r_least (by decide +kernel) F b b2 cO))).imp fun vs H Q E h => by
    obtain ⟨r, ot, xs, wd, e, x, hQ⟩ := h
    cases wd with
    | least g => exact .inl ⟨r, ot, xs, g, e, x.least, hQ⟩
    | longest => exact .inr (.inl ⟨r, ot, xs, e, x.hr, x.ho, x.ox, hQ⟩)
    | rounds => exact .inr (.inr ⟨r, ot, xs, e, x.hr, x.ho, x.ox, hQ⟩)
end
end K32
set_option Elab.async false
set_option linter.all false
set_option maxRecDepth 100000
set_option maxHeartbeats 4000000
/-! LK: min(xs, key=lambda a: d[a]), xs a tuple of texts, d a dict of whole numbers that the lambda captures. -/
namespace LK
open PySem PySem.Spec PyProof.Rows L2
open LamX (Tabs ExtN TabB lam_make2)
/-- one parameter a, one captured name d -/
structure Lam1 (scope : Scope) (a d : Str) : Prop where
  kind : scope.kind = .function
  co : scope.isCoroutine = false
  gen : scope.isGenerator = false
  cell : ∀ y ∈ scope.names, y.2 ≠ .cell
  loc : scope.names.lookup a = some .local
  fre : scope.names.lookup d = some .free
  da : (a == ("__debug__" : Str)) = false
  dd : (d == ("__debug__" : Str)) = false
  dc : (d == ("__classdict__" : Str)) = false
section
variable {prog : Program} {w : World} {A : Around} {E : Value → Shared → Prop} {s : Shared}
/-- the lambda called with a text -/
theorem lam_get {f c' cc dd : Addr} {qual a d key : Str} {params : Arguments} {scope : Scope} {cl : List (Str × Addr)} {pm ctv : Value} {p1 p2 p3 : Pos} {vs : List (Key × Value)} {u : Value} {tk : Tok} {Q : Value → Shared → Prop} (L : Lam1 scope a d)
    (hdep : A.depth < recursionLimit) (hlim : s.heap.NoLimit) (hf : s.heap.get? f = some (PySem.W.kla_obj "<lambda>" qual params (.Subscript (.Name d p1) (.Name a p2) p3) scope cl pm c' ctv))
    (hc : ∃ (oc : Obj) (ws : Array Value) (t : Tok), s.heap.get? c' = some oc ∧ oc.data = .fields ws ∧ ws[1]? = some (.str qual t)) (hcl : cl.lookup d = some cc) (hcc : s.heap.IsCell cc (some (.ref dd)))
    (hD : s.heap.DictOf (mixKind prog w) dd vs) (hv : valueAt vs (Sum.inr key) = some u) (hs : NoSl (.Name a p2))
    (hb : bindArgs (PySem.W.kla_fn "<lambda>" qual params (.Subscript (.Name d p1) (.Name a p2) p3) scope cl pm (.ref c') ctv) ⟨[.str key tk], []⟩ = pure [(a, .str key tk)])
    (h : ∀ h' tk', (∀ b o, s.heap.get? b = some o → h'.get? b = some o) → s.toks ≤ tk' → Q u { s with heap := h', toks := tk' }) : wpAny (model prog w) A (call (.ref f) [.str key tk]) Q E s := by
  obtain ⟨oc, ws, t, hoc, hdc, hq⟩ := hc
  refine wpAny_call (PySem.W.kla_callFunE hdep hf rfl L.co L.gen rfl ⟨c', oc, ws, t, rfl, hoc, hdc, hq⟩ ?_)
  rw [hb]
  refine wpAny_pure (wpAny_newFunctionEnv L.cell (fun y hy => ?_) (fun h₁ hns hsb => ⟨hlim.fresh _ hsb, ?_⟩) L.kind)
  · cases List.mem_singleton.mp hy
    exact L.loc
  have kp : ∀ b o, s.heap.get? b = some o → h₁.get? b = some o := fun b o e => hsb.extBut b o (Nat.ne_of_lt (Heap.lt_size e)) (Heap.get?_push_of_some _ e)
  have D1 : h₁.DictOf (mixKind prog w) dd vs := by
    obtain ⟨o, r⟩ := hD
    obtain ⟨es, ep, ho, r⟩ := r
    exact ⟨o, es, ep, kp _ _ ho, r⟩
  have C1 : h₁.IsCell cc (some (.ref dd)) := by
    obtain ⟨o, ho, hd⟩ := hcc
    exact ⟨o, kp _ _ ho, hd⟩
  show codeAny _ _ (.expr _ (PySem.W.envX qual scope s.heap.objs.size f (.ref c') cl)) _ _
  refine PySem.W.kla_codeExpr (subD_of PySem.F.slot_dict_getitem.lookup hs ?_)
  refine wpAny_Name (wpAny_loadName_free L.kind L.fre hcl C1 ?_ L.dc) L.dd
  refine wpAny_Name (wpAny_loadName_local L.kind L.loc hns (v := .str key tk) ?_ ?_) L.da
  · show (List.lookup a [(a, Value.str key tk)]) = _
    rw [List.lookup_cons, beq_self_eq_true]
  · refine ⟨D1.typeIs, wpAny_getItem_of (k := Sum.inr key) (kV_is (k := Sum.inr key) (show RelV (kV (Sum.inr key)) (.str key tk) from ⟨tk, rfl⟩)) D1.mapOf hv ?_⟩
    exact h h₁ _ kp (by show s.toks ≤ s.toks + 1 + 1; omega)
end
theorem best_min (val : Nat → Int) : ∀ k, argBest (fun i j => decide (val i < val j)) k ≤ k ∧ ∀ j, j ≤ k → val (argBest (fun i j => decide (val i < val j)) k) ≤ val j ∧ (j < argBest (fun i j => decide (val i < val j)) k → val (argBest (fun i j => decide (val i < val j)) k) < val j)
  | 0 => ⟨Nat.le_refl _, fun j hj => by
    cases (show j = 0 by omega)
    exact ⟨Int.le_refl _, fun z => absurd z (by show ¬ 0 < 0; omega)⟩⟩
  | k + 1 => by
    obtain ⟨i1, i2⟩ := best_min val k
    show (if decide (val (k + 1) < val (argBest (fun i j => decide (val i < val j)) k)) = true then k + 1 else argBest (fun i j => decide (val i < val j)) k) ≤ k + 1 ∧ ∀ j, j ≤ k + 1 → val (if decide (val (k + 1) < val (argBest (fun i j => decide (val i < val j)) k)) = true then k + 1 else argBest (fun i j => decide (val i < val j)) k) ≤ val j ∧ (j < (if decide (val (k + 1) < val (argBest (fun i j => decide (val i < val j)) k)) = true then k + 1 else argBest (fun i j => decide (val i < val j)) k) → val (if decide (val (k + 1) < val (argBest (fun i j => decide (val i < val j)) k)) = true then k + 1 else argBest (fun i j => decide (val i < val j)) k) < val j)
    generalize argBest (fun i j => decide (val i < val j)) k = b at i1 i2
    by_cases c : val (k + 1) < val b
    · rw [if_pos (decide_eq_true c)]
      refine ⟨Nat.le_refl _, fun j hj => ?_⟩
      by_cases e : j = k + 1
      · subst e
        exact ⟨Int.le_refl _, fun z => absurd z (by omega)⟩
      · have := i2 j (by omega)
        exact ⟨by omega, fun _ => by omega⟩
    · rw [if_neg (by simpa using c)]
      refine ⟨by omega, fun j hj => ?_⟩
      by_cases e : j = k + 1
      · subst e
        exact ⟨by omega, fun z => absurd z (by omega)⟩
      · exact i2 j (by omega)
/-- y is the first of xs whose number is least -/
def IsMin (κ : Str → Int) (xs : List Str) (y : Str) : Prop := ∃ i : Nat, xs[i]? = some y ∧ ∀ (j : Nat) (z : Str), xs[j]? = some z → κ y ≤ κ z ∧ (j < i → κ y < κ z)
section
variable {X : Cx} {pins : List (Addr × Obj)} {σ : L2.St} {H : Hp} {s : Shared}
theorem call_min {E : Value → Shared → Prop} {Q : Value → Shared → Prop} {f c' cc dd l : Addr} {qual a d : Str} {params : Arguments} {scope : Scope} {cl : List (Str × Addr)} {pm ctv : Value} {p1 p2 p3 : Pos} {vs : List (Key × Value)} {xs : List Str} {κ : Str → Int} (L : Lam1 scope a d)
    (I : Inv X pins σ H s) (hr : Room 2 X.A) (hf : s.heap.get? f = some (PySem.W.kla_obj "<lambda>" qual params (.Subscript (.Name d p1) (.Name a p2) p3) scope cl pm c' ctv))
    (hc : ∃ (oc : Obj) (ws : Array Value) (t : Tok), s.heap.get? c' = some oc ∧ oc.data = .fields ws ∧ ws[1]? = some (.str qual t)) (hcl : cl.lookup d = some cc) (hcc : s.heap.IsCell cc (some (.ref dd)))
    (hD : s.heap.DictOf (mixKind X.prog X.w) dd vs) (hs : NoSl (.Name a p2)) (hl : SqT X.K H l (xs.map V.str)) (hne : xs ≠ []) (hv : ∀ y ∈ xs, ∃ t, valueAt vs (Sum.inr y) = some (.int (κ y) t))
    (hb : ∀ u, bindArgs (PySem.W.kla_fn "<lambda>" qual params (.Subscript (.Name d p1) (.Name a p2) p3) scope cl pm (.ref c') ctv) ⟨[u], []⟩ = pure [(a, u)])
    (h : ∀ y t s', IsMin κ xs y → Inv X pins σ H s' → Q (.str y t) s') : wpAny (model X.prog X.w) X.A (call (.builtin "min") [.ref l] [(Str.ofString "key", .ref f)]) Q E s := by
  obtain ⟨its, r, pl, hz⟩ := I.tuple hl
  have hlen : its.toArray.size = xs.length := by rw [List.size_toArray, ← r.length, List.length_map]
  have hpos : 0 < xs.length := List.length_pos_iff.mpr hne
  have at_ : ∀ (i : Nat) (v : Value), its.toArray[i]? = some v → ∃ y t, xs[i]? = some y ∧ v = .str y t := fun i v hi => by
    have hi2 : its[i]? = some v := by rw [← List.getElem?_toArray]; exact hi
    have hl2 : i < xs.length := by
      have := (List.getElem?_eq_some_iff.mp hi2).1
      rw [← r.length, List.length_map] at this
      exact this
    obtain ⟨u, hu, t, ht⟩ := r.get (i := i) (x := .str xs[i]) (by rw [List.getElem?_map, List.getElem?_eq_getElem hl2]; rfl)
    rw [hi2] at hu
    cases Option.some.inj hu
    exact ⟨xs[i], t, List.getElem?_eq_getElem hl2, ht⟩
  have ls : l < s.heap.objs.size := by
    obtain ⟨o, ho, _⟩ := id pl
    exact Heap.lt_size ho
  have ne1 : l ≠ s.heap.objs.size := Nat.ne_of_lt ls
  have sz2 : (s.heap.push { cls := .type "tuple_iterator", data := .fields #[.ref l, .int 0 0] }).objs.size = s.heap.objs.size + 1 := Heap.size_push ..
  refine call_min_walkK (wpAny_pyIter_tuple pl ?_)
  have W := (Walks.tuple (prog := X.prog) (w := X.w) (A := X.A.in1) (by simp [hr.hd]) s.heap.objs.size l ne1 its.toArray).toS
  refine ⟨s.heap.objs.size, _, _, _, _, _, _, fun s1 => ∃ h' tk, s1 = { s with heap := h', toks := tk } ∧ ∀ b o, s.heap.get? b = some o → h'.get? b = some o, fun i k _ => ∃ t, k = .int (κ (xs.getD i Str.empty)) t, fun i j => decide (κ (xs.getD i Str.empty) < κ (xs.getD j Str.empty)), rfl, W, ⟨⟨_, Heap.get?_push_size _ rfl, rfl, rfl⟩, pl.push _⟩, fun b hb => ?_, by rw [hlen]; exact hpos, ?_, ⟨_, s.toks, rfl, fun b o e => Heap.get?_push_of_some _ e⟩, fun v s' hP hJ => ?_⟩
  · show b < (s.heap.push { cls := .type "tuple_iterator", data := .fields #[.ref l, .int 0 0] }).objs.size
    rw [sz2]
    rcases List.mem_cons.mp hb with rfl | hb
    · exact Nat.lt_succ_self _
    · cases List.mem_singleton.mp hb
      exact Nat.lt_succ_of_lt ls
  · refine ⟨?_, fun i k s1 s2 hk _ => hk, ?_, ?_⟩
    · rintro _ s2 ⟨h', tk, rfl, hk⟩ hm
      refine ⟨s2.heap, s2.toks, hm.eq_with, fun b o e => hm.heap b o (fun z => ?_) (hk b o e)⟩
      have lb : b < s.heap.objs.size := Heap.lt_size e
      rcases List.mem_cons.mp z with z | z
      · rw [sz2] at z
        exact Nat.ne_of_lt (Nat.lt_succ_of_lt lb) z
      · cases List.mem_singleton.mp z
        exact Nat.lt_irrefl _ lb
    · rintro i v _ o Q' E' hi hP ⟨h', tk, rfl, hk⟩ hSt hS hq
      obtain ⟨y, t, hy, rfl⟩ := at_ i v hP
      obtain ⟨t2, hv2⟩ := hv y (List.mem_of_getElem? hy)
      obtain ⟨oc, ws, t3, c1, c2, c3⟩ := hc
      have hD1 : h'.DictOf (mixKind X.prog X.w) dd vs := by
        obtain ⟨o, es, ep, ho, r⟩ := hD
        exact ⟨o, es, ep, hk _ _ ho, r⟩
      have hcc1 : h'.IsCell cc (some (.ref dd)) := by
        obtain ⟨o, ho, hd⟩ := hcc
        exact ⟨o, hk _ _ ho, hd⟩
      refine lam_get (s := { s with heap := h', toks := tk }) L hr.in1.depth ((I.nolimit).keeps hk) (hk _ _ hf) ⟨oc, ws, t3, hk _ _ c1, c2, c3⟩ hcl hcc1 hD1 hv2 hs (hb _) fun h2 tk2 hk2 htk => ?_
      have ey : xs.getD i Str.empty = y := by rw [List.getD_eq_getElem?_getD, hy]; rfl
      refine hq _ { s with heap := h2, toks := tk2 } ⟨h2, tk2, rfl, fun b o e => hk2 b o (hk b o e)⟩ ?_ (hk2 _ _ hS) ⟨t2, by rw [ey]⟩ fun _ _ z => z
      exact W.frame (i + 1) { s with heap := h', toks := tk } h2 tk2 hSt htk fun b _ o e => hk2 b o e
    · intro i j ki kj s1 Q' E' _ hi hj hq
      exact CmpOf.ints_lt (prog := X.prog) (w := X.w) (A := X.A.in1) (P := fun i v => ∃ t, v = .int (κ (xs.getD i Str.empty)) t) (fun i => κ (xs.getD i Str.empty)) (fun i v h => h) i j ki kj s1 Q' E' hi hj hq
  · obtain ⟨h', tk, rfl, hk⟩ := hJ
    obtain ⟨b1, b2⟩ := best_min (fun i => κ (xs.getD i Str.empty)) (its.toArray.size - 1)
    obtain ⟨y, t, hy, rfl⟩ := at_ _ v hP
    refine h y t _ ⟨_, hy, fun j z hz => ?_⟩ (I.kept hk)
    have hj : j < xs.length := (List.getElem?_eq_some_iff.mp hz).1
    have ey : xs.getD (argBest (fun i j => decide (κ (xs.getD i Str.empty) < κ (xs.getD j Str.empty))) (its.toArray.size - 1)) Str.empty = y := by rw [List.getD_eq_getElem?_getD, hy]; rfl
    have ez : xs.getD j Str.empty = z := by rw [List.getD_eq_getElem?_getD, hz]; rfl
    have := b2 j (by omega)
    simp only [ey, ez] at this
    exact this
/-- what min(te, key=lambda a: d[a]) wants: the tuple, the dict at slot jd, the tables -/
def tMinK (K : PySem.W.Frag) (T : List (Addr × Str)) (jd : Nat) (t : TA) : TE := fun σ H Q => t σ H fun vs H0 => ∃ (l dd : Addr) (xs : List Str) (kvs : List (Key × V)) (κ : Str → Int), vs = [.ref l] ∧ SqT K H0 l (xs.map V.str) ∧ xs ≠ [] ∧ σ[jd]? = some (some (.ref dd)) ∧ H0 dd = some (.dK kvs) ∧
  (∀ y ∈ xs, valV kvs (Sum.inr y) = some (.int (κ y))) ∧ Tabs T H0 ∧ ∀ H1, ExtN H0 H1 → Tabs T H1 → ∀ y, IsMin κ xs y → Q (.str y) H1
theorem pe_minKey {T : List (Addr × Str)} {c P : Addr} {a d : Str} {params : Arguments} {scope : Scope} {p p1 p2 p3 lpos kpos pos : Pos} {e : Expr} {ta : TA} {jd : Nat} (hg : Gl X "min") (hm : X.mg "min" = none) (ha : PA X [e] ta) (hr : Room 2 X.A) (TB : TabB X.base X.mg c P) (hcode : X.env.code = .ref c)
    (hmT : (P, X.env.qual ++ "<lambda>") ∈ T) (hu : ∀ p ∈ T, p.1 = P → p.2 = X.env.qual ++ "<lambda>") (L : Lam1 scope a d) (hfree : ∀ y ∈ scope.names, y.2 = .free → X.env.scope.names.lookup y.1 = some .cell ∨ X.env.scope.names.lookup y.1 = some .free)
    (hN : X.N[jd]? = some d) (hd : X.env.scope.names.lookup d = some .cell) (hdef : defaultsOf params X.env = ([], [])) (hs : NoSl (.Name a p2))
    (hb : ∀ (q : Str) (cl : List (Str × Addr)) (pm cv ctv u : Value), bindArgs (PySem.W.kla_fn "<lambda>" q params (.Subscript (.Name d p1) (.Name a p2) p3) scope cl pm cv ctv) ⟨[u], []⟩ = pure [(a, u)])
    (he : backTo pos (starEach [e] X.env) = (false, eval e X.env) :: backTo pos (starEach [] X.env) := by rfl) (hpl : (backTo pos (starEach [e] X.env)).any (·.1) = false := by rfl) :
    PE X (.Call (.Name "min" p) [e] [⟨some "key", .Lambda params (.Subscript (.Name d p1) (.Name a p2) p3) scope lpos, kpos⟩] pos) (tMinK X.K T jd ta) := by
  refine ⟨fun pins s σ H Q I h => ?_⟩
  refine wpAny_Call_Name_kw (ld_blt I hg hm boot_min ?_)
  refine PyProof.Rows.callWith_kw (thn (ha.run pos pins s σ H (fun vs H0 => ∃ (l dd : Addr) (xs : List Str) (kvs : List (Key × V)) (κ : Str → Int), vs = [.ref l] ∧ SqT X.K H0 l (xs.map V.str) ∧ xs ≠ [] ∧ σ[jd]? = some (some (.ref dd)) ∧ H0 dd = some (.dK kvs) ∧
    (∀ y ∈ xs, valV kvs (Sum.inr y) = some (.int (κ y))) ∧ Tabs T H0 ∧ ∀ H1, ExtN H0 H1 → Tabs T H1 → ∀ y, IsMin κ xs y → Q (.str y) H1) I h) fun us s1 ⟨vs, H1, I1, r1, q1⟩ => ?_) he hpl
  obtain ⟨l, dd, xs, kvs, κ, rfl, hl, hne, hdd, hD, hv, hT, hQ⟩ := q1
  obtain ⟨u, rfl, ru⟩ := vals1 r1
  cases (show u = Value.ref l from ru)
  have hfr : ∀ y ∈ scope.names, y.2 = .free → ∃ c, X.env.cells.lookup y.1 = some c := fun y hy e => I.ok.has _ (hfree y hy e)
  show wpAny _ _ (evalAll ((do let v ← eval (.Lambda params (.Subscript (.Name d p1) (.Name a p2) p3) scope lpos) X.env; standAt pos; pure v) :: [])) _ _ s1
  refine wpAny_evalAll_cons (wpAny_bind (lam_make2 I1 TB hcode hmT hu hT hdef hfr fun f c' pm ctv H2 s2 I2 eN T2 hf hfn hff hco => ?_))
  refine wpAny_bind (wpAny_standAt (wpAny_pure (wpAny_evalAll_nil ?_)))
  obtain ⟨⟨oc, ws, t, hoc, hdc, hvc⟩, _, _⟩ := I2.hok c' _ hco
  have hl2 : SqT X.K H2 l (xs.map V.str) := by
    rcases hl with z | z
    · rcases z with z | ⟨o, z⟩
      · exact .inl (.inl (eN _ _ z fun _ q => by cases q))
      · exact .inl (.inr ⟨o, eN _ _ z fun _ q => by cases q⟩)
    · exact .inr z
  have hD2 : H2 dd = some (.dK kvs) := eN _ _ hD fun _ q => by cases q
  obtain ⟨m, hn, hlk⟩ := I2.loc
  obtain ⟨w', rw', look⟩ := hlk jd d (.ref dd) hN hdd (.inr (.inl hd))
  cases (show w' = Value.ref dd from rw')
  obtain ⟨cc, hcc, hcell⟩ : ∃ cc, X.env.cells.lookup d = some cc ∧ s2.heap.IsCell cc (some (.ref dd)) := by
    rcases look with ⟨z, _⟩ | ⟨_, cc, z1, z2⟩
    · have z' : X.env.scope.names.lookup d = some .local := z
      rw [hd] at z'
      cases z'
    · exact ⟨cc, z1, z2⟩
  have hcl : (cloFrom X.env.cells scope.names []).lookup d = some cc := by
    have hy : (d, NameKind.free) ∈ scope.names := PySem.mem_of_lookup L.fre
    obtain ⟨c2, h2⟩ := mem_lookup (cloFrom_has (cells := X.env.cells) (acc := []) hy)
    rcases cloFrom_mem (PySem.mem_of_lookup h2) with z | ⟨z1, z2⟩
    · cases z
    · rw [h2, z2, hcc]
      rfl
  obtain ⟨_, _, vs, rel, hDo⟩ := dk_of I2.hok hD2
  refine call_min (κ := κ) L I2 hr hf ⟨oc, ws, t, hoc, hdc, hvc⟩ hcl hcell hDo hs hl2 hne (fun y hy => ?_) (fun u => hb _ _ _ _ _ u) fun y t s3 hm I3 => ⟨.str y, H2, I3, ⟨t, rfl⟩, hQ H2 eN T2 y hm⟩
  obtain ⟨u, hu2, t2, ht2⟩ := RelO.some_of (v := .int (κ y)) (o := valueAt vs (Sum.inr y)) (by rw [← hv y hy]; exact rel.val (Sum.inr y))
  exact ⟨t2, by rw [hu2, ht2]⟩
end
end LK
set_option Elab.async false
set_option linter.all false
set_option maxRecDepth 100000
set_option maxHeartbeats 4000000
namespace K32
open PySem PySem.Spec PyProof.Rows L2
open C8 (Cal Mak Met pe_c pe_mk pe_mt pe_mt0)
open LamX (Tabs ExtN TabB)
open SX (S)
theorem inV_strs (x : Str) : ∀ R : List Str, inV (.str x) (R.map V.str) = decide (x ∈ R)
  | [] => rfl
  | y :: R => by
    have ih := inV_strs x R
    unfold inV at ih ⊢
    rw [List.map_cons, List.any_cons, ih]
    have e : eqV (.str y) (.str x) = decide (x = y) := by
      show decide (y = x) = decide (x = y)
      exact decide_eq_decide.mpr ⟨Eq.symm, Eq.symm⟩
    rw [e]
    simp [Bool.decide_or]
theorem flat_strs (R : List Str) : (R.map V.str).all flatV = true := by
  rw [List.all_eq_true]
  intro v hv
  obtain ⟨y, _, rfl⟩ := List.mem_map.mp hv
  rfl
section
variable {P : Program} {w : World} {K : PySem.W.Frag} {mg : Str → Option Value} {base : Heap} {f C : Addr} {fd : FuncData}
def spNo : Sp := fun vs H Q _ => ∃ (ot rd : Addr) (xs R : List Str), vs = [.ref ot, .ref rd] ∧ H ot = some (.tup (xs.map V.str)) ∧ H rd = some (.lst (R.map V.str)) ∧ xs.length ≤ 13 ∧
  ∀ (t : Addr) (H' : Hp), Same H H' → H t = none → H' t = some (.tup ((xs.filter fun x => decide (x ∈ R)).map V.str)) → Q (.ref t) H'
theorem ok_no (F : Dn K d_names_of f fd) (b2 : Bl2 mg) : FnOk P w K mg base CX0 1 f fd ["order", "riders"] spNo := by
  refine F.ok sc_names_of (fun vs H Q E h => ?_) (fun cdv A outer s H vs Q E hr h => ?_)
  · obtain ⟨ot, rd, xs, R, rfl, _⟩ := h
    rfl
  · obtain ⟨ot, rd, xs, R, rfl, hot, hrd, l13, hQ⟩ := h
    refine ⟨_, PSs.nox (pss_one (ps_ret (pe_callTy call_tuple_of rfl b2.tup boot_tuple (pa_cons (pe_lc (own := [("name", 2)]) (g := gName 2) rfl sc_names_of.nd (pi_tup (pv 0)) (blkOk_by (N := N_names_of) (sc := defScope s_names_of) (by decide +kernel))
          (fun _ _ _ _ _ => pg_name (i := 2) sc_names_of.nd rfl (Or.inl rfl)) (fun _ _ _ _ _ => pts_one (pt_cmpR (r := rIn K false) op_in_seq (pv 2) (pv 1) (by rfl))) (fun _ _ _ _ _ => pv 2)) pa_nil)))), ?_⟩
    refine ⟨_, rfl, ot, rfl, ⟨_, SqT.of hot⟩, fun D hD => lc_tup (fun i H2 => H2 D = some (.lst (((xs.take i).filter fun x => decide (x ∈ R)).map V.str)) ∧ Same H H2) ⟨upd_same, same_new hD⟩ (fun _ H2 _ z => SqT.of (z.2 _ _ hot)) ?_ ?_⟩
    · rintro i x H2 hx ⟨hd, sm⟩
      have hi' : i < xs.length := by
        have := (List.getElem?_eq_some_iff.mp hx).1
        simpa using this
      rw [List.getElem?_map] at hx
      obtain ⟨y, hy, rfl⟩ := Option.map_eq_some_iff.mp hx
      have et : xs.take (i + 1) = xs.take i ++ [y] := by rw [List.take_succ, hy]; rfl
      refine ⟨rfl, ?_⟩
      refine ⟨_, rfl, _, rfl, rd, _, rfl, .inl (SqL.of (sm _ _ hrd)), rfl, flat_strs R, _, rfl, ?_⟩
      simp only [Bool.false_eq_true, if_false]
      rw [inV_strs]
      refine ite2 (fun hm => ?_) (fun hm => ?_)
      · refine ⟨_, rfl, _, hd, ?_, ?_, ?_⟩
        · rw [List.length_map]
          refine Nat.lt_of_le_of_lt (List.length_filter_le _ _) ?_
          rw [List.length_take]
          exact Nat.lt_of_lt_of_le (by omega : min i xs.length < 64) (by decide)
        · rw [upd_same, et, List.filter_append, List.map_append]
          simp [hm]
        · intro a o e
          rw [upd_ne (ne_of_none e hD)]
          exact sm a o e
      · refine ⟨?_, sm⟩
        rw [et, List.filter_append]
        simp [hm, hd]
    · rintro H2 ⟨hd, sm⟩
      rw [List.length_map, List.take_length] at hd
      refine ⟨D, _, rfl, .inl ⟨SqL.of hd, fun l fl => hQ l _ (sm.trans (same_new fl)) ?_ upd_same⟩⟩
      exact sm.free fl
theorem zs_take (xs : List Str) (i : Nat) (h : i < xs.length) : ((xs.take i).map fun _ => V.int 0) ++ [V.int 0] = (xs.take (i + 1)).map fun _ => V.int 0 := by
  rw [List.take_succ, List.getElem?_eq_getElem h, List.map_append]
  rfl
end
end K32
set_option Elab.async false
set_option linter.all false
set_option maxRecDepth 100000
set_option maxHeartbeats 4000000
namespace K32
open PySem PySem.Spec PyProof.Rows L2
open C8 (Cal Mak Met pe_c pe_mk pe_mt pe_mt0)
open LamX (Tabs ExtN TabB)
open SX (S)
/-- the def's code is known -/
theorem okT {P : Program} {w : World} {K : PySem.W.Frag} {mg : Str → Option Value} {base : Heap} {x qual : Str} {params : Arguments} {body : List Stmt} {scope : Scope} {dvs : List V} {kws : List (Str × V)} {p : He.Defn} {fd : FuncData}
    {CX : CXT} {N ps : List Str} {k : Nat} {sp : Sp} (F : FunD K x qual params body scope dvs kws (He.fAd K p) fd) (S : FnScope N ps scope) (len : ∀ vs H Q E, sp vs H Q E → vs.length = ps.length)
    (hbody : ∀ (A : Around) (outer : List Env) (s : Shared) (H : Hp) (vs : List V) (Q : VK) (E : XK), Room k (A.deeper (envOfC qual scope s.heap.objs.size (He.fAd K p) (.ref (He.cT K p).1))) → sp vs H Q E →
      ∃ t, PSs (cxOf CX P w K mg base N qual scope (He.fAd K p) (.ref (He.cT K p).1) A outer s H E) body t ∧ t { nx := fun _ H' => Q .non H', rt := Q } (start N vs) H) : FnOk P w K mg base CX (k + 1) (He.fAd K p) fd ps sp := by
  obtain ⟨oc, od, dV, kV, doc, pm, an, cdv, ct, osl, rfl, lk, hcd, _, _⟩ := F.ex
  obtain ⟨c, rfl⟩ := He.codeIn_ref hcd
  have e : (He.cT K p).1 = c := He.codeOf_eq lk rfl
  rw [e] at hbody
  exact fn_of lk hcd S len fun A outer s H vs Q E hr hsp => hbody A outer s H vs Q E hr hsp
/-- the table of the lambda -/
def T0 (K : PySem.W.Frag) : List (Addr × Str) := [((He.cT K ("least_driver", none)).2, (envOfC d_least_driver.qual d_least_driver.scope 0 0 .none).qual ++ "<lambda>")]
/-- what counts of a credit, by the grain -/
def cnt (g c : Int) : Int := if g = 0 then c else (c * g).fdiv 840
/-- credits stand at a -/
def Crd (H : Hp) (a : Addr) (xs : List Str) (c : Str → Int) : Prop := H a = some (.tup (xs.map fun x => V.int (c x)))
section
variable {P : Program} {w : World} {K : PySem.W.Frag} {mg : Str → Option Value} {base : Heap} {f C : Addr} {fd : FuncData}
def spLd (K : PySem.W.Frag) : Sp := fun vs H Q _ => ∃ (r ot hd nt : Addr) (xs ns : List Str) (g : Int) (c : Str → Int), vs = [.ref r, .ref hd, .ref nt] ∧ LeastR H r ot xs g ∧ Crd H hd xs c ∧ H nt = some (.tup (ns.map V.str)) ∧ ns ≠ [] ∧ (∀ y ∈ ns, y ∈ xs) ∧ Tabs (T0 K) H ∧
  ∀ H1, ExtN H H1 → Tabs (T0 K) H1 → ∀ y, LK.IsMin (fun x => cnt g (c x)) ns y → Q (.str y) H1
theorem ok_ld (F : Dn K d_least_driver (He.fAd K ("least_driver", none)) fd) (b2 : Bl2 mg) (gp : ∃ t, mg "RIDE_PARTS" = some (.int 840 t)) (TB : TabB base mg (He.cT K ("least_driver", none)).1 (He.cT K ("least_driver", none)).2) :
    FnOk P w K mg base CX0 3 (He.fAd K ("least_driver", none)) fd ["rule", "held", "names"] (spLd K) := by
  refine okT F sc_least_driver (fun vs H Q E h => ?_) (fun A outer s H vs Q E hr h => ?_)
  · obtain ⟨r, ot, hd, nt, xs, ns, g, c, rfl, _⟩ := h
    rfl
  · obtain ⟨r, ot, hd, nt, xs, ns, g, c, rfl, lr, hc, hnt, nne, sub, tabs, hQ⟩ := h
    obtain ⟨hrr, hot, ox, g0, g1⟩ := id lr
    obtain ⟨t, gp⟩ := gp
    have hu := hu_of hr
    have l8 := ox.l8
    refine ⟨_, PSs.nox (pss_cons (ps_set (i := 3) sc_least_driver.nd rfl (.inl rfl) (pe_ix ix_tup (pv 0) pe_int (fun _ _ => rfl)))
      (pss_cons (ps_set (i := 6) sc_least_driver.nd rfl (.inr rfl) pe_dnewK)
      (pss_cons (ps_for PassesOwn.never rfl (RZ.pi_zipA rfl b2.zip (pa_cons (pe_ix ix_tup (pv 0) pe_int (fun _ _ => rfl)) (pa_cons (pv 1) pa_nil))) (pg_tup rfl (pgs_cons (pg_name (i := 4) sc_least_driver.nd rfl (.inl rfl)) (pgs_cons (pg_name (i := 5) sc_least_driver.nd rfl (.inl rfl)) pgs_nil)))
        (pss_one (ps_dput hu (pv 6) (pv 4) (pe_ifExp (pt_cmpR op_eq (pv 3) pe_int (nomark _)) (pv 5) (pe_op op_fdW (pe_op op_mul (pv 5) (pv 3)) (pe_glob (v := .int 840) rfl gp ⟨t, rfl⟩))) rfl)))
      (pss_one (ps_ret (LK.pe_minKey (T := T0 K) (jd := 6) rfl b2.min (pa_cons (pv 2) pa_nil) hr TB rfl (List.mem_singleton.mpr rfl) (fun p hp _ => by rw [List.mem_singleton.mp hp]; rfl) ⟨rfl, rfl, rfl, by decide +kernel, by decide +kernel, by decide +kernel, by decide +kernel, by decide +kernel, by decide +kernel⟩ (by show ∀ (y : Str × NameKind), y ∈ _ → y.2 = NameKind.free → List.lookup y.1 d_least_driver.scope.names = some .cell ∨ List.lookup y.1 d_least_driver.scope.names = some .free; decide +kernel) rfl rfl rfl (fun _ _ => rfl) (fun _ _ _ _ _ _ => rfl))))))), ?_⟩
    refine ⟨_, rfl, r, _, _, _, rfl, rfl, SqT.of hrr, rfl, fun dd fdd => ?_⟩
    have sd := same_new (o := .dK []) fdd
    refine ⟨_, rfl, r, _, _, _, rfl, rfl, SqT.of (sd _ _ hrr), rfl, _, rfl, ot, hd, _, _, rfl, .inr ⟨SqT.of (sd _ _ hot), SqT.of (sd _ _ hc), ?_⟩⟩
    refine RZ.for_zipT (by simp) (fun i σ H2 => ∃ (v4 v5 : Option V) (kvs : List (Key × V)), σ = [some (.ref r), some (.ref hd), some (.ref nt), some (.int g), v4, v5, some (.ref dd)] ∧ H2 dd = some (.dK kvs) ∧ kvs.length ≤ i ∧ (∀ (j : Nat) (x : Str), j < i → xs[j]? = some x → valV kvs (Sum.inr x) = some (.int (cnt g (c x)))) ∧ Same H H2)
      ⟨_, _, [], rfl, upd_same, Nat.le_refl _, fun j x hj => absurd hj (Nat.not_lt_zero _), sd⟩ (fun i σ H2 ⟨_, _, _, _, _, _, _, sm⟩ => ⟨SqT.of (sm _ _ hot), SqT.of (sm _ _ hc)⟩) ?_ ?_
    · rintro i x y T σ H2 hx hy ⟨v4, v5, kvs, rfl, hdd, hlen, hval, sm⟩ hT
      have hi' : i < xs.length := by
        have := (List.getElem?_eq_some_iff.mp hx).1
        simpa using this
      rw [List.getElem?_map] at hx hy
      obtain ⟨z, hz, rfl⟩ := Option.map_eq_some_iff.mp hx
      rw [hz] at hy
      cases hy
      have sT := same_new (o := .tup [V.str z, V.int (c z)]) hT
      refine ⟨T, _, rfl, SqT.of upd_same, rfl, _, _, rfl, _, _, rfl, rfl, ?_⟩
      have fin : ∀ v : V, v = .int (cnt g (c z)) → ∃ a H4, V.ref dd = .ref a ∧ DPut (upd H2 T (.tup [V.str z, V.int (c z)])) a (.str z) v H4 ∧ (∃ (v4 v5 : Option V) (kvs : List (Key × V)), [some (.ref r), some (.ref hd), some (.ref nt), some (.int g), some (V.str z), some (V.int (c z)), some (.ref dd)] = [some (.ref r), some (.ref hd), some (.ref nt), some (.int g), v4, v5, some (.ref dd)] ∧ H4 dd = some (.dK kvs) ∧ kvs.length ≤ i + 1 ∧ (∀ (j : Nat) (x : Str), j < i + 1 → xs[j]? = some x → valV kvs (Sum.inr x) = some (.int (cnt g (c x)))) ∧ Same H H4) := by
        rintro v rfl
        refine ⟨dd, _, rfl, DPut.k (k := Sum.inr z) (sT _ _ hdd) (Nat.lt_of_le_of_lt (by omega : kvs.length ≤ 8) (by decide)), _, _, _, rfl, upd_same, Nat.le_trans (length_putK _ _ _) (by omega), ?_, ?_⟩
        · intro j x hj hjx
          rw [valV_put]
          by_cases e : x = z
          · rw [e, if_pos rfl]
          · rw [if_neg (fun q => e (Sum.inr.inj q))]
            refine hval j x ?_ hjx
            rcases Nat.lt_succ_iff_lt_or_eq.mp hj with h | h
            · exact h
            · rw [h, hz] at hjx
              exact absurd (Option.some.inj hjx).symm e
        · intro a o e
          rw [upd_ne (ne_of_none e fdd)]
          exact sT a o (sm a o e)
      by_cases hg : g = 0
      · have z0 : decide (V.int g = V.int 0) = true := by simp [hg]
        refine ⟨_, rfl, rfl, _, rfl, ?_⟩
        rw [z0]
        refine iteT ⟨_, rfl, _, rfl, _, rfl, fin _ ?_⟩
        unfold cnt
        rw [if_pos hg]
      · have z0 : decide (V.int g = V.int 0) = false := by simp [hg]
        refine ⟨_, rfl, rfl, _, rfl, ?_⟩
        rw [z0]
        refine iteF ⟨_, rfl, _, rfl, _, _, rfl, rfl, cb_r (by omega) (by omega), _, _, rfl, rfl, ⟨by decide, by decide⟩, _, rfl, _, rfl, fin _ ?_⟩
        unfold cnt
        rw [if_neg hg]
    · rintro σ H2 ⟨v4, v5, kvs, rfl, hdd, hlen, hval, sm⟩
      refine ⟨_, rfl, nt, dd, ns, kvs, fun x => cnt g (c x), rfl, SqT.of (sm _ _ hnt), nne, rfl, hdd, fun y hy => ?_, tabs.ext sm, fun H1 e1 t1 y hy => hQ H1 ((ExtN.of sm).trans e1) t1 y hy⟩
      obtain ⟨j, hj, rfl⟩ := List.mem_iff_getElem.mp (sub y hy)
      exact hval j _ (by simpa using hj) (List.getElem?_eq_getElem hj)
end
end K32
set_option Elab.async false
set_option linter.all false
set_option maxRecDepth 100000
set_option maxHeartbeats 4000000
/-! {k: v for target in xs}, the keys tuples of whole numbers and texts -/
namespace DCT
open PySem PySem.Spec PyProof.Rows L2
section
variable {X : Cx}
/-- a key goes in -/
theorem put_key {pins : List (Addr × Obj)} {σ : L2.St} {H : Hp} {s : Shared} {E : Value → Shared → Prop} {D b : Addr} {kvs : List (List Key × V)} {k : List Key} {v : V} {u : Value} {Q : Unit → Shared → Prop} (hu : X.A.units < cLine)
    (I : Inv X pins σ H s) (hD : H D = some (.dT kvs)) (hb : H b = some (.tup (k.map kV))) (hz : kvs.length < sizeLine) (rv : RelV v u) (fin : ∀ s', Inv X pins σ (upd H D (.dT (putK kvs k v))) s' → Q () s') :
    wpAny (model X.prog X.w) X.A (dictSet D (.ref b) u) Q E s := by
  obtain ⟨_, nm, xs, rel, dd⟩ := dt_of I.hok hD
  have ln := Paired.length rel
  have lp := length_putK kvs k v
  refine wpAny_dictSet_heap (hsz := by omega) (knd := tupleKind (mixKind X.prog X.w)) hu (key_of I.hok hb) dd fun h' new sb => fin _ ?_
  obtain ⟨o, es, ep, w1, w2, w3, w4, _, w5⟩ := new
  refine d_write I (by rw [hD]; exact True.intro) sb ⟨o, w1⟩ ⟨by omega, nm, _, (rel.put k hb rv).keeps fun c ys ec => ?_, o, es, ep, w1, w2, w3, w4, w5⟩
  rw [upd_ne (ne_of ec hD (fun z => nomatch z))]
  exact ec
/-- what is left to show: W by the turn, a measure and the heap, the new dict at D within -/
def tDt (wi : TI) (g : TG) (tk tv : TE) (vs : List Nat) : TE := fun σ H Q => wi σ H fun J H1 => ∀ D, H1 D = none → ∃ W : Nat → Nat → Hp → Prop, (∃ m, W 0 m (upd H1 D (.dT []))) ∧ ∀ i m Hi, W i m Hi →
  (J.stop i Hi ∧ Q (.ref D) Hi) ∨ (J.go i Hi ∧ ∃ Nx : Hp → Prop, (∀ H', Nx H' → ∃ m', m' < m ∧ W (i + 1) m' H') ∧ ∀ x H', J.yld i Hi x H' → g x (wipe σ vs) H' fun σ2 H2 => wipe σ2 vs = wipe σ vs ∧
    tk σ2 H2 fun y H3 => tv σ2 H3 fun z H4 => ∃ (b : Addr) (kvs : List (List Key × V)) (k : List Key), y = .ref b ∧ H4 b = some (.tup (k.map kV)) ∧ H4 D = some (.dT kvs) ∧ kvs.length < sizeLine ∧ Nx (upd H4 D (.dT (putK kvs k z))))
theorem core {pins : List (Addr × Obj)} {s : Shared} {σ : L2.St} {H : Hp} {Q : VK} {kx vx tg iter : Expr} {scope : Scope} {own : List (Str × Nat)} {pos pos' : Pos} {wi : TI} {g : TG} {tk tv : TE} {use : Option (Value → Sem Unit)} {Qf : Value → Shared → Prop}
    (hu : X.A.units < cLine) (hc : X.calm = true) (hN : X.N.Nodup) (I : Inv X pins σ H s) (hi : PI X tg iter wi) (ok : BlkOk X.N X.env.scope scope own)
    (hg : ∀ (s : Shared) (H : Hp) (C : Addr) (cl : List (Str × Addr)) (fp : List Addr), PG (X.blk s H scope (compEnvC scope cl C X.env) fp) tg g)
    (hk : ∀ (s : Shared) (H : Hp) (C : Addr) (cl : List (Str × Addr)) (fp : List Addr), PE (X.blk s H scope (compEnvC scope cl C X.env) fp) kx tk)
    (hv : ∀ (s : Shared) (H : Hp) (C : Addr) (cl : List (Str × Addr)) (fp : List Addr), PE (X.blk s H scope (compEnvC scope cl C X.env) fp) vx tv) (hs : ∀ x, foldedSetIterable iter X.env x = pure x)
    (h : tDt wi g tk tv (own.map (·.2)) σ H Q)
    (out : ∀ D C s' m H', Inv X pins σ H' s' → Q (.ref D) H' → s'.heap.Ns C m → FpOk X pins H' C → compPost (model X.prog X.w) X.A X.xe use Qf (.ref D) C (.ok .next) s') :
    wpAny (model X.prog X.w) X.A (comprehension (.DictComp kx vx [⟨tg, iter, [], 0⟩] scope pos) scope X.env pos' newDict false (eval iter X.env) use) Qf X.xe s := by
  have cells : ∀ y ∈ scope.names, y.2 = .free → ∃ c, X.env.cells.lookup y.1 = some c := fun y hy e => (ok.free y hy e).elim (fun q => I.ok.has _ (.inl q)) fun q => I.ok.has _ (.inr q)
  refine wpAny_comprehension_free (use := use) rfl hs (closure_ok cells) ok.kind (fun y hy e => by rw [ok.uniq y hy, e]) (thn (hi.run pins s σ H _ I h) fun _ s1 h1 => thn h1 fun _ s2 h2 => ?_)
  obtain ⟨it, fp, tn, J, HI, rfl, I2, T, st, ft, rest⟩ := h2
  refine wpAny_newObj_type (newEnv_comp ?_)
  -- the new dict
  obtain ⟨D, eD⟩ : ∃ D, D = s2.heap.objs.size := ⟨_, rfl⟩
  rw [← eD]
  have fD : HI D = none := I2.hok.fresh (Nat.le_of_eq eD.symm)
  obtain ⟨W, ⟨m0, w0⟩, turn⟩ := rest D fD
  obtain ⟨s3, e3⟩ : ∃ s3 : Shared, s3 = { s2 with heap := s2.heap.push { cls := .type "dict", data := .dict #[] } } := ⟨_, rfl⟩
  have h3 : s3.heap = s2.heap.push { cls := .type "dict", data := .dict #[] } := by rw [e3]
  have I3 : Inv X pins σ (upd HI D (.dT [])) s3 := by
    rw [e3]
    refine I2.laid (t' := s2.toks) (fun _ _ e => Heap.get?_push_of_some _ e) (Nat.le_of_eq eD.symm) ?_
    rw [eD]
    exact dt_empty s2.heap I2.big
  have foot : ∀ b ∈ fp, FpOk X pins (upd HI D (.dT [])) b ∧ b < s3.heap.objs.size := fun b hb => by
    obtain ⟨_, e, _⟩ := T.obj _ _ st b hb
    have lt := Heap.lt_size e
    refine ⟨⟨?_, (ft b hb).2⟩, by rw [h3, Heap.size_push]; exact Nat.lt_succ_of_lt lt⟩
    rw [upd_ne (by rw [eD]; exact Nat.ne_of_lt lt)]
    exact (ft b hb).1
  have st3 : tn 0 s3.heap := T.keep _ _ _ st fun b _ o e => by rw [h3]; exact Heap.get?_push_of_some _ e
  have I4 := block_start I3 ok hN foot
  have G := hg s3 (upd HI D (.dT [])) s3.heap.objs.size (cellsFrom (s3.heap.objs.size + 1) scope.names (cloFrom X.env.cells scope.names [])) fp
  have Kx := hk s3 (upd HI D (.dT [])) s3.heap.objs.size (cellsFrom (s3.heap.objs.size + 1) scope.names (cloFrom X.env.cells scope.names [])) fp
  have Vx := hv s3 (upd HI D (.dT [])) s3.heap.objs.size (cellsFrom (s3.heap.objs.size + 1) scope.names (cloFrom X.env.cells scope.names [])) fp
  rw [← e3]
  show codeAny _ _ (.compStart _ 0 (.ref it) (.ref D) (compEnvC scope (cellsFrom (s3.heap.objs.size + 1) scope.names (cloFrom X.env.cells scope.names [])) s3.heap.objs.size X.env)) _ { s3 with heap := pushCells (s3.heap.push { cls := .type "dict", data := .dict #[] }) scope.names }
  generalize eC : compEnvC scope (cellsFrom (s3.heap.objs.size + 1) scope.names (cloFrom X.env.cells scope.names [])) s3.heap.objs.size X.env = ce at I4 G Kx Vx ⊢
  have cL : ce.locals = s3.heap.objs.size := by rw [← eC]; rfl
  have nfp : ∀ b ∈ fp, (upd HI D (.dT [])) b = none := fun b hb => (foot b hb).1.1
  generalize upd HI D (.dT []) = H3 at I3 I4 G Kx Vx w0 nfp foot
  generalize e4 : ({ s3 with heap := pushCells (s3.heap.push { cls := .type "dict", data := .dict #[] }) scope.names } : Shared) = s4 at I4 ⊢
  have st4 : tn 0 s4.heap := T.keep _ _ _ st3 fun b _ o e => by rw [← e4]; exact pushCells_keeps _ _ _ _ (Heap.get?_push_of_some _ e)
  have stay : ∀ {σ' : L2.St} {H' : Hp} {s' : Shared}, Inv (X.blk s3 H3 scope ce fp) [] σ' H' s' → (∀ b ∈ fp, H' b = none) → ∀ b ∈ fp, FpOk (X.blk s3 H3 scope ce fp) [] H' b := fun {σ' H' s'} I' n b hb =>
    ⟨n b hb, (I'.ok.exf b hb).1, I'.ok.exfs b hb, .inl hb, fun x c e => (I'.ok.exf b hb).2 x c e, fun p hp => absurd (show p ∈ ([] : List (Addr × Obj)) ++ [] from hp) (by simp)⟩
  refine codeAny_compStart_dict ?loop (T.self X.A 0 _ _ _ st4 ?loop)
  refine compLoop_anyD (fun n s' => ∃ i Hi, Inv (X.blk s3 H3 scope ce fp) [] (wipe σ (own.map (·.2))) Hi s' ∧ tn i s'.heap ∧ (∀ b ∈ fp, Hi b = none) ∧ W i n Hi) ?_ m0 ⟨0, H3, I4, st4, nfp, w0⟩
  rintro n s5 ⟨i, H5, I5, st5, n5, w5⟩
  rcases turn i n H5 w5 with ⟨stop, done⟩ | ⟨go, Nx, less, step⟩
  · refine thnF (T.done (X.blk s3 H3 scope ce fp) rfl rfl rfl hc i [] s5 _ H5 (fun _ _ => False) I5 (stay I5 n5) st5 stop) fun r s6 ⟨er, I6⟩ => ?_
    subst er
    have I7 : Inv X pins σ H5 s6 := I3.call' (ch := fp) I6.os I6.base I6.hok I6.bare fun b hb => ⟨(foot b hb).1.2.2.2.1, (foot b hb).1.2.1, (foot b hb).1.2.2.2.2.1, (foot b hb).1.2.2.2.2.2⟩
    have nC : H5 s3.heap.objs.size = none := by rw [← cL]; exact I6.free
    obtain ⟨m, ns, _⟩ := I6.loc
    have ns : s6.heap.Ns ce.locals m := ns
    rw [cL] at ns
    exact out D s3.heap.objs.size s6 m H5 I7 done ns (I3.fpOk (Nat.le_refl _) nC)
  · refine thnF (T.item (X.blk s3 H3 scope ce fp) rfl rfl rfl hc i [] s5 _ H5 (fun _ _ => False) I5 (stay I5 n5) st5 go) fun r s6 ⟨u, er, h6⟩ => ?_
    subst er
    refine thnF h6 fun _ s7 ⟨x, H7, I7, r7, y7, st7, n7⟩ => ?_
    refine thnF (G.run _ s7 _ H7 x u _ (I7.pinned (stay I7 n7) (T.obj _ _ st7)) r7 (step x H7 y7)) fun _ s8 ⟨σ8, H8, I8, wi8, q8⟩ => ?_
    refine thnF ((pts_nil (X := X.blk s3 H3 scope ce fp)).run _ s8 σ8 H8 (fun b H' => b = true ∧ H' = H8) I8 ⟨rfl, rfl⟩) fun b s9 ⟨H9, I9, eb, e9⟩ => ?_
    subst eb e9
    simp only [if_true]
    refine thnF (Kx.run _ s9 σ8 _ _ I9 q8) fun ku s10 ⟨yk, H10, I10, r10, q10⟩ => ?_
    refine thnF (Vx.run _ s10 σ8 H10 _ I10 q10) fun vu s11 ⟨yv, H11, I11, r11, b, kvs, k, ek, hb, hD, hz, nx⟩ => ?_
    subst ek
    obtain rfl : ku = Value.ref b := r10
    refine put_key (X := X.blk s3 H3 scope ce fp) hu I11 hD hb hz r11 fun s12 I12 => ?_
    obtain ⟨m', lt, w'⟩ := less _ nx
    have pin : ∀ b ∈ fp, ∀ o, s7.heap.get? b = some o → s12.heap.get? b = some o ∧ (upd H11 D (.dT (putK kvs k yv))) b = none := fun b hb o e =>
      let z := I12.pin (b, o) (List.mem_append_right _ (List.mem_append_right _ (mem_pinsAt hb e)))
      ⟨z.1, z.2.1⟩
    have ls : (wipe σ (own.map (·.2))).length = σ8.length := by rw [← wi8, wipe_length]
    refine ⟨m', lt, i + 1, _, (I12.unpinned (pins := [])).weak ls (fun j v e => ?_), T.keep _ _ _ st7 fun b hb o e => (pin b hb o e).1, fun b hb => ?_, w'⟩
    · rw [← wi8] at e
      exact (wipe_some e).1
    · obtain ⟨o, e, _⟩ := T.obj _ _ st7 b hb
      exact (pin b hb o e).2
theorem pe_dt {kx vx tg iter : Expr} {scope : Scope} {own : List (Str × Nat)} {pos : Pos} {wi : TI} {g : TG} {tk tv : TE} (hu : X.A.units < cLine) (hc : X.calm = true) (hN : X.N.Nodup) (hi : PI X tg iter wi) (ok : BlkOk X.N X.env.scope scope own)
    (hg : ∀ (s : Shared) (H : Hp) (C : Addr) (cl : List (Str × Addr)) (fp : List Addr), PG (X.blk s H scope (compEnvC scope cl C X.env) fp) tg g)
    (hk : ∀ (s : Shared) (H : Hp) (C : Addr) (cl : List (Str × Addr)) (fp : List Addr), PE (X.blk s H scope (compEnvC scope cl C X.env) fp) kx tk)
    (hv : ∀ (s : Shared) (H : Hp) (C : Addr) (cl : List (Str × Addr)) (fp : List Addr), PE (X.blk s H scope (compEnvC scope cl C X.env) fp) vx tv) (hs : ∀ x, foldedSetIterable iter X.env x = pure x := by intro _; rfl) :
    PE X (.DictComp kx vx [⟨tg, iter, [], 0⟩] scope pos) (tDt wi g tk tv (own.map (·.2))) := by
  refine ⟨fun pins s σ H Q I h => ?_⟩
  rw [arm_eval_DictComp]
  refine core hu hc hN I hi ok hg hk hv hs h fun D C s' m H' I' q ns f => ⟨m, ns, fun h'' sb => ?_⟩
  obtain ⟨g0, g1, g2, g3, g4, g5⟩ := f
  exact ⟨.ref D, H', I'.turned (t' := s'.toks) (fun b o hb e => (sb.2 b hb).trans e) g0 g1 g3 g4 g5, rfl, q⟩
/-- put into a local name on one line -/
theorem ps_setDt {i : Nat} {y : Str} {py : Pos} {kx vx tg iter : Expr} {scope : Scope} {own : List (Str × Nat)} {pos spos : Pos} {wi : TI} {g : TG} {tk tv : TE} (hu : X.A.units < cLine) (hc : X.calm = true) (hN : X.N.Nodup) (hy : X.N[i]? = some y) (hyl : X.env.scope.names.lookup y = some .local)
    (hsw : swapsWith (.DictComp kx vx [⟨tg, iter, [], 0⟩] scope pos) (some (.Name y py)) spos.line X.env = pure true) (hi : PI X tg iter wi) (ok : BlkOk X.N X.env.scope scope own)
    (hg : ∀ (s : Shared) (H : Hp) (C : Addr) (cl : List (Str × Addr)) (fp : List Addr), PG (X.blk s H scope (compEnvC scope cl C X.env) fp) tg g)
    (hk : ∀ (s : Shared) (H : Hp) (C : Addr) (cl : List (Str × Addr)) (fp : List Addr), PE (X.blk s H scope (compEnvC scope cl C X.env) fp) kx tk)
    (hv : ∀ (s : Shared) (H : Hp) (C : Addr) (cl : List (Str × Addr)) (fp : List Addr), PE (X.blk s H scope (compEnvC scope cl C X.env) fp) vx tv) (hs : ∀ x, foldedSetIterable iter X.env x = pure x := by intro _; rfl) :
    PS X (.Assign [.Name y py] (.DictComp kx vx [⟨tg, iter, [], 0⟩] scope pos) spos) (tAsg (tDt wi g tk tv (own.map (·.2))) (gName i)) := by
  refine ⟨fun pins s σ H D I h => ?_⟩
  rw [exec_Assign_Name_used _ _ _ _ hsw]
  refine wpAny_bind (wpAny_standAt (wpAny_bind ?_))
  show wpAny _ X.A (do let _ ← comprehension (.DictComp kx vx [⟨tg, iter, [], 0⟩] scope pos) scope X.env (firstIterPos [⟨tg, iter, [], 0⟩] pos) newDict false (eval iter X.env) (some (assign (.Name y py) X.env))) _ _ s
  have h : tDt wi g tk tv (own.map (·.2)) σ H (fun x H1 => gName i x σ H1 D.nx) := h
  refine wpAny_bind (thn (core (Qf := fun _ s' => SP X pins D .next s') hu hc hN I hi ok hg hk hv hs h fun L C s' m H' I' q ns f => ?_) fun _ s' hq => wpAny_pure (wpAny_pure hq))
  show wpAny _ _ (assign (.Name y py) X.env (.ref L)) _ _ _
  refine wpAny_assign_Name (store_ok2 (v := V.ref L) I' hN hy (.inl hyl) rfl (fun s2 I2 ⟨a, sb, ha⟩ => ?_) (.inr hyl))
  obtain ⟨g0, g1, g2, g3, g4, g5⟩ := f
  have ca : C ≠ a := by
    rcases ha with z | z
    · rw [z]; exact g1
    · exact fun e => g4 y a z e.symm
  refine ⟨m, ns.sameBut sb ca, fun h3 sb3 => ?_⟩
  exact ⟨_, H', I2.turned (t' := s2.toks) (fun b o hb e => (sb3.2 b hb).trans e) g0 g1 g3 g4 g5, q⟩
end
/-- over anything that is walked -/
theorem dt_it {J : It} {n : Nat} {G : Hp → Prop} {Y : Nat → Hp → V → Hp → Prop} (w : Walk J n G Y) {g : TG} {tk tv : TE} {vs : List Nat} {σ : L2.St} {H1 : Hp} {D : Addr} {Qd : Hp → Prop} (Pv : Nat → Hp → Prop) (h0 : Pv 0 (upd H1 D (.dT []))) (hG : ∀ i H, i ≤ n → Pv i H → G H)
    (hs : ∀ i x H H', i < n → Pv i H → Y i H x H' → g x (wipe σ vs) H' fun σ2 H2 => wipe σ2 vs = wipe σ vs ∧
      tk σ2 H2 fun y H3 => tv σ2 H3 fun z H4 => ∃ (b : Addr) (kvs : List (List Key × V)) (k : List Key), y = .ref b ∧ H4 b = some (.tup (k.map kV)) ∧ H4 D = some (.dT kvs) ∧ kvs.length < sizeLine ∧ Pv (i + 1) (upd H4 D (.dT (putK kvs k z)))) (hd : ∀ H, Pv n H → Qd H) :
    ∃ W : Nat → Nat → Hp → Prop, (∃ m, W 0 m (upd H1 D (.dT []))) ∧ ∀ i m Hi, W i m Hi →
      (J.stop i Hi ∧ Qd Hi) ∨ (J.go i Hi ∧ ∃ Nx : Hp → Prop, (∀ H', Nx H' → ∃ m', m' < m ∧ W (i + 1) m' H') ∧ ∀ x H', J.yld i Hi x H' → g x (wipe σ vs) H' fun σ2 H2 => wipe σ2 vs = wipe σ vs ∧
        tk σ2 H2 fun y H3 => tv σ2 H3 fun z H4 => ∃ (b : Addr) (kvs : List (List Key × V)) (k : List Key), y = .ref b ∧ H4 b = some (.tup (k.map kV)) ∧ H4 D = some (.dT kvs) ∧ kvs.length < sizeLine ∧ Nx (upd H4 D (.dT (putK kvs k z)))) := by
  refine ⟨fun i m H => m + i = n ∧ Pv i H, ⟨n, by simp, h0⟩, ?_⟩
  rintro i m H ⟨em, p⟩
  have hi : i ≤ n := by omega
  have q := hG i H hi p
  rcases Nat.lt_or_eq_of_le hi with lt | e
  · exact .inr ⟨w.goes i H lt q, Pv (i + 1), fun H' p' => ⟨n - (i + 1), by omega, by omega, p'⟩, fun x H' y => hs i x H H' lt p (w.yields i H x H' lt q y)⟩
  · subst e
    exact .inl ⟨w.stops H q, hd H p⟩
end DCT
set_option Elab.async false
set_option linter.all false
set_option maxRecDepth 100000
set_option maxHeartbeats 4000000
/-! sorted(xs), xs a list of data at any depth -/
namespace SRT
open PySem PySem.Spec PyProof.Rows L2
/-- p stands not behind q -/
def leD (p q : V × PyData) : Bool := !PySem.W.dataLt q.2 p.2
/-- the sorted list -/
def srt (xs : List V) (ds : List PyData) : List V := ((xs.zip ds).mergeSort leD).map Prod.fst
theorem len_of {K : PySem.W.Frag} {H : Hp} : ∀ {xs : List V} {ds : List PyData}, DpAll K H xs ds → xs.length = ds.length
  | _, _, .nil => rfl
  | _, _, .cons _ t => congrArg (· + 1) (len_of t)
theorem srt_perm {xs : List V} {ds : List PyData} (h : xs.length = ds.length) : (srt xs ds).Perm xs := by
  unfold srt
  refine ((List.mergeSort_perm _ _).map Prod.fst).trans ?_
  rw [List.map_fst_zip (by omega)]
theorem vals_each : ∀ {xs : List V} {us : List Value} {ds : List PyData}, Vals xs us → xs.length = ds.length → PySem.W.EachIs (fun v (b : V × PyData) => RelV b.1 v) us (xs.zip ds)
  | [], _, [], .nil, _ => .nil
  | x :: xs, _, d :: ds, .cons r rs, h => .cons r (vals_each rs (by simpa using h))
theorem each_vals : ∀ {us : List Value} {bs : List (V × PyData)}, PySem.W.EachIs (fun v (b : V × PyData) => RelV b.1 v) us bs → Vals (bs.map Prod.fst) us
  | _, _, .nil => .nil
  | _, _, .cons r rs => .cons r (each_vals rs)
def rSortedD (K : PySem.W.Frag) : List V → Hp → VK → Prop := fun vs H Q => ∃ (a : Addr) (xs : List V) (ds : List PyData), vs = [V.ref a] ∧ (SqL K H a xs ∨ SqT K H a xs) ∧ DpAll K H xs ds ∧ PySem.W.AllAlike ds ∧ PySem.W.Sortable ds ∧ (∀ d ∈ ds, d.depth ≤ 60) ∧
  ∀ p : Addr, H p = none → Q (.ref p) (upd H p (.lst (srt xs ds)))
/-! sorted of a tuple -/
section
variable {prog : Program} {w : World} {A : Around} {E : Value → Shared → Prop} {s : Shared} {κ : KeyKind}
theorem gather_tup {b : Addr} {us : List Value} {R : List Value → Shared → Prop} (ht : s.heap.IsTuple b us.toArray) (hz : us.length ≤ sizeLine)
    (h : R us { s with heap := (s.heap.push (seqObj "list" #[] 0)).update s.heap.objs.size (Obj.mapSeq (· ++ us.toArray)) }) : wpAny (model prog w) A (collect (.ref b)) R E s := by
  obtain ⟨ob, e1, e2, k, e3⟩ := id ht
  have e4 : (s.heap.push (seqObj "list" #[] 0)).get? b = some ob := Heap.get?_push_of_some _ e1
  have em : (s.heap.push (seqObj "list" #[] 0)).get? s.heap.objs.size = some (seqObj "list" #[] 0) := Heap.get?_push_size _ rfl
  unfold collect
  refine wpAny_bind (wpAny_runValue (codeAny_builtin entry_proto_collect' ?_))
  show wpAny _ _ (do again (.builtin "list.__iadd__" ⟨[← newList [], .ref b], []⟩)) _ _ s
  refine wpAny_bind (wpAny_newList (wpAny_pure ⟨Code.quiet_builtin _ (by decide +kernel), codeAny_builtin entry_list_iadd' ?_⟩))
  show wpAny _ _ (Builtin.List.listExtendWith (.ref s.heap.objs.size) (.ref b) (.ref s.heap.objs.size)) _ _ { s with heap := s.heap.push (seqObj "list" #[] 0) }
  unfold Builtin.List.listExtendWith
  refine wpAny_bind (wpAny_typeOf (T := "tuple") ⟨ob, e4, e2⟩ ?_)
  have et : (Value.type "tuple" == Value.type "tuple") = true := by rfl
  rw [if_pos (by rw [et]; simp)]
  refine wpAny_bind (listItems_at e4 e3 (wpAny_bind (listItems_at em rfl ?_)))
  rw [if_neg (by simp)]
  refine wpAny_bind (listUpdate_at em rfl ?_ (Nat.zero_le _) (by simp only [Array.size_append, List.size_toArray, List.length_nil]; omega))
  refine wpAny_pure ?_
  show wpAny (model prog w) A (load s.heap.objs.size >>= fun o => match o.data with | .seq xs _ => pure xs.toList | _ => unsupported "internal:collect") R E _
  refine wpAny_bind (wpAny_load (get?_update_seq em _) ?_)
  show wpAny _ _ (pure ((#[] : Array Value) ++ us.toArray).toList) R E _
  have e5 : ((#[] : Array Value) ++ us.toArray).toList = us := by simp
  rw [e5]
  exact wpAny_pure h
theorem sorted_tupV {b : Addr} {us : List Value} {R : Value → Shared → Prop} (ht : s.heap.IsTuple b us.toArray) (hz : us.length ≤ sizeLine)
    (S : PySem.W.SortsAt prog w A.in1.in1 { s with heap := PySem.W.sortingHeap (PySem.W.copyHeap s.heap us) (s.heap.objs.size + 1) us } κ us)
    (h : R (.ref (s.heap.objs.size + 1)) { s with heap := sortedAll s.heap us (PySem.W.sortVals κ false us us).toArray }) : wpAny (model prog w) A (call (.builtin "sorted") [.ref b]) R E s := by
  refine Calls.call_function_entry kind_sorted plain_sorted entry_sorted (args_sorted1 _) ?_
  unfold Builtin.«sorted»
  refine wpAny_bind (m := checkCount "sorted" 1 1 _) (wpAny_pure (wpAny_bind (gather_tup ht hz (wpAny_bind (wpAny_newList ?_ hz)))))
  have e : ((s.heap.push (seqObj "list" #[] 0)).update s.heap.objs.size (Obj.mapSeq (· ++ us.toArray))).objs.size = s.heap.objs.size + 1 := (Heap.size_update ..).trans (size_push' ..)
  show wpAny _ _ _ _ _ { s with heap := PySem.W.copyHeap s.heap us }
  rw [e]
  refine wpAny_bind (wpAny_holding (wpAny_call_entry slot_list_sort ⟨_, PySem.W.copyHeap_at s.heap us, rfl⟩ entry_list_sort ?_ (args_list_sort _)))
  exact PySem.W.list_sort_vals (s := { s with heap := PySem.W.copyHeap s.heap us }) (PySem.W.copyHeap_at s.heap us) S hz ⟨_, rfl, wpAny_pure ⟨_, rfl, h⟩⟩
end
section
variable {X : Cx} {pins : List (Addr × Obj)} {σ : L2.St} {H : Hp} {s : Shared}
theorem reads_each (I : Inv X pins σ H s) : ∀ {ds : List PyData} {vs : List V} {us : List Value}, DpAll X.K H vs ds → Vals vs us → PySem.W.EachIs (fun v d => ∃ as, Reads s.heap v d as) us ds
  | [], _, _, h, r => by
    cases h
    cases r
    exact .nil
  | d :: ds, _, _, h, r => by
    cases h with
    | cons h1 h2 =>
      cases r with
      | cons r1 r2 => exact .cons (Dp.reads I d _ _ h1 r1) (reads_each I h2 r2)
theorem cr_sortedD (hu : X.A.units + 64 < cLine) : CallR X (.builtin "sorted") (rSortedD X.K) := by
  intro pins s σ H vs us Q I r h
  obtain ⟨a, xs, ds, rfl, hs, hd, al, so, dp, q⟩ := h
  rw [Vals.ref1 r]
  have ln := len_of hd
  have main : ∀ its : List Value, Vals xs its → xs.length ≤ sizeLine → ∃ κ : KeyKind, PySem.W.SortsAt X.prog X.w X.A.in1.in1 { s with heap := PySem.W.sortingHeap (PySem.W.copyHeap s.heap its) (s.heap.objs.size + 1) its } κ its ∧
      EP X pins σ Q (.ref (s.heap.objs.size + 1)) { s with heap := sortedAll s.heap its (PySem.W.sortVals κ false its its).toArray } := fun its rv hz => by
    have e := reads_each I hd rv
    have e2 : PySem.W.EachIs (fun v d => ∃ as, Reads (PySem.W.sortingHeap (PySem.W.copyHeap s.heap its) (s.heap.objs.size + 1) its) v d as) its ds := e.mono fun v d ⟨as, h⟩ => ⟨as, Reads.keeps (fun b o z => PySem.W.sorting_copy_old z) h⟩
    have S := PySem.W.SortsAt.data (prog := X.prog) (w := X.w) (A := X.A.in1.in1) (s := { s with heap := PySem.W.sortingHeap (PySem.W.copyHeap s.heap its) (s.heap.objs.size + 1) its }) e2 al so (fun d hd => by have := dp d hd; show X.A.units + 1 + 1 + d.depth < cLine; omega)
    refine ⟨_, S, ?_⟩
    have ek : PySem.W.EachIs (fun v (b : V × PyData) => (PySem.W.dataKind (PySem.W.sortingHeap (PySem.W.copyHeap s.heap its) (s.heap.objs.size + 1) its) ds).keyOf v = some (PySem.W.keyToks b.2)) its (xs.zip ds) := by
      have f := PySem.W.each_keys al e2
      have mz : (xs.zip ds).map Prod.snd = ds := List.map_snd_zip (by omega)
      rw [← mz] at f
      have f' := PySem.W.each_of_map (fun b : V × PyData => b.2) f
      rw [mz] at f'
      exact f'
    have eo := PySem.W.sortVals_each (κ := PySem.W.dataKind (PySem.W.sortingHeap (PySem.W.copyHeap s.heap its) (s.heap.objs.size + 1) its) ds) (rev := false) (fun b : V × PyData => PySem.W.keyToks b.2) (vals_each rv ln) ek
    have vo := each_vals eo
    generalize PySem.W.sortVals _ false its its = out at vo ⊢
    obtain ⟨ep, he'⟩ := PyProof.Rows.sortedAll_at s.heap its out.toArray
    have hlen : (srt xs ds).length ≤ sizeLine := by rw [(srt_perm ln).length_eq]; exact hz
    exact ⟨.ref _, upd H (s.heap.objs.size + 1) (.lst (srt xs ds)), I.laid (t' := s.toks) (fun _ _ => PyProof.Rows.sortedAll_old) (Nat.le_succ _) ⟨hlen, out, ep, vo, he'⟩, rfl, q _ (I.hok.fresh (Nat.le_succ _))⟩
  rcases hs with hs | hs
  · obtain ⟨its, rv, hl, hz⟩ := I.list hs
    obtain ⟨κ, S, k⟩ := main its rv hz
    exact PySem.W.sorted_vals hl.isList S (by rw [← rv.length]; exact hz) k
  · obtain ⟨its, rv, hl, hz⟩ := I.tuple hs
    obtain ⟨κ, S, k⟩ := main its rv hz
    exact sorted_tupV hl (by rw [← rv.length]; exact hz) S k
/-- texts -/
def leS (x y : Str) : Prop := ¬ y.cps.toList < x.cps.toList
theorem dpS {H : Hp} : ∀ xs : List Str, DpAll X.K H (xs.map V.str) (xs.map PyData.str)
  | [] => .nil
  | x :: xs => .cons (.str x) (dpS xs)
theorem srtS (xs : List Str) : ∃ ys : List Str, srt (xs.map V.str) (xs.map PyData.str) = ys.map V.str ∧ ys.Perm xs ∧ ys.Pairwise leS := by
  have tot := PySem.W.sortLe_total (listOrd itemOrd) false (fun p : V × PyData => PySem.W.keyToks p.2)
  have pw := PySem.W.sort_pairwise tot ((xs.map V.str).zip (xs.map PyData.str))
  have pm := List.mergeSort_perm ((xs.map V.str).zip (xs.map PyData.str)) leD
  have mem : ∀ p ∈ ((xs.map V.str).zip (xs.map PyData.str)).mergeSort leD, ∃ x, p = (V.str x, PyData.str x) := fun p hp => by
    have := pm.mem_iff.mp hp
    rw [List.zip_map'] at this
    obtain ⟨x, _, e⟩ := List.mem_map.mp this
    exact ⟨x, e.symm⟩
  have pw' : (((xs.map V.str).zip (xs.map PyData.str)).mergeSort leD).Pairwise fun a b => leD a b = true := pw
  unfold srt
  generalize ((xs.map V.str).zip (xs.map PyData.str)).mergeSort leD = L at pm mem pw'
  have : ∃ ys : List Str, L = ys.map fun x => (V.str x, PyData.str x) := by
    clear pm pw'
    induction L with
    | nil => exact ⟨[], rfl⟩
    | cons p L ih =>
      obtain ⟨x, e⟩ := mem p List.mem_cons_self
      obtain ⟨ys, e2⟩ := ih fun q hq => mem q (List.mem_cons_of_mem _ hq)
      exact ⟨x :: ys, by rw [e, e2]; rfl⟩
  obtain ⟨ys, rfl⟩ := this
  refine ⟨ys, ?_, ?_, ?_⟩
  · rw [List.map_map]
    rfl
  · have p2 := pm.map fun p : V × PyData => match p.1 with | .str x => x | _ => ""
    rw [List.map_map, List.zip_map', List.map_map] at p2
    simpa [Function.comp_def] using p2
  · refine (List.pairwise_map.mp pw').imp fun {a b} h => ?_
    have h' : (!PySem.W.dataLt (.str b) (.str a)) = true := h
    rw [PySem.W.dataLt_str] at h'
    simpa [leS] using h'
/-- sorted of texts, a list or a tuple -/
def rSortedTx (K : PySem.W.Frag) : List V → Hp → VK → Prop := fun vs H Q => ∃ (a : Addr) (xs : List Str), vs = [V.ref a] ∧ (SqL K H a (xs.map V.str) ∨ SqT K H a (xs.map V.str)) ∧
  ∀ (ys : List Str) (p : Addr), ys.Perm xs → ys.Pairwise leS → H p = none → Q (.ref p) (upd H p (.lst (ys.map V.str)))
theorem cr_sortedTx (hu : X.A.units + 64 < cLine) : CallR X (.builtin "sorted") (rSortedTx X.K) := by
  intro pins s σ H vs us Q I r h
  obtain ⟨a, xs, rfl, hs, q⟩ := h
  obtain ⟨ys, e, pm, pw⟩ := srtS xs
  refine cr_sortedD hu pins s σ H _ us Q I r ⟨a, _, xs.map PyData.str, rfl, hs, dpS xs, fun d h1 d' h2 => ?_, .inr fun d h1 => ?_, fun d h1 => ?_, fun p fp => ?_⟩
  · obtain ⟨x, _, rfl⟩ := List.mem_map.mp h1
    obtain ⟨y, _, rfl⟩ := List.mem_map.mp h2
    rfl
  · obtain ⟨x, _, rfl⟩ := List.mem_map.mp h1
    refine ⟨fun z => ?_, fun l z => ?_⟩ <;> cases z
  · obtain ⟨x, _, rfl⟩ := List.mem_map.mp h1
    show 0 ≤ 60
    decide
  · rw [e]
    exact q ys p pm pw fp
end
end SRT
set_option Elab.async false
set_option linter.all false
set_option maxRecDepth 100000
set_option maxHeartbeats 4000000
/-! SDC: a dict comprehension assigned to a plain local on one line; a dict comprehension over a list. -/
namespace SDC
open PySem PySem.Spec PyProof.Rows L2
section
variable {X : Cx}
theorem ps_setDc {i : Nat} {y : Str} {py : Pos} {kx vx tg iter : Expr} {ifs : List Expr} {scope : Scope} {own : List (Str × Nat)} {pos spos : Pos} {wi : TI} {g : TG} {tt : TT} {tk tv : TE} (hc : X.calm = true) (hN : X.N.Nodup) (hy : X.N[i]? = some y) (hyl : X.env.scope.names.lookup y = some .local)
    (hsw : swapsWith (.DictComp kx vx [⟨tg, iter, ifs, 0⟩] scope pos) (some (.Name y py)) spos.line X.env = pure true) (hi : PI X tg iter wi) (ok : BlkOk X.N X.env.scope scope own)
    (hg : ∀ (s : Shared) (H : Hp) (C : Addr) (cl : List (Str × Addr)) (fp : List Addr), PG (X.blk s H scope (compEnvC scope cl C X.env) fp) tg g) (ht : ∀ (s : Shared) (H : Hp) (C : Addr) (cl : List (Str × Addr)) (fp : List Addr), PTs (X.blk s H scope (compEnvC scope cl C X.env) fp) ifs tt)
    (hk : ∀ (s : Shared) (H : Hp) (C : Addr) (cl : List (Str × Addr)) (fp : List Addr), PE (X.blk s H scope (compEnvC scope cl C X.env) fp) kx tk)
    (he : ∀ (s : Shared) (H : Hp) (C : Addr) (cl : List (Str × Addr)) (fp : List Addr), PE (X.blk s H scope (compEnvC scope cl C X.env) fp) vx tv) (hs : ∀ x, foldedSetIterable iter X.env x = pure x := by intro _; rfl) :
    PS X (.Assign [.Name y py] (.DictComp kx vx [⟨tg, iter, ifs, 0⟩] scope pos) spos) (tAsg (tDc wi g tt tk tv (own.map (·.2))) (gName i)) := by
  refine ⟨fun pins s σ H D I h => ?_⟩
  rw [exec_Assign_Name_used _ _ _ _ hsw]
  refine wpAny_bind (wpAny_standAt (wpAny_bind ?_))
  show wpAny _ X.A (do let _ ← comprehension (.DictComp kx vx [⟨tg, iter, ifs, 0⟩] scope pos) scope X.env (firstIterPos [⟨tg, iter, ifs, 0⟩] pos) newDict false (eval iter X.env) (some (assign (.Name y py) X.env))) _ _ s
  have h : tDc wi g tt tk tv (own.map (·.2)) σ H (fun x H1 => gName i x σ H1 D.nx) := h
  refine wpAny_bind (thn (dc_core (Qf := fun _ s' => SP X pins D .next s') hc hN I hi ok hg ht hk he hs h fun L C s' m H' I' q hn f => ?_) fun _ s' hq => wpAny_pure (wpAny_pure hq))
  show wpAny _ _ (assign (.Name y py) X.env (.ref L)) _ _ _
  refine wpAny_assign_Name (store_ok2 (v := V.ref L) I' hN hy (.inl hyl) rfl (fun s2 I2 ⟨a, sb, ha⟩ => ?_) (.inr hyl))
  obtain ⟨f0, f1, f2, f3, f4, f5⟩ := f
  have haC : C ≠ a := by
    rcases ha with z | z
    · rw [z]; exact f1
    · exact fun e => f4 y a z e.symm
  refine ⟨m, hn.sameBut sb haC, fun h3 sb3 => ?_⟩
  exact ⟨_, H', I2.turned (t' := s2.toks) (fun b o hb e => (sb3.2 b hb).trans e) f0 f1 f3 f4 f5, q⟩
theorem sw_true {kx vx : Expr} {gs : List Comprehension} {scope : Scope} {pos py : Pos} {y : Str} {l : Nat} {env : Env} (hk : env.scope.kind = .function) (hy : env.scope.names.lookup y = some .local) (hl : (py.line == pos.line) = true)
    (ha : (scope.names.any fun (n, k) => n == y && (k == .local || k == .cell)) = false) : swapsWith (.DictComp kx vx gs scope pos) (some (.Name y py)) l env = pure true := by
  have ky : env.kindOf y = some .local := hy
  have hb : env.blockKind = .function := by unfold Env.blockKind; rw [hk]; rfl
  unfold swapsWith
  simp only [hb, ky, ha, Expr.pos, hl]
  rfl
end
theorem dc_list {K : PySem.W.Frag} {a : Addr} {xs : List V} {g : TG} {tt : TT} {tk tv : TE} {vs : List Nat} {σ : L2.St} {H1 : Hp} {D : Addr} {Qd : Hp → Prop} (Pv : Nat → Hp → Prop) (h0 : Pv 0 (upd H1 D (.dK []))) (hl : ∀ i H, i ≤ xs.length → Pv i H → SqL K H a xs)
    (hs : ∀ i x H, xs[i]? = some x → Pv i H → g x (wipe σ vs) H fun σ2 H2 => wipe σ2 vs = wipe σ vs ∧ tt σ2 H2 fun b H3 =>
      if b = true then tk σ2 H3 fun y H4 => tv σ2 H4 fun z H5 => ∃ kvs k, y = kV k ∧ H5 D = some (.dK kvs) ∧ kvs.length < sizeLine ∧ Pv (i + 1) (upd H5 D (.dK (putK kvs k z))) else Pv (i + 1) H3) (hd : ∀ H, Pv xs.length H → Qd H) :
    ∃ W : Nat → Nat → Hp → Prop, (∃ m, W 0 m (upd H1 D (.dK []))) ∧ ∀ i m H, W i m H →
      ((Itl K a).stop i H ∧ Qd H) ∨ ((Itl K a).go i H ∧ ∃ Nx : Hp → Prop, (∀ H', Nx H' → ∃ m', m' < m ∧ W (i + 1) m' H') ∧ ∀ x H', (Itl K a).yld i H x H' → g x (wipe σ vs) H' fun σ2 H2 => wipe σ2 vs = wipe σ vs ∧ tt σ2 H2 fun b H3 =>
        if b = true then tk σ2 H3 fun y H4 => tv σ2 H4 fun z H5 => ∃ kvs k, y = kV k ∧ H5 D = some (.dK kvs) ∧ kvs.length < sizeLine ∧ Nx (upd H5 D (.dK (putK kvs k z))) else Nx H3) := by
  refine ⟨fun i m H => m = xs.length - i ∧ i ≤ xs.length ∧ Pv i H, ⟨xs.length, by simp, Nat.zero_le _, h0⟩, ?_⟩
  rintro i m H ⟨rfl, hi, p⟩
  have q := hl i H hi p
  by_cases hlt : i < xs.length
  · refine .inr ⟨⟨xs, xs[i], q, by simp [hlt]⟩, Pv (i + 1), fun H' p' => ⟨xs.length - (i + 1), by omega, rfl, hlt, p'⟩, fun x H' y => ?_⟩
    obtain ⟨e, y⟩ := y
    subst e
    exact hs i x _ (y xs q) p
  · have e : i = xs.length := by omega
    subst e
    exact .inl ⟨⟨xs, q, Nat.le_refl _⟩, hd H p⟩
/-- a row that is put anew comes from one of the row -/
theorem perm_inv {α β : Type} {f : α → β} : ∀ {l' z : List β}, l'.Perm z → ∀ {l : List α}, l.map f = z → ∃ m : List α, m.Perm l ∧ l' = m.map f := by
  intro l' z h
  induction h with
  | nil =>
    intro l e
    cases l with
    | nil => exact ⟨[], .nil, rfl⟩
    | cons _ _ => cases e
  | cons x h ih =>
    intro l e
    cases l with
    | nil => cases e
    | cons a as =>
      simp only [List.map_cons, List.cons.injEq] at e
      obtain ⟨m, p, rfl⟩ := ih e.2
      exact ⟨a :: m, p.cons a, by rw [List.map_cons, e.1]⟩
  | swap x y t =>
    intro l e
    match l, e with
    | a :: b :: t', e =>
      simp only [List.map_cons, List.cons.injEq] at e
      obtain ⟨e1, e2, e3⟩ := e
      exact ⟨b :: a :: t', List.Perm.swap _ _ _, by rw [List.map_cons, List.map_cons, e1, e2, e3]⟩
  | trans h1 h2 ih1 ih2 =>
    intro l e
    obtain ⟨m2, p2, e2⟩ := ih2 e
    obtain ⟨m1, p1, e1⟩ := ih1 e2.symm
    exact ⟨m1, p1.trans p2, e1⟩
end SDC
set_option Elab.async false
set_option linter.all false
set_option maxRecDepth 100000
set_option maxHeartbeats 4000000
namespace K32
open PySem PySem.Spec PyProof.Rows L2
open C8 (Cal Mak Met pe_c pe_mk pe_mt pe_mt0)
open LamX (Tabs ExtN TabB)
open SX (S)
/-- who drives by the line -/
def DrvL (ln R : List Str) (y : Str) : Prop := (ln.filter fun x => decide (x ∈ R))[0]? = some y
/-- the line behind a day -/
def nl (ln R : List Str) (y : Str) : List Str := if R.length = 1 then ln else (ln.filter fun x => !decide (x = y)) ++ [y]
theorem DrvL.same {ln R : List Str} {y z : Str} (a : DrvL ln R y) (b : DrvL ln R z) : y = z := Option.some.inj (a.symm.trans b)
theorem DrvL.mem {ln R : List Str} {y : Str} (a : DrvL ln R y) : y ∈ R ∧ y ∈ ln := by
  have := List.mem_filter.mp (List.mem_of_getElem? a)
  exact ⟨of_decide_eq_true this.2, this.1⟩
theorem DrvL.ex {xs ln R : List Str} (p : ln.Perm xs) (dy : DayOk xs R) : ∃ y, DrvL ln R y := by
  obtain ⟨y, hy⟩ := List.exists_mem_of_ne_nil R dy.ne
  have : y ∈ ln.filter fun x => decide (x ∈ R) := List.mem_filter.mpr ⟨p.mem_iff.mpr (dy.sub y hy), decide_eq_true hy⟩
  unfold DrvL
  cases e : ln.filter fun x => decide (x ∈ R) with
  | nil => rw [e] at this; cases this
  | cons z zs => exact ⟨z, rfl⟩
theorem nl_perm {xs ln R : List Str} {y : Str} (p : ln.Perm xs) (nd : xs.Nodup) (hy : y ∈ ln) : (nl ln R y).Perm xs := by
  unfold nl
  split
  · exact p
  · have nl : ln.Nodup := p.symm.nodup nd
    refine List.Perm.trans ?_ p
    refine (List.perm_append_singleton y _).trans ?_
    clear p nd
    induction ln with
    | nil => cases hy
    | cons z zs ih =>
      have nz := List.nodup_cons.mp nl
      by_cases e : z = y
      · subst e
        have : (zs.filter fun x => !decide (x = z)) = zs := List.filter_eq_self.mpr fun a ha => by
          have : a ≠ z := fun q => nz.1 (q ▸ ha)
          simp [this]
        simp [this]
      · have hy' : y ∈ zs := by
          rcases List.mem_cons.mp hy with q | q
          · exact absurd q.symm e
          · exact q
        have := ih hy' nz.2
        rw [List.filter_cons_of_pos (by simp [e])]
        exact (List.Perm.swap _ _ _).trans (this.cons z)
/-- a set amid its round -/
structure Ent where
  pt : Addr
  nt : Addr
  ns : List Str
  m : Nat
def NsOk (xs ns : List Str) : Prop := ns.length ≤ 8 ∧ ∀ x ∈ ns, x ∈ xs
def EntOk (xs : List Str) (H : Hp) (e : Ent) : Prop := H e.pt = some (.tup [.ref e.nt, .int (e.m : Nat)]) ∧ H e.nt = some (.tup (e.ns.map V.str)) ∧ e.m < e.ns.length ∧ NsOk xs e.ns ∧ 0 < e.m
/-- what a rule remembers, as data -/
inductive Mem where
  | crd (c : Str → Int)
  | line (ln : List Str)
  | rnd (L : List (List Str × Nat))
/-- what a rule remembers -/
def KeptOk (n : Nat) (w : Word) (xs : List Str) (H : Hp) (kp : Addr) (md : Mem) : Prop := match w with
  | .least _ => ∃ c : Str → Int, md = .crd c ∧ Crd H kp xs c ∧ ∀ x, (c x).natAbs ≤ 1000 * n
  | .longest => ∃ ln : List Str, md = .line ln ∧ H kp = some (.tup (ln.map V.str)) ∧ ln.Perm xs
  | .rounds => ∃ es : List Ent, md = .rnd (es.map fun e => (e.ns, e.m)) ∧ H kp = some (.tup (es.map fun e => V.ref e.pt)) ∧ (∀ e ∈ es, EntOk xs H e) ∧ es.length ≤ n
theorem EntOk.ext {xs : List Str} {H H' : Hp} {e : Ent} (h : EntOk xs H e) (k : ∀ a ys, H a = some (.tup ys) → H' a = some (.tup ys)) : EntOk xs H' e := ⟨k _ _ h.1, k _ _ h.2.1, h.2.2⟩
theorem KeptOk.ext {n : Nat} {w : Word} {xs : List Str} {H H' : Hp} {kp : Addr} {md : Mem} (h : KeptOk n w xs H kp md) (k : ∀ a ys, H a = some (.tup ys) → H' a = some (.tup ys)) : KeptOk n w xs H' kp md := by
  cases w with
  | least g => obtain ⟨c, em, h, b⟩ := h; exact ⟨c, em, k _ _ h, b⟩
  | longest => obtain ⟨ln, em, h, p⟩ := h; exact ⟨ln, em, k _ _ h, p⟩
  | rounds => obtain ⟨es, em, h, q, l⟩ := h; exact ⟨es, em, k _ _ h, fun e he => (q e he).ext k, l⟩
theorem KeptOk.same {n : Nat} {w : Word} {xs : List Str} {H H' : Hp} {kp : Addr} {md : Mem} (h : KeptOk n w xs H kp md) (s : Same H H') : KeptOk n w xs H' kp md := h.ext fun a ys e => s _ _ e
theorem KeptOk.extN {n : Nat} {w : Word} {xs : List Str} {H H' : Hp} {kp : Addr} {md : Mem} (h : KeptOk n w xs H kp md) (s : ExtN H H') : KeptOk n w xs H' kp md := h.ext fun a ys e => s _ _ e fun _ q => by cases q
theorem Rule3.extN {H H' : Hp} {r ot : Addr} {xs : List Str} {w : Word} (h : Rule3 H r ot xs w) (e : ExtN H H') : Rule3 H' r ot xs w := h.ext fun a ys z => e _ _ z fun _ q => by cases q
section
variable {P : Program} {w : World} {K : PySem.W.Frag} {mg : Str → Option Value} {base : Heap} {f C : Addr} {fd : FuncData}
def spFm : Sp := fun vs H Q _ => ∃ (r ot : Addr) (xs : List Str) (wd : Word), vs = [.ref r] ∧ Rule3 H r ot xs wd ∧ ∀ (t : Addr) (H' : Hp) (md : Mem), Same H H' → KeptOk 0 wd xs H' t md → Q (.ref t) H'
theorem ok_fm (F : Dn K d_first_memory f fd) (b2 : Bl2 mg) : FnOk P w K mg base CX0 1 f fd ["rule"] spFm := by
  refine F.ok sc_first_memory (fun vs H Q E h => ?_) (fun cdv A outer s H vs Q E hr h => ?_)
  · obtain ⟨r, ot, xs, g, rfl, _⟩ := h
    rfl
  · obtain ⟨r, ot, xs, wd, rfl, ⟨hrr, hot, ox, wok⟩, hQ⟩ := h
    have l8 := ox.l8
    cases wd with
    | longest =>
      have hrr : H r = some (.tup [.str "longest", .ref ot]) := hrr
      refine ⟨_, PSs.nox (pss_cons (ps_if (pt_cmpR op_eq (pe_ix ix_tup (pv 0) pe_int (fun _ _ => rfl)) pe_str (nomark _)) pss_never pss_nil)
        (pss_cons (ps_if (pt_cmpR op_eq (pe_ix ix_tup (pv 0) pe_int (fun _ _ => rfl)) pe_str (nomark _)) (pss_one (ps_ret (pe_ix ix_tup (pv 0) pe_int (fun _ _ => rfl)))) pss_nil) pss_never)), ?_⟩
      refine ⟨_, rfl, r, _, _, _, rfl, rfl, SqT.of hrr, rfl, rfl, _, rfl, ?_⟩
      rw [l_least]
      refine iteF ?_
      refine ⟨_, rfl, r, _, _, _, rfl, rfl, SqT.of hrr, rfl, rfl, _, rfl, iteT ?_⟩
      exact ⟨_, rfl, r, _, _, _, rfl, rfl, SqT.of hrr, rfl, hQ ot H _ (Same.refl _) ⟨xs, rfl, hot, List.Perm.refl _⟩⟩
    | rounds =>
      have hrr : H r = some (.tup [.str "rounds", .ref ot]) := hrr
      refine ⟨_, PSs.nox (pss_cons (ps_if (pt_cmpR op_eq (pe_ix ix_tup (pv 0) pe_int (fun _ _ => rfl)) pe_str (nomark _)) pss_never pss_nil)
        (pss_cons (ps_if (pt_cmpR op_eq (pe_ix ix_tup (pv 0) pe_int (fun _ _ => rfl)) pe_str (nomark _)) pss_never pss_nil) (pss_one (ps_ret (pe_tup pa_nil))))), ?_⟩
      refine ⟨_, rfl, r, _, _, _, rfl, rfl, SqT.of hrr, rfl, rfl, _, rfl, ?_⟩
      rw [r_least]
      refine iteF ?_
      refine ⟨_, rfl, r, _, _, _, rfl, rfl, SqT.of hrr, rfl, rfl, _, rfl, ?_⟩
      rw [r_longest]
      refine iteF ?_
      exact ⟨by show 0 ≤ sizeLine; decide, fun t ft => hQ t _ _ (same_new ft) ⟨[], rfl, upd_same, fun e he => (by cases he), Nat.le_refl _⟩⟩
    | least g =>
      have hrr : H r = some (.tup [.str "least", .ref ot, .int g]) := hrr
      refine ⟨_, PSs.nox (pss_cons (ps_if (pt_cmpR op_eq (pe_ix ix_tup (pv 0) pe_int (fun _ _ => rfl)) pe_str (nomark _)) (pss_one (ps_ret (pe_callTy call_tuple_of rfl b2.tup boot_tuple (pa_cons (pe_lc (own := [("name", 1)]) (g := gName 1) (tt := tYes) rfl sc_first_memory.nd (pi_tup (pe_ix ix_tup (pv 0) pe_int (fun _ _ => rfl))) (blkOk_by (N := N_first_memory) (sc := defScope s_first_memory) (by decide +kernel))
          (fun _ _ _ _ _ => pg_name (i := 1) sc_first_memory.nd rfl (Or.inl rfl)) (fun _ _ _ _ _ => pts_nil) (fun _ _ _ _ _ => pe_int)) pa_nil)))) pss_nil) pss_never), ?_⟩
      refine ⟨_, rfl, r, _, _, _, rfl, rfl, SqT.of hrr, rfl, rfl, _, rfl, iteT ?_⟩
      refine ⟨_, rfl, r, _, _, _, rfl, rfl, SqT.of hrr, rfl, ot, rfl, ⟨_, SqT.of hot⟩, fun D hD => lc_tup (fun i H2 => H2 D = some (.lst ((xs.take i).map fun _ => V.int 0)) ∧ Same H H2) ⟨upd_same, same_new hD⟩ (fun _ H2 _ z => SqT.of (z.2 _ _ hot)) ?_ ?_⟩
      · rintro i x H2 hx ⟨hd, sm⟩
        have hi' : i < xs.length := by
          have := (List.getElem?_eq_some_iff.mp hx).1
          simpa using this
        refine ⟨rfl, _, hd, ?_, ?_, ?_⟩
        · rw [List.length_map, List.length_take]
          exact Nat.lt_of_lt_of_le (by omega : min i xs.length < 64) (by decide)
        · rw [upd_same, zs_take xs i hi']
        · intro a o e
          rw [upd_ne (ne_of_none e hD)]
          exact sm a o e
      · rintro H2 ⟨hd, sm⟩
        rw [List.length_map, List.take_length] at hd
        exact ⟨D, _, rfl, .inl ⟨SqL.of hd, fun l fl => hQ l _ _ (sm.trans (same_new fl)) ⟨fun _ => 0, rfl, upd_same, fun _ => Nat.zero_le _⟩⟩⟩
end
end K32
set_option Elab.async false
set_option linter.all false
set_option maxRecDepth 100000
set_option maxHeartbeats 4000000
namespace K32
open PySem PySem.Spec PyProof.Rows L2
open C8 (Cal Mak Met pe_c pe_mk pe_mt pe_mt0)
open LamX (Tabs ExtN TabB)
open SX (S)
/-- credits behind a day -/
def nxt (R : List Str) (d : Str) (c : Str → Int) (x : Str) : Int := c x - (if x ∈ R then (840 : Int).fdiv (R.length : Int) else 0) + (if x = d then 840 else 0)
theorem nxt_small {R : List Str} {y : Str} {c : Str → Int} {i : Nat} (h1 : 1 ≤ R.length) (h8 : R.length ≤ 8) (h : ∀ x, (c x).natAbs ≤ 1000 * i) (x : Str) : (nxt R y c x).natAbs ≤ 1000 * (i + 1) := by
  have e : 0 ≤ (840 : Int).fdiv (R.length : Int) ∧ (840 : Int).fdiv (R.length : Int) ≤ 840 := by
    rcases (show R.length = 1 ∨ R.length = 2 ∨ R.length = 3 ∨ R.length = 4 ∨ R.length = 5 ∨ R.length = 6 ∨ R.length = 7 ∨ R.length = 8 by omega) with q | q | q | q | q | q | q | q <;> rw [q] <;> decide
  have := h x
  unfold nxt
  split <;> split <;> omega
/-- who may drive -/
def Drv (g : Int) (c : Str → Int) (xs R : List Str) (y : Str) : Prop := LK.IsMin (fun x => cnt g (c x)) (xs.filter fun x => decide (x ∈ R)) y
theorem LeastR.extN {H H' : Hp} {r ot : Addr} {xs : List Str} {g : Int} (h : LeastR H r ot xs g) (e : ExtN H H') : LeastR H' r ot xs g := h.ext fun a ys z => e _ _ z fun _ q => by cases q
theorem LeastR.same {H H' : Hp} {r ot : Addr} {xs : List Str} {g : Int} (h : LeastR H r ot xs g) (e : Same H H') : LeastR H' r ot xs g := h.ext fun a ys z => e _ _ z
theorem Crd.extN {H H' : Hp} {a : Addr} {xs : List Str} {c : Str → Int} (h : Crd H a xs c) (e : ExtN H H') : Crd H' a xs c := e _ _ h fun _ q => by cases q
theorem Crd.same {H H' : Hp} {a : Addr} {xs : List Str} {c : Str → Int} (h : Crd H a xs c) (e : Same H H') : Crd H' a xs c := e _ _ h

/-- texts as keys -/
def kS (ns : List Str) : List Key := ns.map Sum.inr
theorem kS_map (ns : List Str) : (kS ns).map kV = ns.map V.str := by
  unfold kS
  rw [List.map_map]
  rfl
theorem kS_inj {a b : List Str} (h : kS a = kS b) : a = b := by
  unfold kS at h
  exact (List.map_inj_right fun x y e => Sum.inr.inj e).mp h
/-- a table of rounds: each many below the set's size -/
def Gn (xs : List Str) (kvs : List (List Key × V)) : Prop := ∀ k v, valV kvs k = some v → ∃ (ns : List Str) (m : Nat), k = kS ns ∧ v = .int (m : Nat) ∧ m < ns.length ∧ NsOk xs ns
theorem Gn.nil {xs : List Str} : Gn xs [] := fun k v h => by rw [valV_nil] at h; cases h
theorem Gn.put {xs : List Str} {kvs : List (List Key × V)} (g : Gn xs kvs) {ns : List Str} {m : Nat} (h : m < ns.length ∧ NsOk xs ns) : Gn xs (putK kvs (kS ns) (.int (m : Nat))) := fun k v e => by
  rw [valV_put] at e
  by_cases q : k = kS ns
  · rw [if_pos q] at e
    exact ⟨ns, m, q, (Option.some.inj e).symm, h⟩
  · rw [if_neg q] at e
    exact g k v e
theorem Gn.getD {xs : List Str} {kvs : List (List Key × V)} (g : Gn xs kvs) {ns : List Str} (h : 0 < ns.length) : ∃ m : Nat, (valV kvs (kS ns)).getD (.int 0) = .int (m : Nat) ∧ m < ns.length := by
  cases e : valV kvs (kS ns) with
  | none => exact ⟨0, rfl, h⟩
  | some v =>
    obtain ⟨ns', m, e1, rfl, e3⟩ := g _ _ e
    rw [← kS_inj e1] at e3
    exact ⟨m, rfl, e3.1⟩
theorem Gn.at {xs : List Str} {kvs : List (List Key × V)} (g : Gn xs kvs) {i : Nat} {k : List Key} {v : V} (h : kvs[i]? = some (k, v)) : ∃ (ns : List Str) (m : Nat), k = kS ns ∧ valV kvs k = some (.int (m : Nat)) ∧ m < ns.length ∧ NsOk xs ns := by
  have : (kvs.any fun kv => decide (kv.1 = k)) = true := List.any_eq_true.mpr ⟨_, List.mem_of_getElem? h, by simp⟩
  rw [valV_any] at this
  obtain ⟨v', e⟩ := Option.isSome_iff_exists.mp this
  obtain ⟨ns, m, e1, rfl, e3⟩ := g _ _ e
  exact ⟨ns, m, e1, e, e3⟩
theorem fs_ne {xs R : List Str} (dy : DayOk xs R) : (xs.filter fun x => decide (x ∈ R)) ≠ [] := fun z => by
  obtain ⟨y, hy⟩ := List.exists_mem_of_ne_nil R dy.ne
  have : y ∈ xs.filter fun x => decide (x ∈ R) := List.mem_filter.mpr ⟨dy.sub y hy, decide_eq_true hy⟩
  rw [z] at this
  cases this
theorem fs_mem {xs R : List Str} {y : Str} (h : y ∈ xs.filter fun x => decide (x ∈ R)) : y ∈ R := of_decide_eq_true (List.mem_filter.mp h).2
/-- the table of rounds -/
def tabM (L : List (List Str × Nat)) : List (List Key × V) := L.foldl (fun kvs p => putK kvs (kS p.1) (.int (p.2 : Nat))) []
theorem tabM_snoc (L : List (List Str × Nat)) (p : List Str × Nat) : tabM (L ++ [p]) = putK (tabM L) (kS p.1) (.int (p.2 : Nat)) := by
  unfold tabM
  rw [List.foldl_append]
  rfl
/-- who drives -/
def DrvM (wd : Word) (md : Mem) (xs R : List Str) (y : Str) : Prop := match wd with
  | .least g => ∃ c, md = .crd c ∧ Drv g c xs R y
  | .longest => ∃ ln, md = .line ln ∧ DrvL ln R y
  | .rounds => ∃ (L : List (List Str × Nat)) (m : Nat), md = .rnd L ∧ (valV (tabM L) (kS (xs.filter fun x => decide (x ∈ R)))).getD (.int 0) = .int (m : Nat) ∧ (xs.filter fun x => decide (x ∈ R))[m]? = some y
theorem min_same {κ : Str → Int} {ns : List Str} {y y' : Str} (h : LK.IsMin κ ns y) (h' : LK.IsMin κ ns y') : y = y' := by
  obtain ⟨i, hi, h1⟩ := h
  obtain ⟨j, hj, h2⟩ := h'
  have a1 := h1 j y' hj
  have a2 := h2 i y hi
  rcases Nat.lt_trichotomy i j with q | q | q
  · have := a2.2 q
    omega
  · subst q
    rw [hi] at hj
    exact Option.some.inj hj
  · have := a1.2 q
    omega
theorem DrvM.same {wd : Word} {md : Mem} {xs R : List Str} {y z : Str} (a : DrvM wd md xs R y) (b : DrvM wd md xs R z) : y = z := by
  cases wd with
  | least g =>
    obtain ⟨c, rfl, a⟩ := a
    obtain ⟨c', e, b⟩ := b
    cases e
    exact min_same a b
  | longest =>
    obtain ⟨c, rfl, a⟩ := a
    obtain ⟨c', e, b⟩ := b
    cases e
    exact DrvL.same a b
  | rounds =>
    obtain ⟨L, m, rfl, a1, a2⟩ := a
    obtain ⟨L', m', e, b1, b2⟩ := b
    cases e
    rw [a1] at b1
    have : m = m' := by
      injection b1 with q
      omega
    subst this
    rw [a2] at b2
    exact Option.some.inj b2
section
variable {P : Program} {w : World} {K : PySem.W.Frag} {mg : Str → Option Value} {base : Heap} {f C : Addr} {fd : FuncData}
def spDb (K : PySem.W.Frag) : Sp := fun vs H Q _ => ∃ (r ot kp rd : Addr) (xs R : List Str) (wd : Word) (n : Nat) (md : Mem), vs = [.ref r, .ref kp, .ref rd] ∧ Rule3 H r ot xs wd ∧ KeptOk n wd xs H kp md ∧ n ≤ 1000 ∧ H rd = some (.lst (R.map V.str)) ∧ DayOk xs R ∧ Tabs (T0 K) H ∧
  ∀ H1, ExtN H H1 → Tabs (T0 K) H1 → ∀ y ∈ R, DrvM wd md xs R y → Q (.str y) H1
theorem ok_db (F : Dn K d_driver_by f fd) (cNo : Cal P w K mg base 1 "names_of" spNo []) (cLd : Cal P w K mg base 3 "least_driver" (spLd K) []) : FnOk P w K mg base CX0 4 f fd ["rule", "memory", "riders"] (spDb K) := by
  refine F.ok sc_driver_by (fun vs H Q E h => ?_) (fun cdv A outer s H vs Q E hr h => ?_)
  · obtain ⟨r, ot, kp, rd, xs, R, wd, n, md, rfl, _⟩ := h
    rfl
  · obtain ⟨r, ot, kp, rd, xs, R, wd, n, md, rfl, rl, kt, n1, hrd, dy, tabs, hQ⟩ := h
    have l8 := rl.ox.l8
    have hu := hu_of hr
    have hu0 : (A.deeper (envOfC d_driver_by.qual d_driver_by.scope s.heap.objs.size f cdv)).units < cLine := by have := hr.un; omega
    cases wd with
    | least g =>
      obtain ⟨hrr, hot, ox, g0, g1⟩ := rl.least
      obtain ⟨c, emd, hc, _⟩ := kt
      refine ⟨_, PSs.nox (pss_cons (ps_set (i := 3) sc_driver_by.nd rfl (.inl rfl) (pe_c cNo hr (by decide) rfl (pa_cons (pe_ix ix_tup (pv 0) pe_int (fun _ _ => rfl)) (pa_cons (pv 2) pa_nil))))
        (pss_cons (ps_if (pt_cmpR op_eq (pe_ix ix_tup (pv 0) pe_int (fun _ _ => rfl)) pe_str (nomark _)) (pss_one (ps_ret (pe_c cLd hr (by decide) rfl (pa_cons (pv 0) (pa_cons (pv 1) (pa_cons (pv 3) pa_nil)))))) pss_nil) pss_never)), ?_⟩
      refine ⟨_, rfl, r, _, _, _, rfl, rfl, SqT.of hrr, rfl, _, rfl, ot, rd, xs, R, rfl, hot, hrd, by omega, fun t H2 s2 ft ht => ?_⟩
      refine ⟨_, rfl, r, _, _, _, rfl, rfl, SqT.of (s2 _ _ hrr), rfl, rfl, _, rfl, iteT ?_⟩
      refine ⟨_, rfl, _, rfl, _, rfl, r, ot, kp, t, xs, _, g, c, rfl, rl.least.same s2, hc.same s2, ht, fs_ne dy, fun y hy => (List.mem_filter.mp hy).1, tabs.ext s2, fun H3 e3 t3 y hy => hQ H3 ((ExtN.of s2).trans e3) t3 y ?_ ⟨c, emd, hy⟩⟩
      obtain ⟨j, hj, _⟩ := hy
      exact fs_mem (List.mem_of_getElem? hj)
    | longest =>
      have hrr : H r = some (.tup [.str "longest", .ref ot]) := rl.hr
      have hot := rl.ho
      obtain ⟨ln, emd, hk, pm⟩ := kt
      have ll := pm.length_eq
      refine ⟨_, PSs.nox (pss_cons (ps_set (i := 3) sc_driver_by.nd rfl (.inl rfl) (pe_c cNo hr (by decide) rfl (pa_cons (pe_ix ix_tup (pv 0) pe_int (fun _ _ => rfl)) (pa_cons (pv 2) pa_nil))))
        (pss_cons (ps_if (pt_cmpR op_eq (pe_ix ix_tup (pv 0) pe_int (fun _ _ => rfl)) pe_str (nomark _)) pss_never pss_nil)
        (pss_cons (ps_if (pt_cmpR op_eq (pe_ix ix_tup (pv 0) pe_int (fun _ _ => rfl)) pe_str (nomark _)) (pss_one (ps_ret (pe_ix ix_tup (pe_c cNo hr (by decide) rfl (pa_cons (pv 1) (pa_cons (pv 2) pa_nil))) pe_int (fun _ _ => rfl)))) pss_nil) pss_never))), ?_⟩
      refine ⟨_, rfl, r, _, _, _, rfl, rfl, SqT.of hrr, rfl, _, rfl, ot, rd, xs, R, rfl, hot, hrd, by omega, fun t H2 s2 ft ht => ?_⟩
      refine ⟨_, rfl, r, _, _, _, rfl, rfl, SqT.of (s2 _ _ hrr), rfl, rfl, _, rfl, ?_⟩
      rw [l_least]
      refine iteF ?_
      refine ⟨_, rfl, r, _, _, _, rfl, rfl, SqT.of (s2 _ _ hrr), rfl, rfl, _, rfl, iteT ?_⟩
      refine ⟨_, rfl, _, rfl, kp, rd, ln, R, rfl, s2 _ _ hk, s2 _ _ hrd, by omega, fun t2 H3 s3 ft2 ht2 => ?_⟩
      obtain ⟨y, hy⟩ := DrvL.ex pm dy
      refine ⟨t2, _, _, .str y, rfl, rfl, SqT.of ht2, atI_nat (j := 0) ?_, hQ H3 (ExtN.of (s2.trans s3)) (tabs.ext (s2.trans s3)) y hy.mem.1 ⟨ln, emd, hy⟩⟩
      rw [List.getElem?_map, hy]
      rfl
    | rounds =>
      have hrr : H r = some (.tup [.str "rounds", .ref ot]) := rl.hr
      have hot := rl.ho
      obtain ⟨es, emd, hk, hes, le⟩ := kt
      refine ⟨_, PSs.nox (pss_cons (ps_set (i := 3) sc_driver_by.nd rfl (.inl rfl) (pe_c cNo hr (by decide) rfl (pa_cons (pe_ix ix_tup (pv 0) pe_int (fun _ _ => rfl)) (pa_cons (pv 2) pa_nil))))
        (pss_cons (ps_if (pt_cmpR op_eq (pe_ix ix_tup (pv 0) pe_int (fun _ _ => rfl)) pe_str (nomark _)) pss_never pss_nil)
        (pss_cons (ps_if (pt_cmpR op_eq (pe_ix ix_tup (pv 0) pe_int (fun _ _ => rfl)) pe_str (nomark _)) pss_never pss_nil)
        (pss_cons (DCT.ps_setDt (i := 4) (own := [("same", 5), ("many", 6)]) (g := gTup K 2 (gCons (gName 5) (gCons (gName 6) gNil))) hu0 rfl sc_driver_by.nd rfl rfl (SDC.sw_true rfl rfl rfl (by decide +kernel)) (pi_tup (pv 1)) (blkOk_by (N := N_driver_by) (sc := defScope s_driver_by) (by decide +kernel))
          (fun _ _ _ _ _ => pg_tup rfl (pgs_cons (pg_name (i := 5) sc_driver_by.nd rfl (.inl rfl)) (pgs_cons (pg_name (i := 6) sc_driver_by.nd rfl (.inl rfl)) pgs_nil))) (fun _ _ _ _ _ => pv 5) (fun _ _ _ _ _ => pv 6))
        (pss_one (ps_ret (pe_ix ix_tup (pv 3) (pe_dget2 hu (pv 4) (pv 3) pe_int ⟨rfl, rfl, rfl, rfl⟩) (fun _ _ => rfl)))))))), ?_⟩
      refine ⟨_, rfl, r, _, _, _, rfl, rfl, SqT.of hrr, rfl, _, rfl, ot, rd, xs, R, rfl, hot, hrd, by omega, fun t H2 s2 ft ht => ?_⟩
      refine ⟨_, rfl, r, _, _, _, rfl, rfl, SqT.of (s2 _ _ hrr), rfl, rfl, _, rfl, ?_⟩
      rw [r_least]
      refine iteF ?_
      refine ⟨_, rfl, r, _, _, _, rfl, rfl, SqT.of (s2 _ _ hrr), rfl, rfl, _, rfl, ?_⟩
      rw [r_longest]
      refine iteF ?_
      have hk2 := s2 _ _ hk
      have hes2 : ∀ e ∈ es, EntOk xs H2 e := fun e he => (hes e he).ext fun a ys z => s2 _ _ z
      refine ⟨_, rfl, kp, rfl, ⟨_, SqT.of hk2⟩, fun D hD => DCT.dt_it walk_tup (fun i H3 => ∃ kvs, H3 D = some (.dT kvs) ∧ kvs.length ≤ i ∧ Gn xs kvs ∧ Same H2 H3 ∧ kvs = tabM ((es.map fun e => (e.ns, e.m)).take i)) ⟨[], upd_same, Nat.le_refl _, Gn.nil, same_new hD, rfl⟩ (fun i H3 _ z => by obtain ⟨_, _, _, _, sm, _⟩ := z; exact SqT.of (sm _ _ hk2)) ?_ ?_⟩
      · rintro i x H3 H3' hi ⟨kvs, hd, lk, gn, sm, ekv⟩ ⟨rfl, hx⟩
        rw [List.getElem?_map] at hx
        obtain ⟨e, he, rfl⟩ := Option.map_eq_some_iff.mp hx
        rw [List.length_map] at hi
        obtain ⟨e1, e2, e3⟩ := (hes2 e (List.mem_of_getElem? he)).ext fun a ys z => sm _ _ z
        refine ⟨e.pt, _, rfl, SqT.of e1, rfl, _, _, rfl, _, _, rfl, rfl, rfl, ?_⟩
        refine ⟨_, rfl, _, rfl, e.nt, kvs, kS e.ns, rfl, by rw [kS_map]; exact e2, hd, Nat.lt_of_le_of_lt (by omega : kvs.length ≤ 1000) (by decide), _, upd_same, ?_, gn.put ⟨e3.1, e3.2.1⟩, ?_, ?_⟩
        · exact Nat.le_trans (length_putK _ _ _) (by omega)
        · intro a o z
          rw [upd_ne (ne_of_none z hD)]
          exact sm a o z
        · rw [List.take_succ, List.getElem?_map, he, ekv]
          exact (tabM_snoc _ (e.ns, e.m)).symm
      · rintro H3 ⟨kvs, hd, lk, gn, sm, ekv⟩
        rw [List.length_map, show es.length = (es.map fun e => (e.ns, e.m)).length from by rw [List.length_map], List.take_length] at ekv
        have ht3 := sm _ _ ht
        have fpos : 0 < (xs.filter fun x => decide (x ∈ R)).length := List.length_pos_iff.mpr (fs_ne dy)
        obtain ⟨m, em, lm⟩ := gn.getD fpos
        refine ⟨_, rfl, _, rfl, D, rfl, .inr ⟨kvs, .inl hd⟩, _, rfl, _, DGet.t hd (k := kS (xs.filter fun x => decide (x ∈ R))) (by rw [kS_map]; exact ht3), ?_⟩
        rw [em]
        refine ⟨t, _, _, .str ((xs.filter fun x => decide (x ∈ R))[m]), rfl, rfl, SqT.of ht3, atI_nat ?_, hQ H3 (ExtN.of (s2.trans sm)) (tabs.ext (s2.trans sm)) _ (fs_mem (List.getElem_mem lm)) ⟨_, m, emd, by rw [← ekv]; exact em, List.getElem?_eq_getElem lm⟩⟩
        rw [List.getElem?_map, List.getElem?_eq_getElem lm]
        rfl
def spPb : Sp := fun vs H Q _ => ∃ (ot hd rd : Addr) (xs R : List Str) (d : Str) (c : Str → Int), vs = [.ref ot, .ref hd, .ref rd, .str d] ∧ H ot = some (.tup (xs.map V.str)) ∧ xs.length ≤ 13 ∧ Crd H hd xs c ∧ H rd = some (.lst (R.map V.str)) ∧ R ≠ [] ∧ R.length ≤ 13 ∧
  ∀ (t : Addr) (H' : Hp), Same H H' → H t = none → Crd H' t xs (nxt R d c) → Q (.ref t) H'
theorem ok_pb (F : Dn K d_parts_behind f fd) (b : Bl mg) (b2 : Bl2 mg) (gp : ∃ t, mg "RIDE_PARTS" = some (.int 840 t)) : FnOk P w K mg base CX0 1 f fd ["order", "held", "riders", "driver"] spPb := by
  refine F.ok sc_parts_behind (fun vs H Q E h => ?_) (fun cdv A outer s H vs Q E hr h => ?_)
  · obtain ⟨ot, hd, rd, xs, R, d, c, rfl, _⟩ := h
    rfl
  · obtain ⟨ot, hd, rd, xs, R, d, c, rfl, hot, l13, hc, hrd, rne, r13, hQ⟩ := h
    obtain ⟨t, gp⟩ := gp
    have rpos : 0 < R.length := List.length_pos_iff.mpr rne
    refine ⟨_, PSs.nox (pss_cons (ps_set (i := 4) sc_parts_behind.nd rfl (.inl rfl) (pe_lst pa_nil))
      (pss_cons (ps_for PassesOwn.never rfl (RZ.pi_zipA rfl b2.zip (pa_cons (pv 0) (pa_cons (pv 1) pa_nil))) (pg_tup rfl (pgs_cons (pg_name (i := 5) sc_parts_behind.nd rfl (.inl rfl)) (pgs_cons (pg_name (i := 6) sc_parts_behind.nd rfl (.inl rfl)) pgs_nil)))
        (C8.pss_cut (ps_set (i := 7) sc_parts_behind.nd rfl (.inl rfl) (pe_ifExp (pt_cmpR op_in_seq (pv 5) (pv 2) (by rfl)) (pe_op op_fdW (pe_glob (v := .int 840) rfl gp ⟨t, rfl⟩) (pe_callB call_len_seq rfl b.len boot_len (pa_cons (pv 2) pa_nil))) pe_int))
        (C8.pss_cut (ps_set (i := 8) sc_parts_behind.nd rfl (.inl rfl) (pe_ifExp (pt_cmpR op_eq (pv 5) (pv 3) (nomark _)) (pe_glob (v := .int 840) rfl gp ⟨t, rfl⟩) pe_int))
        (pss_one (ps_expr (pe_bm PySem.F.plainAttrs_list PySem.F.slot_list_append PySem.F.type_list_append mt_append (pv 4) (pa_cons (pe_op op_add (pe_op op_sub (pv 6) (pv 7)) (pv 8)) pa_nil)))))))
      (pss_one (ps_ret (pe_callTy call_tuple_of rfl b2.tup boot_tuple (pa_cons (pv 4) pa_nil)))))), ?_⟩
    refine ⟨by show 0 ≤ sizeLine; decide, fun o fo => ?_⟩
    have so := same_new (o := .lst []) fo
    refine ⟨_, rfl, _, rfl, ot, hd, _, _, rfl, .inr ⟨SqT.of (so _ _ hot), SqT.of (so _ _ hc), ?_⟩⟩
    refine RZ.for_zipT (by simp) (fun i σ H2 => ∃ (v5 v6 v7 v8 : Option V), σ = [some (.ref ot), some (.ref hd), some (.ref rd), some (.str d), some (.ref o), v5, v6, v7, v8] ∧ H2 o = some (.lst ((xs.take i).map fun x => V.int (nxt R d c x))) ∧ Same H H2)
      ⟨_, _, _, _, rfl, upd_same, so⟩ (fun i σ H2 ⟨_, _, _, _, _, _, sm⟩ => ⟨SqT.of (sm _ _ hot), SqT.of (sm _ _ hc)⟩) ?_ ?_
    · rintro i x y T σ H2 hx hy ⟨v5, v6, v7, v8, rfl, ho, sm⟩ hT
      have hi' : i < xs.length := by
        have := (List.getElem?_eq_some_iff.mp hx).1
        simpa using this
      rw [List.getElem?_map] at hx hy
      obtain ⟨z, hz, rfl⟩ := Option.map_eq_some_iff.mp hx
      rw [hz] at hy
      cases hy
      have et : xs.take (i + 1) = xs.take i ++ [z] := by rw [List.take_succ, hz]; rfl
      have sT := same_new (o := .tup [V.str z, V.int (c z)]) hT
      refine ⟨T, _, rfl, SqT.of upd_same, rfl, _, _, rfl, _, _, rfl, rfl, ?_⟩
      refine ⟨fun σ' H' => H' = upd H2 T (.tup [V.str z, V.int (c z)]) ∧ ∃ v8, σ' = [some (.ref ot), some (.ref hd), some (.ref rd), some (.str d), some (.ref o), some (.str z), some (.int (c z)), some (.int (if z ∈ R then (840 : Int).fdiv (R.length : Int) else 0)), v8], ?_, ?_⟩
      · refine ⟨_, rfl, _, rfl, rd, _, rfl, .inl (SqL.of (sT _ _ (sm _ _ hrd))), rfl, flat_strs R, _, rfl, ?_⟩
        simp only [Bool.false_eq_true, if_false]
        rw [inV_strs]
        refine ite2 (fun hm => ?_) (fun hm => ?_)
        · refine ⟨_, rfl, rd, _, rfl, .inl (SqL.of (sT _ _ (sm _ _ hrd))), _, _, rfl, rfl, ?_, rfl, v8, ?_⟩
          · rw [List.length_map]
            exact ⟨by omega, log_lt (n := 4) (by omega) (by decide) (by decide)⟩
          · rw [if_pos (of_decide_eq_true hm), List.length_map]
            rfl
        · refine ⟨rfl, v8, ?_⟩
          rw [if_neg (fun q => hm (decide_eq_true q))]
          rfl
      rintro σ' H' ⟨rfl, v8, rfl⟩
      refine ⟨fun σ' H' => H' = upd H2 T (.tup [V.str z, V.int (c z)]) ∧ σ' = [some (.ref ot), some (.ref hd), some (.ref rd), some (.str d), some (.ref o), some (.str z), some (.int (c z)), some (.int (if z ∈ R then (840 : Int).fdiv (R.length : Int) else 0)), some (.int (if z = d then 840 else 0))], ?_, ?_⟩
      · refine ⟨_, rfl, _, rfl, rfl, _, rfl, ?_⟩
        by_cases e : z = d
        · have z0 : decide (V.str z = V.str d) = true := by simp [e]
          rw [z0]
          refine iteT ⟨rfl, ?_⟩
          rw [if_pos e]
          rfl
        · have z0 : decide (V.str z = V.str d) = false := by simp [e]
          rw [z0]
          refine iteF ⟨rfl, ?_⟩
          rw [if_neg e]
          rfl
      rintro σ' H' ⟨rfl, rfl⟩
      refine ⟨_, rfl, Or.inl ⟨rfl, _, SqL.of (sT _ _ ho)⟩, _, rfl, _, rfl, _, _, rfl, rfl, _, rfl, _, _, rfl, rfl, o, _, _, rfl, rfl, sT _ _ ho, ?_, _, _, _, _, rfl, ?_, ?_⟩
      · rw [List.length_map, List.length_take]
        exact Nat.lt_of_lt_of_le (by omega : min i xs.length < 64) (by decide)
      · rw [upd_same, et, List.map_append]
        rfl
      · intro a u e
        rw [upd_ne (ne_of_none e fo)]
        exact sT a u (sm a u e)
    · rintro σ H2 ⟨v5, v6, v7, v8, rfl, ho, sm⟩
      rw [List.length_map, List.take_length] at ho
      exact ⟨_, rfl, o, _, rfl, .inl ⟨SqL.of ho, fun l fl => hQ l _ (sm.trans (same_new fl)) (sm.free fl) upd_same⟩⟩
def spLb : Sp := fun vs H Q _ => ∃ (kp rd : Addr) (ln R : List Str) (y : Str), vs = [.ref kp, .ref rd, .str y] ∧ H kp = some (.tup (ln.map V.str)) ∧ ln.length ≤ 13 ∧ H rd = some (.lst (R.map V.str)) ∧
  ∀ (t : Addr) (H' : Hp), Same H H' → H' t = some (.tup ((nl ln R y).map V.str)) → Q (.ref t) H'
theorem ok_lb (F : Dn K d_line_behind f fd) (b : Bl mg) (b2 : Bl2 mg) : FnOk P w K mg base CX0 1 f fd ["line", "riders", "driver"] spLb := by
  refine F.ok sc_line_behind (fun vs H Q E h => ?_) (fun cdv A outer s H vs Q E hr h => ?_)
  · obtain ⟨kp, rd, ln, R, y, rfl, _⟩ := h
    rfl
  · obtain ⟨kp, rd, ln, R, y, rfl, hk, l13, hrd, hQ⟩ := h
    refine ⟨_, PSs.nox (pss_cons (ps_if (pt_cmpR op_eq (pe_callB call_len_seq rfl b.len boot_len (pa_cons (pv 1) pa_nil)) pe_int (nomark _)) (pss_one (ps_ret (pv 0))) pss_nil)
      (pss_one (ps_ret (pe_callTy call_tuple_of rfl b2.tup boot_tuple (pa_cons (pe_op op_cat (pe_lc (own := [("name", 3)]) (g := gName 3) rfl sc_line_behind.nd (pi_tup (pv 0)) (blkOk_by (N := N_line_behind) (sc := defScope s_line_behind) (by decide +kernel))
          (fun _ _ _ _ _ => pg_name (i := 3) sc_line_behind.nd rfl (Or.inl rfl)) (fun _ _ _ _ _ => pts_one (pt_cmpR (r := rNe) op_ne (pv 3) (pv 2) (nomark _))) (fun _ _ _ _ _ => pv 3)) (pe_lst (pa_cons (pv 2) pa_nil))) pa_nil))))), ?_⟩
    refine ⟨_, rfl, rd, _, rfl, .inl (SqL.of hrd), rfl, _, rfl, ?_⟩
    by_cases e1 : R.length = 1
    · have z0 : decide (V.int ((R.map V.str).length : Nat) = V.int 1) = true := by
        rw [List.length_map, e1]
        rfl
      rw [z0]
      refine iteT ⟨_, rfl, hQ kp H (fun _ _ e => e) ?_⟩
      unfold nl
      rw [if_pos e1]
      exact hk
    · have z0 : decide (V.int ((R.map V.str).length : Nat) = V.int 1) = false := by
        rw [List.length_map]
        exact decide_eq_false fun q => by injection q with q; omega
      rw [z0]
      refine iteF ?_
      refine ⟨_, rfl, kp, rfl, ⟨_, SqT.of hk⟩, fun D hD => lc_tup (fun i H2 => H2 D = some (.lst (((ln.take i).filter fun x => !decide (x = y)).map V.str)) ∧ Same H H2) ⟨upd_same, same_new hD⟩ (fun _ H2 _ z => SqT.of (z.2 _ _ hk)) ?_ ?_⟩
      · rintro i x H2 hx ⟨hd, sm⟩
        have hi' : i < ln.length := by
          have := (List.getElem?_eq_some_iff.mp hx).1
          simpa using this
        rw [List.getElem?_map] at hx
        obtain ⟨z, hz, rfl⟩ := Option.map_eq_some_iff.mp hx
        have et : ln.take (i + 1) = ln.take i ++ [z] := by rw [List.take_succ, hz]; rfl
        refine ⟨rfl, ?_⟩
        refine ⟨_, rfl, _, rfl, rfl, _, rfl, ?_⟩
        by_cases e : z = y
        · have z0 : (!decide (V.str z = V.str y)) = false := by simp [e]
          rw [z0]
          refine iteF ⟨?_, sm⟩
          rw [et, List.filter_append]
          simp [e, hd]
        · have z0 : (!decide (V.str z = V.str y)) = true := by simp [e]
          rw [z0]
          refine iteT ?_
          refine ⟨_, rfl, _, hd, ?_, ?_, ?_⟩
          · rw [List.length_map]
            refine Nat.lt_of_le_of_lt (List.length_filter_le _ _) ?_
            rw [List.length_take]
            exact Nat.lt_of_lt_of_le (by omega : min i ln.length < 64) (by decide)
          · rw [upd_same, et, List.filter_append, List.map_append]
            simp [e]
          · intro a o e
            rw [upd_ne (ne_of_none e hD)]
            exact sm a o e
      · rintro H2 ⟨hd, sm⟩
        rw [List.length_map, List.take_length] at hd
        refine ⟨_, rfl, by show 1 ≤ sizeLine; decide, fun q fq => ?_⟩
        have sq := same_new (o := .lst [.str y]) fq
        have fl : (ln.filter fun x => !decide (x = y)).length ≤ 13 := Nat.le_trans (List.length_filter_le _ _) l13
        refine ⟨D, q, _, _, rfl, rfl, sq _ _ hd, upd_same, by rw [List.length_map]; exact Nat.le_trans (by show _ + 1 ≤ 64; omega) (by decide), fun p fp => ?_⟩
        have sp := same_new (o := .lst ((ln.filter fun x => !decide (x = y)).map V.str ++ [.str y])) fp
        refine ⟨p, _, rfl, .inl ⟨SqL.of upd_same, fun l fl => hQ l _ (((sm.trans sq).trans sp).trans (same_new fl)) ?_⟩⟩
        rw [upd_same]
        unfold nl
        rw [if_neg e1, List.map_append]
        rfl
end
end K32
set_option Elab.async false
set_option linter.all false
set_option maxRecDepth 100000
set_option maxHeartbeats 4000000
namespace K32
open PySem PySem.Spec PyProof.Rows L2
open C8 (Cal Mak Met pe_c pe_mk pe_mt pe_mt0)
open LamX (Tabs ExtN TabB)
open SX (S)
def entD (e : Ent) : PyData := .tuple [.tuple (e.ns.map .str), .int (e.m : Nat)]
theorem dp_ent {K : PySem.W.Frag} {xs : List Str} {H : Hp} {e : Ent} (h : EntOk xs H e) : Dp K H (.ref e.pt) (entD e) :=
  Dp.tup (SqT.of h.1) (.cons (Dp.tup (SqT.of h.2.1) (dpS' e.ns)) (.cons (Dp.int _) .nil))
where
  dpS' : ∀ ns : List Str, DpAll K H (ns.map V.str) (ns.map PyData.str)
    | [] => .nil
    | _ :: t => .cons (Dp.str _) (dpS' t)
theorem dp_ents {K : PySem.W.Frag} {xs : List Str} {H : Hp} : ∀ {es : List Ent}, (∀ e ∈ es, EntOk xs H e) → DpAll K H (es.map fun e => V.ref e.pt) (es.map entD)
  | [], _ => .nil
  | e :: es, h => .cons (dp_ent (h e List.mem_cons_self)) (dp_ents fun x hx => h x (List.mem_cons_of_mem _ hx))
theorem alikeS : ∀ a b : List Str, PySem.W.alikeAll (a.map PyData.str) (b.map PyData.str) = true
  | [], _ => by simp [PySem.W.alikeAll]
  | _ :: _, [] => by simp [PySem.W.alikeAll]
  | _ :: a, _ :: b => by simp [PySem.W.alikeAll, PySem.W.alike, alikeS a b]
theorem depthS : ∀ a : List Str, PyData.depthAll (a.map PyData.str) ≤ 1
  | [] => by simp [PyData.depthAll]
  | _ :: a => by
    have := depthS a
    simp [PyData.depthAll, PyData.depth]
    omega
section
variable {P : Program} {w : World} {K : PySem.W.Frag} {mg : Str → Option Value} {base : Heap} {f C : Addr} {fd : FuncData}
def spRb : Sp := fun vs H Q _ => ∃ (ot kp rd : Addr) (xs R : List Str) (n : Nat) (md : Mem), vs = [.ref ot, .ref kp, .ref rd] ∧ H ot = some (.tup (xs.map V.str)) ∧ xs.length ≤ 8 ∧ KeptOk n .rounds xs H kp md ∧ n ≤ 1000 ∧ H rd = some (.lst (R.map V.str)) ∧ DayOk xs R ∧
  ∀ (t : Addr) (H' : Hp) (md' : Mem), Same H H' → KeptOk (n + 1) .rounds xs H' t md' → Q (.ref t) H'
theorem ok_rb (F : Dn K d_rounds_behind f fd) (b : Bl mg) (b2 : Bl2 mg) (srt : mg "sorted" = none) (cNo : Cal P w K mg base 1 "names_of" spNo []) : FnOk P w K mg base CX0 2 f fd ["order", "rounds", "riders"] spRb := by
  refine F.ok sc_rounds_behind (fun vs H Q E h => ?_) (fun cdv A outer s H vs Q E hr h => ?_)
  · obtain ⟨ot, kp, rd, xs, R, n, md, rfl, _⟩ := h
    rfl
  · obtain ⟨ot, kp, rd, xs, R, n, md, rfl, hot, l8, kt, n1, hrd, dy, hQ⟩ := h
    have hu := hu_of hr
    have hu0 : (A.deeper (envOfC d_rounds_behind.qual d_rounds_behind.scope s.heap.objs.size f cdv)).units < cLine := by have := hr.un; omega
    have hu64 : (A.deeper (envOfC d_rounds_behind.qual d_rounds_behind.scope s.heap.objs.size f cdv)).units + 64 < cLine := by have := hr.un; omega
    obtain ⟨es, emd, hk, hes, le⟩ := kt
    refine ⟨_, PSs.nox (pss_cons (ps_set (i := 3) sc_rounds_behind.nd rfl (.inl rfl) (pe_c cNo hr (by decide) rfl (pa_cons (pv 0) (pa_cons (pv 2) pa_nil))))
      (pss_cons (ps_set (i := 4) sc_rounds_behind.nd rfl (.inr rfl) (DCT.pe_dt (own := [("same", 5), ("many", 6)]) (g := gTup K 2 (gCons (gName 5) (gCons (gName 6) gNil))) hu0 rfl sc_rounds_behind.nd (pi_tup (pv 1)) (blkOk_by (N := N_rounds_behind) (sc := defScope s_rounds_behind) (by decide +kernel))
          (fun _ _ _ _ _ => pg_tup rfl (pgs_cons (pg_name (i := 5) sc_rounds_behind.nd rfl (.inl rfl)) (pgs_cons (pg_name (i := 6) sc_rounds_behind.nd rfl (.inl rfl)) pgs_nil))) (fun _ _ _ _ _ => pv 5) (fun _ _ _ _ _ => pv 6)))
      (pss_cons (ps_dput hu (pv 4) (pv 3) (pe_op op_mod (pe_op op_add (pe_dget2 hu (pv 4) (pv 3) pe_int ⟨rfl, rfl, rfl, rfl⟩) pe_int) (pe_callB call_len_seq rfl b.len boot_len (pa_cons (pv 3) pa_nil))) rfl)
      (pss_one (ps_ret (pe_callTy call_tuple_of rfl b2.tup boot_tuple (pa_cons (pe_callB (SRT.cr_sortedD hu64) rfl srt boot_sorted (pa_cons (pe_lock (pe_lc (own := [("same", 5)]) (g := gName 5) rfl sc_rounds_behind.nd (pi_keys (pv 4)) (blkOk_by (N := N_rounds_behind) (sc := defScope s_rounds_behind) (by decide +kernel))
          (fun _ _ _ _ _ => pg_name (i := 5) sc_rounds_behind.nd rfl (Or.inl rfl)) (fun _ _ _ _ _ => pts_one (pt_cmpR op_gt (pe_dget hu (pv 4) (pv 5) (fun _ _ => rfl)) pe_int (nomark _))) (fun _ _ _ _ _ => pe_tup (pa_cons (pv 5) (pa_cons (pe_dget hu (pv 4) (pv 5) (fun _ _ => rfl)) pa_nil))))) pa_nil)) pa_nil))))))), ?_⟩
    refine ⟨_, rfl, _, rfl, ot, rd, xs, R, rfl, hot, hrd, by omega, fun t H2 s2 ft ht => ?_⟩
    have hk2 := s2 _ _ hk
    have hes2 : ∀ e ∈ es, EntOk xs H2 e := fun e he => (hes e he).ext fun a ys z => s2 _ _ z
    refine ⟨_, rfl, kp, rfl, ⟨_, SqT.of hk2⟩, fun D hD => DCT.dt_it walk_tup (fun i H3 => ∃ kvs, H3 D = some (.dT kvs) ∧ kvs.length ≤ i ∧ Gn xs kvs ∧ Same H2 H3) ⟨[], upd_same, Nat.le_refl _, Gn.nil, same_new hD⟩ (fun i H3 _ z => by obtain ⟨_, _, _, _, sm⟩ := z; exact SqT.of (sm _ _ hk2)) ?_ ?_⟩
    · rintro i x H3 H3' hi ⟨kvs, hd, lk, gn, sm⟩ ⟨rfl, hx⟩
      rw [List.getElem?_map] at hx
      obtain ⟨e, he, rfl⟩ := Option.map_eq_some_iff.mp hx
      rw [List.length_map] at hi
      obtain ⟨e1, e2, e3⟩ := (hes2 e (List.mem_of_getElem? he)).ext fun a ys z => sm _ _ z
      refine ⟨e.pt, _, rfl, SqT.of e1, rfl, _, _, rfl, _, _, rfl, rfl, rfl, ?_⟩
      refine ⟨_, rfl, _, rfl, e.nt, kvs, kS e.ns, rfl, by rw [kS_map]; exact e2, hd, Nat.lt_of_le_of_lt (by omega : kvs.length ≤ 1000) (by decide), _, upd_same, ?_, gn.put ⟨e3.1, e3.2.1⟩, ?_⟩
      · exact Nat.le_trans (length_putK _ _ _) (by omega)
      · intro a o z
        rw [upd_ne (ne_of_none z hD)]
        exact sm a o z
    · rintro H3 ⟨kvs, hd, lk, gn, sm⟩
      rw [List.length_map] at lk
      have ht3 := sm _ _ ht
      have fpos : 0 < (xs.filter fun x => decide (x ∈ R)).length := List.length_pos_iff.mpr (fs_ne dy)
      obtain ⟨m, em, lm⟩ := gn.getD fpos
      refine ⟨_, rfl, D, rfl, .inr ⟨kvs, .inl hd⟩, _, rfl, _, DGet.t hd (k := kS (xs.filter fun x => decide (x ∈ R))) (by rw [kS_map]; exact ht3), ?_⟩
      rw [em]
      refine ⟨_, _, rfl, rfl, _, rfl, t, _, rfl, .inr (SqT.of ht3), _, _, rfl, rfl, by rw [List.length_map]; omega, ?_⟩
      rw [List.length_map]
      have lm' : (m + 1) % (xs.filter fun x => decide (x ∈ R)).length < (xs.filter fun x => decide (x ∈ R)).length := Nat.mod_lt _ fpos
      have ev : (((m : Nat) : Int) + 1) % (((xs.filter fun x => decide (x ∈ R)).length : Nat) : Int) = (((m + 1) % (xs.filter fun x => decide (x ∈ R)).length : Nat) : Int) := by push_cast; rfl
      have hput := DPut.t (v := .int (((m + 1) % (xs.filter fun x => decide (x ∈ R)).length : Nat))) hd (k := kS (xs.filter fun x => decide (x ∈ R))) (by rw [kS_map]; exact ht3) (Nat.lt_of_le_of_lt (by omega : kvs.length ≤ 1000) (by decide))
      have gn2 := gn.put ⟨lm', Nat.le_trans (List.length_filter_le _ _) l8, fun x hx => (List.mem_filter.mp hx).1⟩
      have lk2 := length_putK kvs (kS (xs.filter fun x => decide (x ∈ R))) (.int (((m + 1) % (xs.filter fun x => decide (x ∈ R)).length : Nat)))
      generalize putK kvs (kS (xs.filter fun x => decide (x ∈ R))) (.int (((m + 1) % (xs.filter fun x => decide (x ∈ R)).length : Nat))) = kv2 at gn2 lk2 hput
      have hd4 : (upd H3 D (.dT kv2)) D = some (.dT kv2) := upd_same
      have s4 : ∀ a o, a ≠ D → H2 a = some o → (upd H3 D (.dT kv2)) a = some o := fun a o na e => by
        rw [upd_ne na]
        exact sm a o e
      generalize upd H3 D (.dT kv2) = H4 at hd4 s4 hput
      have nD : ∀ {a : Addr} {o : HO}, H2 a = some o → a ≠ D := fun e => ne_of_none e hD
      refine ⟨_, rfl, _, rfl, D, H4, rfl, ?_, ?_⟩
      · show DPut H3 D (.ref t) (V.int ((((m : Nat) : Int) + 1) % (((xs.filter fun x => decide (x ∈ R)).length : Nat) : Int))) H4
        rw [ev]
        exact hput
      refine ⟨D, _, hd4, trivial, fun od => ?_⟩
      refine ⟨_, rfl, D, od, rfl, .inr ⟨_, upd_same, fun Dn hDn => ?_⟩⟩
      have nDn : Dn ≠ D := (ne_of_none upd_same hDn).symm
      have fDn : H4 Dn = none := by rw [upd_ne nDn] at hDn; exact hDn
      refine lc_it walk_keysT (fun j H' => ∃ es' : List Ent, H' Dn = some (.lst (es'.map fun e => V.ref e.pt)) ∧ (∀ e ∈ es', EntOk xs H' e) ∧ es'.length ≤ j ∧ H' D = some (.frz od (.dT kv2)) ∧ ∀ a o, a ≠ D → H4 a = some o → H' a = some o) ?_ (fun j H' _ z => by
        obtain ⟨_, _, _, _, e, _⟩ := z
        exact e) ?_ ?_
      · refine ⟨[], upd_same, (fun e he => nomatch he), Nat.le_refl _, by rw [upd_ne nDn.symm]; exact upd_same, fun a o na e => ?_⟩
        rw [upd_ne (ne_of_none e fDn), upd_ne na]
        exact e
      · rintro j y Ha Hb hj ⟨es', hdn, hes', lj, hDa, ka⟩ ⟨rfl, k, v, q, ek, rfl, hq⟩
        obtain ⟨ns, mm, rfl, ev, lt⟩ := gn2.at ek
        have dg : DGet Hb D (.ref q) (some (.int (mm : Nat))) := .inr ⟨kv2, kS ns, q, .inr ⟨od, hDa⟩, rfl, hq, ev.symm⟩
        refine ⟨rfl, ?_⟩
        refine ⟨_, rfl, _, rfl, D, _, rfl, dg, _, _, rfl, rfl, _, rfl, ?_⟩
        refine ite2 (fun hm => ?_) (fun hm => ?_)
        · refine ⟨_, rfl, _, rfl, _, rfl, D, _, rfl, dg, by show 2 ≤ sizeLine; decide, fun T fT => ?_⟩
          have sT := same_new (o := .tup [.ref q, .int (mm : Nat)]) fT
          have hdn2 := sT _ _ hdn
          have noL : ∀ {a : Addr} {zs : List V}, (upd Hb T (.tup [.ref q, .int (mm : Nat)])) a = some (.tup zs) → a ≠ Dn := fun e z => by rw [z, hdn2] at e; cases e
          refine ⟨_, hdn2, Nat.lt_of_le_of_lt (by rw [List.length_map]; omega : _ ≤ 2000) (by decide), es' ++ [⟨T, q, ns, mm⟩], ?_, ?_, by rw [List.length_append]; simp; omega, ?_, ?_⟩
          · rw [upd_same, List.map_append]
            rfl
          · intro e he
            refine EntOk.ext ?_ fun a ys z => by
              rw [upd_ne (noL z)]
              exact z
            rcases List.mem_append.mp he with he | he
            · exact (hes' e he).ext fun a ys z => sT _ _ z
            · rw [List.mem_singleton] at he
              subst he
              exact ⟨upd_same, by rw [← kS_map]; exact sT _ _ hq, lt.1, lt.2, by have h0 : (0 : Int) < ((mm : Nat) : Int) := of_decide_eq_true hm; show 0 < mm; omega⟩
          · rw [upd_ne nDn.symm]
            exact sT _ _ hDa
          · intro a o na e
            rw [upd_ne (ne_of_none e fDn)]
            exact sT _ _ (ka a o na e)
        · exact ⟨es', hdn, hes', by omega, hDa, ka⟩
      · rintro H5 ⟨es', hdn, hes', lj, hD5, k5⟩
        refine ⟨hD5, ?_⟩
        have hdn6 : (upd H5 D (.dT kv2)) Dn = some (.lst (es'.map fun e => V.ref e.pt)) := by rw [upd_ne nDn]; exact hdn
        have hes6 : ∀ e ∈ es', EntOk xs (upd H5 D (.dT kv2)) e := fun e he => (hes' e he).ext fun a ys z => by
          rw [upd_ne (fun q => by rw [q, hD5] at z; cases z)]
          exact z
        have s6 : Same H2 (upd H5 D (.dT kv2)) := fun a o e => by
          rw [upd_ne (nD e)]
          exact k5 a o (nD e) (s4 a o (nD e) e)
        generalize upd H5 D (.dT kv2) = H6 at hdn6 hes6 s6 ⊢
        refine ⟨Dn, _, es'.map entD, rfl, .inl (SqL.of hdn6), dp_ents hes6, ?_, ?_, ?_, fun sl fsl => ?_⟩
        · intro x hx y hy
          obtain ⟨e, _, rfl⟩ := List.mem_map.mp hx
          obtain ⟨e', _, rfl⟩ := List.mem_map.mp hy
          unfold entD
          simp [PySem.W.alike, PySem.W.alikeAll, alikeS]
        · refine .inl fun x hx => ?_
          obtain ⟨e, _, rfl⟩ := List.mem_map.mp hx
          exact ⟨_, _, rfl⟩
        · intro x hx
          obtain ⟨e, _, rfl⟩ := List.mem_map.mp hx
          have := depthS e.ns
          unfold entD
          simp [PyData.depth, PyData.depthAll]
          omega
        obtain ⟨gs, pm, eg⟩ := SDC.perm_inv (SRT.srt_perm (xs := es'.map fun e => V.ref e.pt) (ds := es'.map entD) (by simp)) (l := es') rfl
        rw [eg]
        have ss := same_new (o := .lst (gs.map fun e => V.ref e.pt)) fsl
        refine ⟨sl, _, rfl, .inl ⟨SqL.of upd_same, fun l fl => hQ l _ _ (((s2.trans s6).trans ss).trans (same_new fl)) ⟨gs, rfl, upd_same, fun e he => ?_, ?_⟩⟩⟩
        · exact (hes6 e (pm.mem_iff.mp he)).ext fun a ys z => same_new fl _ _ (ss _ _ z)
        · rw [pm.length_eq]
          omega
end
end K32
set_option Elab.async false
set_option linter.all false
set_option maxRecDepth 100000
set_option maxHeartbeats 4000000
namespace K32
open PySem PySem.Spec PyProof.Rows L2
open C8 (Cal Mak Met pe_c pe_mk pe_mt pe_mt0)
open LamX (Tabs ExtN TabB)
open SX (S)
section
variable {P : Program} {w : World} {K : PySem.W.Frag} {mg : Str → Option Value} {base : Heap} {f C : Addr} {fd : FuncData}
def spMb (K : PySem.W.Frag) : Sp := fun vs H Q _ => ∃ (r ot kp rd : Addr) (xs R : List Str) (wd : Word) (n : Nat) (md : Mem), vs = [.ref r, .ref kp, .ref rd] ∧ Rule3 H r ot xs wd ∧ KeptOk n wd xs H kp md ∧ n ≤ 1000 ∧ H rd = some (.lst (R.map V.str)) ∧ DayOk xs R ∧ Tabs (T0 K) H ∧
  ∀ (t : Addr) (H1 : Hp) (md' : Mem), ExtN H H1 → Tabs (T0 K) H1 → KeptOk (n + 1) wd xs H1 t md' → Q (.ref t) H1
theorem ok_mb (F : Dn K d_memory_behind f fd) (cDb : Cal P w K mg base 4 "driver_by" (spDb K) []) (cPb : Cal P w K mg base 1 "parts_behind" spPb []) (cLb : Cal P w K mg base 1 "line_behind" spLb []) (cRb : Cal P w K mg base 2 "rounds_behind" spRb []) : FnOk P w K mg base CX0 5 f fd ["rule", "memory", "riders"] (spMb K) := by
  refine F.ok sc_memory_behind (fun vs H Q E h => ?_) (fun cdv A outer s H vs Q E hr h => ?_)
  · obtain ⟨r, ot, kp, rd, xs, R, wd, n, md, rfl, _⟩ := h
    rfl
  · obtain ⟨r, ot, kp, rd, xs, R, wd, n, md, rfl, rl, kt, n1, hrd, dy, tabs, hQ⟩ := h
    have l8 := rl.ox.l8
    cases wd with
    | least g =>
      have hrr : H r = some (.tup [.str "least", .ref ot, .int g]) := rl.hr
      refine ⟨_, PSs.nox (pss_cons (ps_if (pt_cmpR op_eq (pe_ix ix_tup (pv 0) pe_int (fun _ _ => rfl)) pe_str (nomark _)) pss_never pss_nil)
        (pss_cons (ps_set (i := 3) sc_memory_behind.nd rfl (.inl rfl) (pe_c cDb hr (by decide) rfl (pa_cons (pv 0) (pa_cons (pv 1) (pa_cons (pv 2) pa_nil)))))
        (pss_cons (ps_if (pt_cmpR op_eq (pe_ix ix_tup (pv 0) pe_int (fun _ _ => rfl)) pe_str (nomark _)) (pss_one (ps_ret (pe_c cPb hr (by decide) rfl (pa_cons (pe_ix ix_tup (pv 0) pe_int (fun _ _ => rfl)) (pa_cons (pv 1) (pa_cons (pv 2) (pa_cons (pv 3) pa_nil))))))) pss_nil) pss_never))), ?_⟩
      refine ⟨_, rfl, r, _, _, _, rfl, rfl, SqT.of hrr, rfl, rfl, _, rfl, ?_⟩
      rw [e_rounds]
      refine iteF ?_
      refine ⟨_, rfl, _, rfl, _, rfl, r, ot, kp, rd, xs, R, .least g, n, md, rfl, rl, kt, n1, hrd, dy, tabs, fun H2 e2 t2 y hy _ => ?_⟩
      have hrr2 : H2 r = some (.tup [.str "least", .ref ot, .int g]) := (rl.extN e2).hr
      have hrd2 : H2 rd = some (.lst (R.map V.str)) := e2 _ _ hrd fun _ q => by cases q
      obtain ⟨c, emd, hc, hb⟩ := kt
      refine ⟨_, rfl, r, _, _, _, rfl, rfl, SqT.of hrr2, rfl, rfl, _, rfl, iteT ?_⟩
      refine ⟨_, rfl, r, _, _, _, rfl, rfl, SqT.of hrr2, rfl, _, rfl, _, rfl, _, rfl, ot, kp, rd, xs, R, y, c, rfl, (rl.extN e2).ho, by omega, hc.extN e2, hrd2, dy.ne, by have := dy.ln; omega, fun t H3 s3 ft hcr => ?_⟩
      exact hQ t H3 _ (e2.trans (ExtN.of s3)) (t2.ext s3) ⟨_, rfl, hcr, nxt_small (List.length_pos_iff.mpr dy.ne) (by have := dy.ln; omega) hb⟩
    | longest =>
      have hrr : H r = some (.tup [.str "longest", .ref ot]) := rl.hr
      refine ⟨_, PSs.nox (pss_cons (ps_if (pt_cmpR op_eq (pe_ix ix_tup (pv 0) pe_int (fun _ _ => rfl)) pe_str (nomark _)) pss_never pss_nil)
        (pss_cons (ps_set (i := 3) sc_memory_behind.nd rfl (.inl rfl) (pe_c cDb hr (by decide) rfl (pa_cons (pv 0) (pa_cons (pv 1) (pa_cons (pv 2) pa_nil)))))
        (pss_cons (ps_if (pt_cmpR op_eq (pe_ix ix_tup (pv 0) pe_int (fun _ _ => rfl)) pe_str (nomark _)) pss_never pss_nil)
        (pss_one (ps_ret (pe_c cLb hr (by decide) rfl (pa_cons (pv 1) (pa_cons (pv 2) (pa_cons (pv 3) pa_nil))))))))), ?_⟩
      refine ⟨_, rfl, r, _, _, _, rfl, rfl, SqT.of hrr, rfl, rfl, _, rfl, ?_⟩
      rw [l_rounds]
      refine iteF ?_
      refine ⟨_, rfl, _, rfl, _, rfl, r, ot, kp, rd, xs, R, .longest, n, md, rfl, rl, kt, n1, hrd, dy, tabs, fun H2 e2 t2 y hy _ => ?_⟩
      have hrr2 : H2 r = some (.tup [.str "longest", .ref ot]) := (rl.extN e2).hr
      have hrd2 : H2 rd = some (.lst (R.map V.str)) := e2 _ _ hrd fun _ q => by cases q
      obtain ⟨ln, emd, hk, pm⟩ := kt.extN e2
      have ll := pm.length_eq
      refine ⟨_, rfl, r, _, _, _, rfl, rfl, SqT.of hrr2, rfl, rfl, _, rfl, ?_⟩
      rw [l_least]
      refine iteF ?_
      exact ⟨_, rfl, _, rfl, _, rfl, kp, rd, ln, R, y, rfl, hk, by omega, hrd2, fun t H3 s3 ht => hQ t H3 _ (e2.trans (ExtN.of s3)) (t2.ext s3) ⟨_, rfl, ht, nl_perm pm rl.ox.nd (pm.mem_iff.mpr (dy.sub y hy))⟩⟩
    | rounds =>
      have hrr : H r = some (.tup [.str "rounds", .ref ot]) := rl.hr
      refine ⟨_, PSs.nox (pss_cons (ps_if (pt_cmpR op_eq (pe_ix ix_tup (pv 0) pe_int (fun _ _ => rfl)) pe_str (nomark _)) (pss_one (ps_ret (pe_c cRb hr (by decide) rfl (pa_cons (pe_ix ix_tup (pv 0) pe_int (fun _ _ => rfl)) (pa_cons (pv 1) (pa_cons (pv 2) pa_nil)))))) pss_nil) pss_never), ?_⟩
      refine ⟨_, rfl, r, _, _, _, rfl, rfl, SqT.of hrr, rfl, rfl, _, rfl, iteT ?_⟩
      exact ⟨_, rfl, r, _, _, _, rfl, rfl, SqT.of hrr, rfl, _, rfl, _, rfl, ot, kp, rd, xs, R, n, md, rfl, rl.ho, l8, kt, n1, hrd, dy, fun t H3 md' s3 ht => hQ t H3 md' (ExtN.of s3) (tabs.ext s3) ht⟩
end
end K32
set_option Elab.async false
set_option linter.all false
set_option maxRecDepth 100000
set_option maxHeartbeats 4000000
namespace K32
open PySem PySem.Spec PyProof.Rows L2
open C8 (Cal Mak Met pe_c pe_mk pe_mt pe_mt0)
open LamX (Tabs ExtN TabB)
open SX (S)
/-- the fields of a Turns -/
def trF (r hd kp ps : Addr) : List (Str × V) := putF "past" (.ref ps) (putF "kept" (.ref kp) (putF "held" (.ref hd) (putF "rule" (.ref r) [])))
theorem f1 : ¬ (("rule" : Str) = "held") := by decide +kernel
theorem f2 : ¬ (("rule" : Str) = "kept") := by decide +kernel
theorem f3 : ¬ (("rule" : Str) = "past") := by decide +kernel
theorem f4 : ¬ (("held" : Str) = "kept") := by decide +kernel
theorem f5 : ¬ (("held" : Str) = "past") := by decide +kernel
theorem f6 : ¬ (("kept" : Str) = "past") := by decide +kernel
theorem trF_eq (r hd kp ps : Addr) : trF r hd kp ps = [(("rule" : Str), V.ref r), (("held" : Str), V.ref hd), (("kept" : Str), V.ref kp), (("past" : Str), V.ref ps)] := by
  unfold trF putF
  simp only [putF, if_neg f1, if_neg f2, if_neg f3, if_neg f4, if_neg f5, if_neg f6]
theorem tr_rule (r hd kp ps : Addr) : (trF r hd kp ps).lookup ("rule" : Str) = some (.ref r) := by
  unfold trF
  rw [lookup_putF, if_neg f3, lookup_putF, if_neg f2, lookup_putF, if_neg f1, lookup_putF, if_pos rfl]
theorem tr_held (r hd kp ps : Addr) : (trF r hd kp ps).lookup ("held" : Str) = some (.ref hd) := by
  unfold trF
  rw [lookup_putF, if_neg f5, lookup_putF, if_neg f4, lookup_putF, if_pos rfl]
theorem tr_kept (r hd kp ps : Addr) : (trF r hd kp ps).lookup ("kept" : Str) = some (.ref kp) := by
  unfold trF
  rw [lookup_putF, if_neg f6, lookup_putF, if_pos rfl]
theorem tr_past (r hd kp ps : Addr) : (trF r hd kp ps).lookup ("past" : Str) = some (.ref ps) := by
  unfold trF
  rw [lookup_putF, if_pos rfl]
theorem tr_no (r hd kp ps : Addr) {m : Str} (h1 : ¬ m = "rule") (h2 : ¬ m = "held") (h3 : ¬ m = "kept") (h4 : ¬ m = "past") : (trF r hd kp ps).lookup m = none := by
  unfold trF
  rw [lookup_putF, if_neg h4, lookup_putF, if_neg h3, lookup_putF, if_neg h2, lookup_putF, if_neg h1]
  all_goals rfl
theorem put_held (r hd kp ps hd' : Addr) : putF "held" (.ref hd') (trF r hd kp ps) = trF r hd' kp ps := by
  rw [trF_eq, trF_eq]
  simp only [putF, if_neg f1, if_pos]
theorem put_kept (r hd kp ps kp' : Addr) : putF "kept" (.ref kp') (trF r hd kp ps) = trF r hd kp' ps := by
  rw [trF_eq, trF_eq]
  simp only [putF, if_neg f2, if_neg f4, if_pos]
/-- a Turns by a rule, its credits twice, the past -/
def Tr (CT : Addr) (H : Hp) (tu r hd kp ps : Addr) : Prop := ∃ dx, H tu = some (.ins CT dx (trF r hd kp ps))
/-- what is known of the class -/
structure ClT (K : PySem.W.Frag) (CT : Addr) : Prop where
  cl : Cls K CT
  nr : NoAttr K CT "rule"
  nh : NoAttr K CT "held"
  nk : NoAttr K CT "kept"
  np : NoAttr K CT "past"
section
variable {P : Program} {w : World} {K : PySem.W.Frag} {mg : Str → Option Value} {base : Heap} {f C CT : Addr} {fd : FuncData}
def spTi (CT : Addr) : Sp := fun vs H Q _ => ∃ (p dx r ot : Addr) (xs : List Str) (wd : Word), vs = [.ref p, .ref r] ∧ H p = some (.ins CT dx []) ∧ Rule3 H r ot xs wd ∧
  ∀ (H' : Hp) (hd kp ps : Addr) (md : Mem), (∀ a o, a ≠ p → H a = some o → H' a = some o) → H ps = none → H' p = some (.ins CT dx (trF r hd kp ps)) → Crd H' hd xs (fun _ => 0) → KeptOk 0 wd xs H' kp md → H' ps = some (.lst []) → Q .non H'
theorem ok_ti (F : Dn K d_Turns_init f fd) (b2 : Bl2 mg) (T : ClT K CT) (cR : Cal P w K mg base 3 "is_rule" spRule []) (cFm : Cal P w K mg base 1 "first_memory" spFm []) : FnOk P w K mg base CX0 4 f fd ["self", "rule"] (spTi CT) := by
  refine F.ok sc_Turns_init (fun vs H Q E h => ?_) (fun cdv A outer s H vs Q E hr h => ?_)
  · obtain ⟨p, dx, r, ot, xs, g, rfl, _⟩ := h
    rfl
  · obtain ⟨p, dx, r, ot, xs, wd, rfl, hp, lr, hQ⟩ := h
    obtain ⟨hrr, hot, ox, wok⟩ := id lr
    have l8 := ox.l8
    refine ⟨_, PSs.nox (pss_cons (ps_if (pt_not (pt_val (pe_c cR hr (by decide) rfl (pa_cons (pv 1) pa_nil)))) pss_never pss_nil)
      (pss_cons (ps_fld (pv 0) (pv 1) rfl)
      (pss_cons (ps_fld (pv 0) (pe_callTy call_tuple_of rfl b2.tup boot_tuple (pa_cons (pe_lc (own := [("name", 2)]) (g := gName 2) (tt := tYes) rfl sc_Turns_init.nd (pi_tup (pe_ix ix_tup (pv 1) pe_int (fun _ _ => rfl))) (blkOk_by (N := N_Turns_init) (sc := defScope s_Turns_init) (by decide +kernel))
          (fun _ _ _ _ _ => pg_name (i := 2) sc_Turns_init.nd rfl (Or.inl rfl)) (fun _ _ _ _ _ => pts_nil) (fun _ _ _ _ _ => pe_int)) pa_nil)) rfl)
      (pss_cons (ps_fld (pv 0) (pe_c cFm hr (by decide) rfl (pa_cons (pv 1) pa_nil)) rfl)
      (pss_one (ps_fld (pv 0) (pe_lst pa_nil) rfl)))))), ?_⟩
    refine ⟨_, rfl, r, ot, xs, wd, rfl, lr, fun H1 s1 => ⟨true, rfl, iteF ?_⟩⟩
    refine ⟨_, rfl, _, rfl, p, CT, dx, _, rfl, s1 _ _ hp, T.cl, T.nr, by show 0 < 1000; decide, ?_⟩
    have tn : ∀ {a : Addr} {ys : List V} {H2 : Hp}, H2 p = some (.ins CT dx []) → H2 a = some (.tup ys) → a ≠ p := fun e1 e2 z => by rw [z, e1] at e2; cases e2
    have hrr1 : (upd H1 p (.ins CT dx (putF "rule" (.ref r) []))) r = some (.tup (wd.vs ot)) := by rw [upd_ne (tn hp hrr)]; exact s1 _ _ hrr
    have hot1 : (upd H1 p (.ins CT dx (putF "rule" (.ref r) []))) ot = some (.tup (xs.map V.str)) := by rw [upd_ne (tn hp hot)]; exact s1 _ _ hot
    refine ⟨_, rfl, r, _, _, _, rfl, rfl, SqT.of hrr1, wd.at1 ot, ot, rfl, ⟨_, SqT.of hot1⟩, fun D hD => lc_tup (fun i H2 => H2 D = some (.lst ((xs.take i).map fun _ => V.int 0)) ∧ Same (upd H1 p (.ins CT dx (putF "rule" (.ref r) []))) H2) ⟨upd_same, same_new hD⟩ (fun _ H2 _ z => SqT.of (z.2 _ _ hot1)) ?_ ?_⟩
    · rintro i x H2 hx ⟨hd, sm⟩
      have hi' : i < xs.length := by
        have := (List.getElem?_eq_some_iff.mp hx).1
        simpa using this
      refine ⟨rfl, _, hd, ?_, ?_, ?_⟩
      · rw [List.length_map, List.length_take]
        exact Nat.lt_of_lt_of_le (by omega : min i xs.length < 64) (by decide)
      · rw [upd_same, zs_take xs i hi']
      · intro a o e
        rw [upd_ne (ne_of_none e hD)]
        exact sm a o e
    · rintro H2 ⟨hd, sm⟩
      rw [List.length_map, List.take_length] at hd
      refine ⟨D, _, rfl, .inl ⟨SqL.of hd, fun hl fl => ?_⟩⟩
      have s3 := sm.trans (same_new (o := .tup (xs.map fun _ => V.int 0)) fl)
      have hp3 := s3 _ _ (upd_same : (upd H1 p (.ins CT dx (putF "rule" (.ref r) []))) p = _)
      refine ⟨_, rfl, p, CT, dx, _, rfl, hp3, T.cl, T.nh, by show 1 < 1000; decide, ?_⟩
      have nhl : hl ≠ p := fun z => by rw [z] at fl; rw [sm _ _ (upd_same : (upd H1 p (.ins CT dx (putF "rule" (.ref r) []))) p = _)] at fl; cases fl
      have key : ∀ (a : Addr) (ys : List V), a ≠ p → (upd H1 p (.ins CT dx (putF "rule" (.ref r) []))) a = some (.tup ys) → (upd (upd H2 hl (.tup (xs.map fun _ => V.int 0))) p (.ins CT dx (putF "held" (.ref hl) (putF "rule" (.ref r) [])))) a = some (.tup ys) := fun a ys na e => by
        rw [upd_ne na]
        exact s3 _ _ e
      refine ⟨_, rfl, r, ot, xs, wd, rfl, ⟨key _ _ (tn hp hrr) hrr1, key _ _ (tn hp hot) hot1, ox, wok⟩, fun kl H4 md s4 hk => ?_⟩
      have hp4 := s4 _ _ (upd_same : (upd (upd H2 hl (.tup (xs.map fun _ => V.int 0))) p (.ins CT dx (putF "held" (.ref hl) (putF "rule" (.ref r) [])))) p = _)
      refine ⟨_, rfl, p, CT, dx, _, rfl, hp4, T.cl, T.nk, by show (putF "held" (V.ref hl) (putF "rule" (V.ref r) [])).length < 1000; simp only [putF, if_neg f1]; show 2 < 1000; decide, ?_⟩
      refine ⟨by show 0 ≤ sizeLine; decide, fun pl fp => ?_⟩
      have npl : pl ≠ p := fun z => by rw [z, upd_same] at fp; cases fp
      have hp5 : (upd (upd H4 p (.ins CT dx (putF "kept" (.ref kl) (putF "held" (.ref hl) (putF "rule" (.ref r) []))))) pl (.lst [])) p = some (.ins CT dx (putF "kept" (.ref kl) (putF "held" (.ref hl) (putF "rule" (.ref r) [])))) := by
        rw [upd_ne npl.symm, upd_same]
      refine ⟨_, rfl, p, CT, dx, _, rfl, hp5, T.cl, T.np, by show (putF "kept" (V.ref kl) (putF "held" (V.ref hl) (putF "rule" (V.ref r) []))).length < 1000; simp only [putF, if_neg f1, if_neg f2, if_neg f4]; show 3 < 1000; decide, ?_⟩
      have back : ∀ a o, a ≠ p → H a = some o → H4 a = some o := fun a o na e => by
        refine s4 _ _ ?_
        rw [upd_ne na]
        refine s3 _ _ ?_
        rw [upd_ne na]
        exact s1 _ _ e
      rw [upd_ne npl] at fp
      have fpH : H pl = none := by
        cases e : H pl with
        | none => rfl
        | some o => rw [back pl o npl e] at fp; cases fp
      have hhl4 : H4 hl = some (.tup (xs.map fun _ => V.int 0)) := s4 _ _ (by rw [upd_ne nhl, upd_same])
      have nph : hl ≠ pl := ne_of_none hhl4 fp
      refine hQ _ hl kl pl md (fun a o na e => ?_) fpH upd_same ?_ ?_ ?_
      · have e4 := back a o na e
        rw [upd_ne na, upd_ne (ne_of_none e4 fp), upd_ne na]
        exact e4
      · show (upd _ p _) hl = _
        rw [upd_ne nhl, upd_ne nph, upd_ne nhl]
        exact hhl4
      · refine hk.ext fun a ys e => ?_
        have na : a ≠ p := fun z => by rw [z, hp4] at e; cases e
        rw [upd_ne na, upd_ne (ne_of_none e fp), upd_ne na]
        exact e
      · rw [upd_ne npl, upd_same]
end
end K32
set_option Elab.async false
set_option linter.all false
set_option maxRecDepth 100000
set_option maxHeartbeats 4000000
namespace K32
open PySem PySem.Spec PyProof.Rows L2
open C8 (Cal Mak Met pe_c pe_mk pe_mt pe_mt0)
open LamX (Tabs ExtN TabB)
open SX (S)
theorem cut_strs (R : List Str) (i : Nat) (h : i ≤ R.length) : cutV (R.map V.str) none (some (i : Int)) = (R.take i).map V.str := by
  have z : ¬ ((i : Int) < 0) := by omega
  have z2 : ((i : Int) ≤ (R.length : Int)) := by omega
  unfold cutV HT.sIx
  simp [z, z2, Nat.min_eq_left h]
section
variable {P : Program} {w : World} {K : PySem.W.Frag} {mg : Str → Option Value} {base : Heap} {f C CT : Addr} {fd : FuncData}
def spCk (CT : Addr) : Sp := fun vs H Q _ => ∃ (tu rd r ot hd kp ps : Addr) (xs R : List Str) (wd : Word), vs = [.ref tu, .ref rd] ∧ Tr CT H tu r hd kp ps ∧ Rule3 H r ot xs wd ∧ H rd = some (.lst (R.map V.str)) ∧ DayOk xs R ∧ ∀ H', Same H H' → Q .non H'
theorem ok_ck (F : Dn K d_Turns_check_riders f fd) (b : Bl mg) (b2 : Bl2 mg) (T : ClT K CT) : FnOk P w K mg base CX0 1 f fd ["self", "riders"] (spCk CT) := by
  refine F.ok sc_Turns_check_riders (fun vs H Q E h => ?_) (fun cdv A outer s H vs Q E hr h => ?_)
  · obtain ⟨tu, rd, r, ot, hd, kp, ps, xs, R, g, rfl, _⟩ := h
    rfl
  · obtain ⟨tu, rd, r, ot, hd, kp, ps, xs, R, wd, rfl, ⟨dx, htu⟩, lr, hrd, dy, hQ⟩ := h
    obtain ⟨hrr, hot, ox, wok⟩ := id lr
    have rpos : 0 < R.length := List.length_pos_iff.mpr dy.ne
    refine ⟨_, PSs.nox (pss_cons (ps_if (pt_cmpR op_eq (pe_callB call_len_seq rfl b.len boot_len (pa_cons (pv 1) pa_nil)) pe_int (nomark _)) pss_never pss_nil)
      (pss_one (ps_for PassesOwn.never rfl (pi_enum rfl b2.enum (pa_cons (pv 1) pa_nil)) (pg_tup rfl (pgs_cons (pg_name (i := 2) sc_Turns_check_riders.nd rfl (.inl rfl)) (pgs_cons (pg_name (i := 3) sc_Turns_check_riders.nd rfl (.inl rfl)) pgs_nil)))
        (pss_one (ps_if (PW.pt (pw_or (pt_cmpR op_notIn_seq (pv 3) (pe_ix ix_tup (pe_fld (pv 0) rfl) pe_int (fun _ _ => rfl)) (by rfl)) (pw_or1 (pt_cmpR op_in_seq (pv 3) (pe_slice sl_list (pv 1) po_none (po_some (pv 2))) (by rfl))))) pss_never pss_nil))))), ?_⟩
    refine ⟨_, rfl, rd, _, rfl, .inl (SqL.of hrd), rfl, _, rfl, ?_⟩
    have z0 : decide (V.int ((R.map V.str).length : Nat) = V.int 0) = false := by
      rw [List.length_map]
      exact decide_eq_false fun q => by injection q with q; omega
    rw [z0]
    refine iteF ?_
    refine ⟨_, rfl, rd, _, rfl, SqL.of hrd, for_it walk_enum (fun i σ H2 => ∃ v2 v3 : Option V, σ = [some (.ref tu), some (.ref rd), v2, v3] ∧ Same H H2) ⟨_, _, rfl, fun _ _ e => e⟩ (fun i σ H2 _ ⟨_, _, _, sm⟩ => SqL.of (sm _ _ hrd)) ?_ ?_⟩
    · rintro i x σ H2 H3 hi ⟨v2, v3, rfl, sm⟩ ⟨Tp, x1, x2, rfl, hT, rfl, e1, e2⟩
      rw [List.length_map] at hi
      cases e1
      have e2 : (List.map V.str R)[i]? = some x2 := e2
      rw [List.getElem?_map] at e2
      obtain ⟨z, hz, rfl⟩ := Option.map_eq_some_iff.mp e2
      have sT := same_new (o := .tup [V.int (i : Nat), V.str z]) hT
      have s3 := sm.trans sT
      refine ⟨Tp, _, rfl, SqT.of upd_same, rfl, _, _, rfl, _, _, rfl, rfl, ?_⟩
      refine ⟨_, rfl, _, rfl, tu, CT, dx, _, _, rfl, s3 _ _ htu, T.cl, T.nr, tr_rule _ _ _ _, r, _, _, _, rfl, rfl, SqT.of (s3 _ _ hrr), wd.at1 ot, ot, _, rfl, .inr (SqT.of (s3 _ _ hot)), rfl, flat_strs xs, _, rfl, ?_⟩
      rw [inV_strs, decide_eq_true (dy.sub z (List.mem_of_getElem? hz))]
      refine iteF ?_
      refine ⟨_, rfl, _, rfl, _, rfl, _, rfl, rd, _, rfl, SqL.of (s3 _ _ hrd), fun sl fsl => ?_⟩
      rw [cut_strs R i (by omega)]
      have s4 := s3.trans (same_new (o := .lst ((R.take i).map V.str)) fsl)
      refine ⟨sl, _, rfl, .inl (SqL.of upd_same), rfl, flat_strs _, _, rfl, ?_⟩
      have nin : ¬ z ∈ R.take i := fun hm => by
        obtain ⟨j, hj, e⟩ := List.mem_iff_getElem.mp hm
        rw [List.getElem_take] at e
        rw [List.length_take] at hj
        have e3 : R[j]? = R[i]? := by rw [hz, List.getElem?_eq_getElem (by omega), e]
        have := (List.getElem?_inj (by omega) dy.nd).mp e3
        omega
      simp only [Bool.false_eq_true, if_false]
      rw [inV_strs, decide_eq_false nin]
      exact iteF ⟨_, _, rfl, s4⟩
    · rintro σ H2 ⟨v2, v3, rfl, sm⟩
      exact hQ H2 sm
def spWho (K : PySem.W.Frag) (CT : Addr) : Sp := fun vs H Q _ => ∃ (tu rd r ot hd kp ps : Addr) (xs R : List Str) (wd : Word) (n : Nat) (md : Mem), vs = [.ref tu, .ref rd] ∧ Tr CT H tu r hd kp ps ∧ Rule3 H r ot xs wd ∧ KeptOk n wd xs H kp md ∧ n ≤ 1000 ∧ H rd = some (.lst (R.map V.str)) ∧ DayOk xs R ∧ Tabs (T0 K) H ∧
  ∀ H1, ExtN H H1 → Tabs (T0 K) H1 → ∀ y ∈ R, DrvM wd md xs R y → Q (.str y) H1
theorem ok_who (F : Dn K d_Turns_who f fd) (T : ClT K CT) (mC : Met P w K mg base 1 CT "check_riders" (spCk CT) []) (cDb : Cal P w K mg base 4 "driver_by" (spDb K) []) : FnOk P w K mg base CX0 5 f fd ["self", "riders"] (spWho K CT) := by
  refine F.ok sc_Turns_who (fun vs H Q E h => ?_) (fun cdv A outer s H vs Q E hr h => ?_)
  · obtain ⟨tu, rd, r, ot, hd, kp, ps, xs, R, wd, n, md, rfl, _⟩ := h
    rfl
  · obtain ⟨tu, rd, r, ot, hd, kp, ps, xs, R, wd, n, md, rfl, tr, lr, kt, n1, hrd, dy, tabs, hQ⟩ := h
    obtain ⟨dx, htu⟩ := id tr
    refine ⟨_, PSs.nox (pss_cons (ps_expr (pe_mt mC hr (by decide) (pv 0) (pa_cons (pv 1) pa_nil)))
      (pss_one (ps_ret (pe_c cDb hr (by decide) rfl (pa_cons (pe_fld (pv 0) rfl) (pa_cons (pe_fld (pv 0) rfl) (pa_cons (pv 1) pa_nil))))))), ?_⟩
    refine ⟨_, rfl, tu, dx, _, rfl, htu, tr_no _ _ _ _ (by decide +kernel) (by decide +kernel) (by decide +kernel) (by decide +kernel), _, rfl, tu, rd, r, ot, hd, kp, ps, xs, R, wd, rfl, tr, lr, hrd, dy, fun H2 s2 => ?_⟩
    have htu2 := s2 _ _ htu
    exact ⟨_, rfl, tu, CT, dx, _, _, rfl, htu2, T.cl, T.nr, tr_rule _ _ _ _, _, rfl, tu, CT, dx, _, _, rfl, htu2, T.cl, T.nk, tr_kept _ _ _ _, _, rfl, r, ot, kp, rd, xs, R, wd, n, md, rfl, lr.same s2, kt.same s2, n1, s2 _ _ hrd, dy, tabs.ext s2, fun H3 e3 t3 y hy dv => hQ H3 ((ExtN.of s2).trans e3) t3 y hy dv⟩
/-- all is kept but the Turns, its past, the tables -/
def KpT (tu ps : Addr) (H H' : Hp) : Prop := ∀ b o, H b = some o → (∀ q, o ≠ .tbl q) → b ≠ tu → b ≠ ps → H' b = some o
def spRide (K : PySem.W.Frag) (CT : Addr) : Sp := fun vs H Q _ => ∃ (tu rd r ot hd kp ps : Addr) (xs R : List Str) (wd : Word) (n : Nat) (c : Str → Int) (past : List V) (md : Mem), vs = [.ref tu, .ref rd] ∧ Tr CT H tu r hd kp ps ∧ Rule3 H r ot xs wd ∧ Crd H hd xs c ∧ KeptOk n wd xs H kp md ∧ n ≤ 1000 ∧ H rd = some (.lst (R.map V.str)) ∧ DayOk xs R ∧ Tabs (T0 K) H ∧
  H ps = some (.lst past) ∧ past.length ≤ 1000 ∧ rd ≠ ps ∧
  ∀ (H1 : Hp) (hd' kp' : Addr) (y : Str) (md' : Mem), KpT tu ps H H1 → Tabs (T0 K) H1 → y ∈ R → DrvM wd md xs R y → Tr CT H1 tu r hd' kp' ps → Crd H1 hd' xs (nxt R y c) → KeptOk (n + 1) wd xs H1 kp' md' → H1 ps = some (.lst (past ++ [.str y])) → Q (.str y) H1
theorem ok_ride (F : Dn K d_Turns_ride f fd) (T : ClT K CT) (mW : Met P w K mg base 5 CT "who" (spWho K CT) []) (cPb : Cal P w K mg base 1 "parts_behind" spPb []) (cMb : Cal P w K mg base 5 "memory_behind" (spMb K) []) : FnOk P w K mg base CX0 6 f fd ["self", "riders"] (spRide K CT) := by
  refine F.ok sc_Turns_ride (fun vs H Q E h => ?_) (fun cdv A outer s H vs Q E hr h => ?_)
  · obtain ⟨tu, rd, r, ot, hd, kp, ps, xs, R, wd, n, c, past, md, rfl, _⟩ := h
    rfl
  · obtain ⟨tu, rd, r, ot, hd, kp, ps, xs, R, wd, n, c, past, md, rfl, tr, lr, hcd, hck, n1, hrd, dy, tabs, hps, pl, nrp, hQ⟩ := h
    obtain ⟨dx, htu⟩ := id tr
    have l8 := lr.ox.l8
    have r8 := dy.ln
    refine ⟨_, PSs.nox (pss_cons (ps_set (i := 2) sc_Turns_ride.nd rfl (.inl rfl) (pe_mt mW hr (by decide) (pv 0) (pa_cons (pv 1) pa_nil)))
      (pss_cons (ps_fld (pv 0) (pe_c cPb hr (by decide) rfl (pa_cons (pe_ix ix_tup (pe_fld (pv 0) rfl) pe_int (fun _ _ => rfl)) (pa_cons (pe_fld (pv 0) rfl) (pa_cons (pv 1) (pa_cons (pv 2) pa_nil))))) rfl)
      (pss_cons (ps_fld (pv 0) (pe_c cMb hr (by decide) rfl (pa_cons (pe_fld (pv 0) rfl) (pa_cons (pe_fld (pv 0) rfl) (pa_cons (pv 1) pa_nil)))) rfl)
      (pss_cons (ps_expr (pe_bm PySem.F.plainAttrs_list PySem.F.slot_list_append PySem.F.type_list_append mt_append (pe_fld (pv 0) rfl) (pa_cons (pv 2) pa_nil)))
      (pss_one (ps_ret (pv 2))))))), ?_⟩
    refine ⟨_, rfl, tu, dx, _, rfl, htu, tr_no _ _ _ _ (by decide +kernel) (by decide +kernel) (by decide +kernel) (by decide +kernel), _, rfl, tu, rd, r, ot, hd, kp, ps, xs, R, wd, n, md, rfl, tr, lr, hck, n1, hrd, dy, tabs, fun H2 e2 t2 y hy dv => ?_⟩
    have htu2 : H2 tu = some (.ins CT dx (trF r hd kp ps)) := e2 _ _ htu fun _ q => by cases q
    have hrd2 : H2 rd = some (.lst (R.map V.str)) := e2 _ _ hrd fun _ q => by cases q
    have hps2 : H2 ps = some (.lst past) := e2 _ _ hps fun _ q => by cases q
    have lr2 := lr.extN e2
    obtain ⟨hrr2, hot2, _⟩ := id lr2
    refine ⟨_, rfl, tu, CT, dx, _, _, rfl, htu2, T.cl, T.nr, tr_rule _ _ _ _, r, _, _, _, rfl, rfl, SqT.of hrr2, wd.at1 ot, _, rfl, tu, CT, dx, _, _, rfl, htu2, T.cl, T.nh, tr_held _ _ _ _, _, rfl, _, rfl, ot, hd, rd, xs, R, y, c, rfl, hot2, by omega, hcd.extN e2, hrd2, dy.ne, by omega, fun hd' H3 s3 fh hh => ?_⟩
    have len4 : ∀ a b c d : Addr, (trF a b c d).length < 1000 := fun a b c d => by rw [trF_eq]; show 4 < 1000; decide
    refine ⟨_, rfl, tu, CT, dx, _, rfl, s3 _ _ htu2, T.cl, T.nh, len4 _ _ _ _, ?_⟩
    rw [put_held]
    have nt : ∀ {a : Addr} {ys : List V}, H3 a = some (.tup ys) → a ≠ tu := fun e z => by rw [z, s3 _ _ htu2] at e; cases e
    have nl : ∀ {a : Addr} {ys : List V}, H3 a = some (.lst ys) → a ≠ tu := fun e z => by rw [z, s3 _ _ htu2] at e; cases e
    have lr4 : Rule3 (upd H3 tu (.ins CT dx (trF r hd' kp ps))) r ot xs wd := (lr2.same s3).ext fun a ys e => by rw [upd_ne (nt e)]; exact e
    have hck4 : KeptOk n wd xs (upd H3 tu (.ins CT dx (trF r hd' kp ps))) kp md := ((hck.extN e2).same s3).ext fun a ys e => by rw [upd_ne (nt e)]; exact e
    have hrd4 : (upd H3 tu (.ins CT dx (trF r hd' kp ps))) rd = some (.lst (R.map V.str)) := by
      rw [upd_ne (nl (s3 _ _ hrd2))]
      exact s3 _ _ hrd2
    have tabs4 : Tabs (T0 K) (upd H3 tu (.ins CT dx (trF r hd' kp ps))) := by
      intro p hp
      obtain ⟨q, hq, tq, cq⟩ := (t2.ext s3) p hp
      refine ⟨q, ?_, tq, fun pos cv e => ?_⟩
      · rw [upd_ne (fun z => by rw [z, s3 _ _ htu2] at hq; cases hq)]
        exact hq
      · obtain ⟨c0, e1, e2⟩ := cq pos cv e
        refine ⟨c0, e1, ?_⟩
        rw [upd_ne (fun z => by rw [z, s3 _ _ htu2] at e2; cases e2)]
        exact e2
    refine ⟨_, rfl, tu, CT, dx, _, _, rfl, upd_same, T.cl, T.nr, tr_rule _ _ _ _, _, rfl, tu, CT, dx, _, _, rfl, upd_same, T.cl, T.nk, tr_kept _ _ _ _, _, rfl, r, ot, kp, rd, xs, R, wd, n, md, rfl, lr4, hck4, n1, hrd4, dy, tabs4, fun kp' H5 md' e5 t5 hk' => ?_⟩
    have htu5 : H5 tu = some (.ins CT dx (trF r hd' kp ps)) := e5 _ _ upd_same fun _ q => by cases q
    refine ⟨_, rfl, tu, CT, dx, _, rfl, htu5, T.cl, T.nk, len4 _ _ _ _, ?_⟩
    rw [put_kept]
    have nt5 : ∀ {a : Addr} {ys : List V}, H5 a = some (.tup ys) → a ≠ tu := fun e z => by rw [z, htu5] at e; cases e
    have hps4 : (upd H3 tu (.ins CT dx (trF r hd' kp ps))) ps = some (.lst past) := by
      rw [upd_ne (nl (s3 _ _ hps2))]
      exact s3 _ _ hps2
    have hps5 : H5 ps = some (.lst past) := e5 _ _ hps4 fun _ q => by cases q
    have npt : ps ≠ tu := fun z => by rw [z, htu5] at hps5; cases hps5
    have hps6 : (upd H5 tu (.ins CT dx (trF r hd' kp' ps))) ps = some (.lst past) := by rw [upd_ne npt]; exact hps5
    have hh5 : Crd H5 hd' xs (nxt R y c) := e5 _ _ (by rw [upd_ne (nt hh)]; exact hh) fun _ q => by cases q
    have ntp : ∀ {a : Addr} {ys : List V}, H5 a = some (.tup ys) → a ≠ ps := fun e z => by rw [z, hps5] at e; cases e
    refine ⟨_, rfl, tu, CT, dx, _, _, rfl, upd_same, T.cl, T.np, tr_past _ _ _ _, Or.inl ⟨rfl, _, SqL.of hps6⟩, _, rfl, ps, _, _, rfl, rfl, hps6, Nat.lt_of_le_of_lt pl (by decide), _, rfl, ?_⟩
    refine hQ _ hd' kp' y md' (fun b o e hn n1 n2 => ?_) (fun p hp => ?_) hy dv ⟨dx, by rw [upd_ne npt.symm, upd_same]⟩ ?_ ?_ upd_same
    · rw [upd_ne n2, upd_ne n1]
      refine e5 _ _ ?_ hn
      rw [upd_ne n1]
      exact s3 _ _ (e2 _ _ e hn)
    · obtain ⟨q, hq, tq, cq⟩ := t5 p hp
      refine ⟨q, ?_, tq, fun pos cv e => ?_⟩
      · rw [upd_ne (fun z => by rw [z, hps5] at hq; cases hq), upd_ne (fun z => by rw [z, htu5] at hq; cases hq)]
        exact hq
      · obtain ⟨c0, e1, e2⟩ := cq pos cv e
        refine ⟨c0, e1, ?_⟩
        rw [upd_ne (fun z => by rw [z, hps5] at e2; cases e2), upd_ne (fun z => by rw [z, htu5] at e2; cases e2)]
        exact e2
    · show (upd _ ps _) hd' = _
      rw [upd_ne (ntp hh5), upd_ne (nt5 hh5)]
      exact hh5
    · refine hk'.ext fun a ys e => ?_
      rw [upd_ne (ntp e), upd_ne (nt5 e)]
      exact e
end
end K32
set_option Elab.async false
set_option linter.all false
set_option maxRecDepth 100000
set_option maxHeartbeats 4000000
/-! data: texts, pairs -/
namespace DQ
open PySem PySem.Spec PyProof.Rows L2
def pD (q : Int × Int) : PyData := .tuple [.int q.1, .int q.2]
theorem all_strs : ∀ xs : List Str, (∀ x ∈ xs, PyData.strOk x = true) → PyData.canLayAll0 (xs.map PyData.str) = true ∧ PyData.depthAll (xs.map PyData.str) = 0
  | [], _ => ⟨rfl, rfl⟩
  | x :: r, h => by
    obtain ⟨h1, h2⟩ := all_strs r fun y hy => h y (List.mem_cons_of_mem _ hy)
    have h3 := h x List.mem_cons_self
    exact ⟨by simp [PyData.canLayAll0, PyData.canLay0, h1, h3], by simp [PyData.depthAll, PyData.depth, h2]⟩
theorem sh_strs {xs : List Str} (h : ∀ x ∈ xs, PyData.strOk x = true) : SeqAt.shaped (.list (xs.map PyData.str)) = true := by
  obtain ⟨h1, h2⟩ := all_strs xs h
  simp [SeqAt.shaped, PyData.canLay0, PyData.depth, h1, h2]
theorem all_pairs : ∀ qs : List (Int × Int), PyData.canLayAll0 (qs.map pD) = true ∧ PyData.depthAll (qs.map pD) ≤ 2
  | [] => ⟨rfl, by decide⟩
  | _ :: r => by
    obtain ⟨h1, h2⟩ := all_pairs r
    refine ⟨by simp [PyData.canLayAll0, PyData.canLay0, pD, h1], ?_⟩
    show max (PyData.depth (pD _)) (PyData.depthAll (r.map pD)) ≤ 2
    have h3 : ∀ q, PyData.depth (pD q) ≤ 2 := fun q => by show 1 ≤ 2; decide
    exact Nat.max_le.mpr ⟨h3 _, h2⟩
theorem sh_pair (q : Int × Int) : SeqAt.shaped (pD q) = true := rfl
theorem sh_pairs (qs : List (Int × Int)) : SeqAt.shaped (.list (qs.map pD)) = true := by
  obtain ⟨h1, h2⟩ := all_pairs qs
  have h3 : PyData.depthAll (qs.map pD) + 1 ≤ 64 := by omega
  simp [SeqAt.shaped, PyData.canLay0, PyData.depth, h1]
  omega
theorem eq_strs (xs : List Str) : PyData.eqv (.list (xs.map PyData.str)) (.list (xs.map PyData.str)) = true := by
  refine PySem.W.eqv_refl_alike _ ?_
  induction xs with
  | nil => rfl
  | cons x xs ih => simpa [PySem.W.alike, PySem.W.alikeAll] using ih
theorem eq_pair (q : Int × Int) : PyData.eqv (pD q) (pD q) = true := PySem.W.eqv_refl_alike _ rfl
theorem eq_pairs (qs : List (Int × Int)) : PyData.eqv (.list (qs.map pD)) (.list (qs.map pD)) = true := by
  refine PySem.W.eqv_refl_alike _ ?_
  induction qs with
  | nil => rfl
  | cons x xs ih => simpa [PySem.W.alike, PySem.W.alikeAll, pD] using ih
theorem dp_strs {K : PySem.W.Frag} {H : Hp} : ∀ xs : List Str, DpAll K H (xs.map V.str) (xs.map PyData.str)
  | [] => .nil
  | x :: xs => .cons (.str x) (dp_strs xs)
theorem dp_pair {K : PySem.W.Frag} {H : Hp} {t : Addr} {q : Int × Int} (h : H t = some (.tup [.int q.1, .int q.2])) : Dp K H (.ref t) (pD q) := .tup (SqT.of h) (.cons (.int _) (.cons (.int _) .nil))
theorem dp_pairs {K : PySem.W.Frag} {H : Hp} : ∀ L : List (Addr × (Int × Int)), (∀ p ∈ L, H p.1 = some (.tup [.int p.2.1, .int p.2.2])) → DpAll K H (L.map fun p => V.ref p.1) ((L.map (·.2)).map pD)
  | [], _ => .nil
  | p :: L, h => .cons (dp_pair (h p List.mem_cons_self)) (dp_pairs L fun q hq => h q (List.mem_cons_of_mem _ hq))
/-- a dict by names -/
theorem val_map (f : Str → V) {y : Str} : ∀ {l : List Str}, y ∈ l → valV (l.map fun x => ((Sum.inr x : Key), f x)) (Sum.inr y) = some (f y)
  | x :: l, h => by
    rw [List.map_cons]
    by_cases e : x = y
    · rw [valV_pos (by rw [e])]
      rw [e]
    · rw [valV_neg (fun z => e (Sum.inr.inj z))]
      exact val_map f ((List.mem_cons.mp h).resolve_left fun z => e z.symm)
theorem val_none (f : Str → V) {y : Str} : ∀ {l : List Str}, y ∉ l → valV (l.map fun x => ((Sum.inr x : Key), f x)) (Sum.inr y) = none
  | [], _ => rfl
  | x :: l, h => by
    rw [List.map_cons, valV_neg (fun z => h (by rw [Sum.inr.inj z]; exact List.mem_cons_self))]
    exact val_none f fun z => h (List.mem_cons_of_mem _ z)
theorem put_new (f : Str → V) {y : Str} {l : List Str} (h : y ∉ l) : putK (l.map fun x => ((Sum.inr x : Key), f x)) (Sum.inr y) (f y) = (l ++ [y]).map fun x => ((Sum.inr x : Key), f x) := by
  rw [putK_new _ (val_none f h), List.map_append]
  rfl
theorem put_old (f : Str → V) {y : Str} {v : V} {l : List Str} (h : y ∈ l) : putK (l.map fun x => ((Sum.inr x : Key), f x)) (Sum.inr y) v = l.map fun x => ((Sum.inr x : Key), if x = y then v else f x) := by
  have a : ((l.map fun x => ((Sum.inr x : Key), f x)).any fun kv => decide (kv.1 = Sum.inr y)) = true := by
    rw [List.any_eq_true]
    exact ⟨(Sum.inr y, f y), List.mem_map.mpr ⟨y, h, rfl⟩, by simp⟩
  unfold putK
  rw [if_pos a, List.map_map]
  refine List.map_congr_left fun x _ => ?_
  show (if (Sum.inr x : Key) = Sum.inr y then ((Sum.inr x : Key), v) else (Sum.inr x, f x)) = _
  by_cases e : x = y
  · rw [if_pos (by rw [e]), if_pos e]
  · rw [if_neg (fun z => e (Sum.inr.inj z)), if_neg e]
theorem merge_map (f : Str → V) : ∀ {l m : List Str}, (m ++ l).Nodup → mergeK (m.map fun x => ((Sum.inr x : Key), f x)) (l.map fun x => ((Sum.inr x : Key), f x)) = (m ++ l).map fun x => ((Sum.inr x : Key), f x)
  | [], m, _ => by rw [List.append_nil]; rfl
  | y :: l, m, h => by
    have h' : (m ++ [y] ++ l).Nodup := by rw [List.append_assoc]; exact h
    have ny : y ∉ m := fun z => by
      have := (List.nodup_append.mp h).2.2 y z y List.mem_cons_self
      exact this rfl
    show mergeK (putK _ (Sum.inr y) (f y)) (l.map fun x => ((Sum.inr x : Key), f x)) = _
    rw [put_new f ny, merge_map f h', List.append_assoc]
    rfl
end DQ
set_option Elab.async false
set_option linter.all false
set_option maxRecDepth 100000
set_option maxHeartbeats 4000000
/-! xs.count(x), texts -/
namespace CS
open PySem PySem.Spec PyProof.Rows L2
def eqs (z : Str) : Value → Bool
  | .str c _ => c == z
  | _ => false
theorem vals_str {bs : List Str} : ∀ {us : List Value}, Vals (bs.map V.str) us → (∀ u ∈ us, ∃ c t, u = Value.str c t) ∧ ∀ z, us.countP (eqs z) = bs.count z := by
  induction bs with
  | nil =>
    intro us r
    cases r
    exact ⟨fun u h => by simp at h, fun z => rfl⟩
  | cons b bs ih =>
    intro us r
    rw [List.map_cons] at r
    cases r with
    | cons h t =>
      obtain ⟨i1, i2⟩ := ih t
      obtain ⟨tk, rfl⟩ := h
      refine ⟨fun u hu => ?_, fun z => ?_⟩
      · rcases List.mem_cons.mp hu with e | hu
        · exact ⟨b, tk, e⟩
        · exact i1 u hu
      · rw [List.countP_cons, List.count_cons, i2]
        rfl
def rCntS (K : PySem.W.Frag) : V → List V → Hp → VK → Prop := fun x xs H Q => ∃ (p : Addr) (bs : List Str) (z : Str), x = .ref p ∧ xs = [.str z] ∧ SqL K H p (bs.map V.str) ∧ Q (.int (bs.count z : Nat)) H
theorem mt_scount {X : Cx} : MtR X "list.count" (rCntS X.K) := by
  intro pins s σ H x xs v us Q I rx rxs h
  obtain ⟨p, bs, z, rfl, rfl, hs, q⟩ := h
  cases rx
  obtain ⟨u, rfl, ru⟩ := rxs.one
  obtain ⟨tz, rfl⟩ := ru
  obtain ⟨its, rv, ⟨⟨cls, dd, data, sl⟩, n, ho, hc, hdn, hd⟩, hlen⟩ := I.list hs
  simp only at hc hd
  subst hc hd
  obtain ⟨i1, i2⟩ := vals_str rv
  refine call_meets PySem.F.slot_list_count ⟨_, ho, rfl⟩ PySem.F.entry_list_count (PySem.F.args_list_count_2 _ _) (SeqAt.list_countAt p _ n dd sl (.str z tz) (eqs z)) ⟨ho, fun y hy => ?_, ?_⟩
  · obtain ⟨c, t, rfl⟩ := i1 y (by simpa using hy)
    exact SeqAt.EqAt.str_str c t z tz
  · refine ⟨.int (bs.count z : Nat), H, I.tok _, ⟨s.toks, ?_⟩, q⟩
    show Value.int ((its.toArray.toList.countP (eqs z) : Nat) : Int) s.toks = Value.int ((bs.count z : Nat) : Int) s.toks
    rw [show its.toArray.toList = its from rfl, i2]
end CS
set_option Elab.async false
set_option linter.all false
set_option maxRecDepth 100000
set_option maxHeartbeats 4000000
namespace K32
open PySem PySem.Spec PyProof.Rows L2
open C8 (Cal Mak Met pe_c pe_mk pe_mt pe_mt0)
open LamX (Tabs ExtN TabB)
open KM (pr)
/-- a dict over zip of two tuples of one length -/
theorem dc_zipT {K : PySem.W.Frag} {a b : Addr} {xs ys : List V} {g : TG} {tt : TT} {tk tv : TE} {vs : List Nat} {σ : L2.St} {H1 : Hp} {D : Addr} {Qd : Hp → Prop} (hl : xs.length = ys.length) (Pv : Nat → Hp → Prop) (h0 : Pv 0 (upd H1 D (.dK []))) (hq : ∀ i H, Pv i H → SqT K H a xs ∧ SqT K H b ys)
    (hs : ∀ (i : Nat) (x y : V) (T : Addr) (H : Hp), xs[i]? = some x → ys[i]? = some y → Pv i H → H T = none → g (.ref T) (wipe σ vs) (upd H T (.tup [x, y])) fun σ2 H2 => wipe σ2 vs = wipe σ vs ∧ tt σ2 H2 fun b H3 =>
      if b = true then tk σ2 H3 fun y H4 => tv σ2 H4 fun z H5 => ∃ kvs k, y = kV k ∧ H5 D = some (.dK kvs) ∧ kvs.length < sizeLine ∧ Pv (i + 1) (upd H5 D (.dK (putK kvs k z))) else Pv (i + 1) H3) (hd : ∀ H, Pv xs.length H → Qd H) :
    ∃ W : Nat → Nat → Hp → Prop, (∃ m, W 0 m (upd H1 D (.dK []))) ∧ ∀ i m H, W i m H →
      ((RZ.ItzT K a b).stop i H ∧ Qd H) ∨ ((RZ.ItzT K a b).go i H ∧ ∃ Nx : Hp → Prop, (∀ H', Nx H' → ∃ m', m' < m ∧ W (i + 1) m' H') ∧ ∀ x H', (RZ.ItzT K a b).yld i H x H' → g x (wipe σ vs) H' fun σ2 H2 => wipe σ2 vs = wipe σ vs ∧ tt σ2 H2 fun b H3 =>
        if b = true then tk σ2 H3 fun y H4 => tv σ2 H4 fun z H5 => ∃ kvs k, y = kV k ∧ H5 D = some (.dK kvs) ∧ kvs.length < sizeLine ∧ Nx (upd H5 D (.dK (putK kvs k z))) else Nx H3) := by
  refine ⟨fun i m H => m = xs.length - i ∧ i ≤ xs.length ∧ Pv i H, ⟨xs.length, rfl, Nat.zero_le _, h0⟩, ?_⟩
  rintro i m H ⟨rfl, hi, p⟩
  obtain ⟨qx, qy⟩ := hq i H p
  by_cases hlt : i < xs.length
  · have hx : xs[i]? = some xs[i] := List.getElem?_eq_getElem hlt
    have hlt2 : i < ys.length := by omega
    have hy : ys[i]? = some ys[i] := List.getElem?_eq_getElem hlt2
    refine .inr ⟨⟨xs, ys, _, _, qx, qy, hx, hy⟩, Pv (i + 1), fun H' p' => ⟨xs.length - (i + 1), by omega, rfl, hlt, p'⟩, fun v H' y => ?_⟩
    obtain ⟨T, x', y', rfl, hT, rfl, f1, f2⟩ := y
    exact hs i x' y' T H (f1 xs qx) (f2 ys qy) p hT
  · have e : i = xs.length := by omega
    subst e
    exact .inl ⟨⟨xs, ys, qx, qy, Or.inl (Nat.le_refl _)⟩, hd H p⟩
section
variable {P : Program} {w : World} {K : PySem.W.Frag} {mg : Str → Option Value} {base : Heap} {f C CT : Addr} {fd : FuncData}
/-- a dict by names -/
def dctO (l : List Str) (g : Str → V) : HO := .dK (l.map fun x => ((Sum.inr x : Key), g x))
/-- a credit as a share of a ride -/
def rt (c : Int) : Rat := Rat.divInt c 840
theorem nin_take {xs : List Str} (nd : xs.Nodup) {i : Nat} {z : Str} (h : xs[i]? = some z) : z ∉ xs.take i := fun hm => by
  obtain ⟨j, hj, e⟩ := List.mem_iff_getElem.mp hm
  rw [List.getElem_take] at e
  rw [List.length_take] at hj
  have e3 : xs[j]? = xs[i]? := by rw [h, List.getElem?_eq_getElem (by omega), e]
  have := (List.getElem?_inj (by omega) nd).mp e3
  omega
theorem map_ne {l : List Str} {z : Str} (h : z ∉ l) {f g : Str → V} (e : ∀ x, x ≠ z → f x = g x) : (l.map fun x => ((Sum.inr x : Key), f x)) = l.map fun x => ((Sum.inr x : Key), g x) :=
  List.map_congr_left fun x hx => by rw [e x fun q => h (q ▸ hx)]
def spSt (C CT : Addr) : Sp := fun vs H Q _ => ∃ (tu r ot hd kp ps : Addr) (xs : List Str) (wd : Word) (c : Str → Int), vs = [.ref tu] ∧ Tr CT H tu r hd kp ps ∧ Rule3 H r ot xs wd ∧ Crd H hd xs c ∧
  ∀ (D : Addr) (H' : Hp) (ad : Str → Addr), Same H H' → H D = none → H' D = some (dctO xs fun x => .ref (ad x)) → (∀ x ∈ xs, Sh C H' (ad x) (pr (rt (c x)))) → Q (.ref D) H'
theorem ok_st (F : Dn K d_Turns_stands f fd) (b2 : Bl2 mg) (T : ClT K CT) (gp : ∃ t, mg "RIDE_PARTS" = some (.int 840 t)) (MS : MakS P w K mg base C) : FnOk P w K mg base CX0 4 f fd ["self"] (spSt C CT) := by
  refine F.ok sc_Turns_stands (fun vs H Q E h => ?_) (fun cdv A outer s H vs Q E hr h => ?_)
  · obtain ⟨tu, r, ot, hd, kp, ps, xs, wd, c, rfl, _⟩ := h
    rfl
  · obtain ⟨tu, r, ot, hd, kp, ps, xs, wd, c, rfl, ⟨dx, htu⟩, lr, hc, hQ⟩ := h
    obtain ⟨hrr, hot, ox, wok⟩ := id lr
    obtain ⟨t, gp⟩ := gp
    have l8 := ox.l8
    refine ⟨_, PSs.nox (pss_one (ps_ret (pe_dc (own := [("name", 1), ("parts", 2)]) (g := gTup K 2 (gCons (gName 1) (gCons (gName 2) gNil))) (tt := tYes) rfl sc_Turns_stands.nd (RZ.pi_zipA rfl b2.zip (pa_cons (pe_ix ix_tup (pe_fld (pv 0) rfl) pe_int (fun _ _ => rfl)) (pa_cons (pe_fld (pv 0) rfl) pa_nil)))
      (blkOk_by (N := N_Turns_stands) (sc := defScope s_Turns_stands) (by decide +kernel)) (fun _ _ _ _ _ => pg_tup rfl (pgs_cons (pg_name (i := 1) sc_Turns_stands.nd rfl (.inl rfl)) (pgs_cons (pg_name (i := 2) sc_Turns_stands.nd rfl (.inl rfl)) pgs_nil))) (fun _ _ _ _ _ => pts_nil)
      (fun _ _ _ _ _ => pv 1) (fun _ _ _ _ _ => pe_mk MS hr (by decide) rfl (pa_cons (pv 2) (pa_cons (pe_glob (v := .int 840) rfl gp ⟨t, rfl⟩) pa_nil)))))), ?_⟩
    refine ⟨_, rfl, tu, CT, dx, _, _, rfl, htu, T.cl, T.nr, tr_rule _ _ _ _, r, _, _, _, rfl, rfl, SqT.of hrr, wd.at1 ot, _, rfl, tu, CT, dx, _, _, rfl, htu, T.cl, T.nh, tr_held _ _ _ _, ot, hd, _, _, rfl, .inr ⟨SqT.of hot, SqT.of hc, fun D hD => ?_⟩⟩
    refine dc_zipT (by simp) (fun i H2 => ∃ ad : Str → Addr, H2 D = some (dctO (xs.take i) fun x => .ref (ad x)) ∧ Same H H2 ∧ ∀ x ∈ xs.take i, Sh C H2 (ad x) (pr (rt (c x))))
      ⟨fun _ => 0, upd_same, same_new hD, fun x hx => by simp at hx⟩ (fun i H2 ⟨_, _, sm, _⟩ => ⟨SqT.of (sm _ _ hot), SqT.of (sm _ _ hc)⟩) ?_ ?_
    · rintro i x y Tp H2 hx hy ⟨ad, hdd, sm, hval⟩ hT
      have hi' : i < xs.length := by
        have := (List.getElem?_eq_some_iff.mp hx).1
        simpa using this
      rw [List.getElem?_map] at hx hy
      obtain ⟨z, hz, rfl⟩ := Option.map_eq_some_iff.mp hx
      rw [hz] at hy
      cases hy
      have nz := nin_take ox.nd hz
      have et : xs.take (i + 1) = xs.take i ++ [z] := by rw [List.take_succ, hz]; rfl
      have sT := same_new (o := .tup [V.str z, V.int (c z)]) hT
      refine ⟨Tp, _, rfl, SqT.of upd_same, rfl, _, _, rfl, _, _, rfl, rfl, rfl, ?_⟩
      refine ⟨_, rfl, _, rfl, ?_⟩
      intro q dq nq nd ne
      refine mk_in (n := 10) nq nd (by decide) (by decide) (by decide) (by decide) fun H3 s3 hq => ⟨rfl, ?_⟩
      have s23 := sT.trans s3
      have hD3 := s23 _ _ hdd
      refine ⟨_, Sum.inr z, rfl, hD3, ?_, fun x => if x = z then q else ad x, ?_, ?_, ?_⟩
      · rw [List.length_map, List.length_take]
        exact Nat.lt_of_lt_of_le (by omega : min i xs.length < 64) (by decide)
      · rw [upd_same, et]
        have e1 : (xs.take i).map (fun x => ((Sum.inr x : Key), V.ref (ad x))) = (xs.take i).map fun x => ((Sum.inr x : Key), V.ref (if x = z then q else ad x)) := map_ne nz fun x n => by rw [if_neg n]
        unfold dctO
        rw [e1]
        have e2 := DQ.put_new (fun x => V.ref (if x = z then q else ad x)) nz
        rw [if_pos rfl] at e2
        rw [e2]
      · intro a o e
        rw [upd_ne (ne_of_none e hD)]
        exact s23 a o (sm a o e)
      · have keep : ∀ {p : Addr} {v : Int × Int} {o : HO}, Sh C H3 p v → Sh C (upd H3 D o) p v := fun {p v o} ⟨dp, hp⟩ => ⟨dp, by
          rw [upd_ne (fun e => by rw [e, hD3] at hp; cases hp)]
          exact hp⟩
        intro x hx
        rw [et] at hx
        rcases List.mem_append.mp hx with hx | hx
        · have n : x ≠ z := fun e => nz (e ▸ hx)
          show Sh C _ (if x = z then q else ad x) _
          rw [if_neg n]
          exact keep ((hval x hx).keep s23)
        · rw [List.mem_singleton] at hx
          show Sh C _ (if x = z then q else ad x) _
          rw [hx, if_pos rfl]
          exact keep hq
    · rintro H2 ⟨ad, hdd, sm, hval⟩
      rw [List.length_map, List.take_length] at hdd hval
      exact hQ D H2 ad sm hD hdd hval
def spDr (CT : Addr) : Sp := fun vs H Q _ => ∃ (tu r ot hd kp ps : Addr) (xs past : List Str) (wd : Word), vs = [.ref tu] ∧ Tr CT H tu r hd kp ps ∧ Rule3 H r ot xs wd ∧ H ps = some (.lst (past.map V.str)) ∧
  ∀ (D : Addr) (H' : Hp), Same H H' → H D = none → H' D = some (dctO xs fun x => .int (past.count x : Nat)) → Q (.ref D) H'
theorem ok_dr (F : Dn K d_Turns_drives f fd) (T : ClT K CT) : FnOk P w K mg base CX0 1 f fd ["self"] (spDr CT) := by
  refine F.ok sc_Turns_drives (fun vs H Q E h => ?_) (fun cdv A outer s H vs Q E hr h => ?_)
  · obtain ⟨tu, r, ot, hd, kp, ps, xs, past, wd, rfl, _⟩ := h
    rfl
  · obtain ⟨tu, r, ot, hd, kp, ps, xs, past, wd, rfl, ⟨dx, htu⟩, lr, hps, hQ⟩ := h
    obtain ⟨hrr, hot, ox, wok⟩ := id lr
    have l8 := ox.l8
    refine ⟨_, PSs.nox (pss_one (ps_ret (pe_dc (own := [("name", 1)]) (g := gName 1) (tt := tYes) (tv := tBM K "list" (CS.rCntS K) (tFld K (tVar 0) "past") (tCons (tVar 1) tNil)) rfl sc_Turns_drives.nd (pi_tup (pe_ix ix_tup (pe_fld (pv 0) rfl) pe_int (fun _ _ => rfl)))
      (blkOk_by (N := N_Turns_drives) (sc := defScope s_Turns_drives) (by decide +kernel)) (fun _ _ _ _ _ => pg_name (i := 1) sc_Turns_drives.nd rfl (.inl rfl)) (fun _ _ _ _ _ => pts_nil)
      (fun _ _ _ _ _ => pv 1) (fun _ _ _ _ _ => pe_bm (r := CS.rCntS K) PySem.F.plainAttrs_list PySem.F.slot_list_count PySem.F.type_list_count CS.mt_scount (pe_fld (pv 0) rfl) (pa_cons (pv 1) pa_nil))))), ?_⟩
    refine ⟨_, rfl, tu, CT, dx, _, _, rfl, htu, T.cl, T.nr, tr_rule _ _ _ _, r, _, _, _, rfl, rfl, SqT.of hrr, wd.at1 ot, ot, rfl, ⟨_, SqT.of hot⟩, fun D hD => ?_⟩
    refine dc_tup (fun i H2 => H2 D = some (dctO (xs.take i) fun x => .int (past.count x : Nat)) ∧ Same H H2) ⟨upd_same, same_new hD⟩ (fun i H2 _ z => SqT.of (z.2 _ _ hot)) ?_ ?_
    · rintro i x H2 hx ⟨hdd, sm⟩
      have hi' : i < xs.length := by
        have := (List.getElem?_eq_some_iff.mp hx).1
        simpa using this
      rw [List.getElem?_map] at hx
      obtain ⟨z, hz, rfl⟩ := Option.map_eq_some_iff.mp hx
      have nz := nin_take ox.nd hz
      have et : xs.take (i + 1) = xs.take i ++ [z] := by rw [List.take_succ, hz]; rfl
      refine ⟨rfl, ?_⟩
      refine ⟨_, rfl, _, rfl, tu, CT, dx, _, _, rfl, sm _ _ htu, T.cl, T.np, tr_past _ _ _ _, Or.inl ⟨rfl, _, SqL.of (sm _ _ hps)⟩, _, rfl, ps, past, z, rfl, rfl, SqL.of (sm _ _ hps), ?_⟩
      refine ⟨_, Sum.inr z, rfl, hdd, ?_, ?_, ?_⟩
      · rw [List.length_map, List.length_take]
        exact Nat.lt_of_lt_of_le (by omega : min i xs.length < 64) (by decide)
      · rw [upd_same, et]
        exact congrArg (fun l => some (HO.dK l)) (DQ.put_new (fun x => V.int (past.count x : Nat)) nz)
      · intro a o e
        rw [upd_ne (ne_of_none e hD)]
        exact sm a o e
    · rintro H2 ⟨hdd, sm⟩
      rw [List.length_map, List.take_length] at hdd
      exact hQ D H2 sm hD hdd
def spLen (CT : Addr) : Sp := fun vs H Q _ => ∃ (tu r hd kp ps : Addr) (past : List V), vs = [.ref tu] ∧ Tr CT H tu r hd kp ps ∧ H ps = some (.lst past) ∧ Q (.int (past.length : Nat)) H
theorem ok_len (F : Dn K d_Turns_len f fd) (b : Bl mg) (T : ClT K CT) : FnOk P w K mg base CX0 1 f fd ["self"] (spLen CT) := by
  refine F.ok sc_Turns_len (fun vs H Q E h => ?_) (fun cdv A outer s H vs Q E hr h => ?_)
  · obtain ⟨tu, r, hd, kp, ps, past, rfl, _⟩ := h
    rfl
  · obtain ⟨tu, r, hd, kp, ps, past, rfl, ⟨dx, htu⟩, hps, hQ⟩ := h
    refine ⟨_, PSs.nox (pss_one (ps_ret (pe_callB call_len_seq rfl b.len boot_len (pa_cons (pe_fld (pv 0) rfl) pa_nil)))), ?_⟩
    exact ⟨_, rfl, tu, CT, dx, _, _, rfl, htu, T.cl, T.np, tr_past _ _ _ _, ps, _, rfl, .inl (SqL.of hps), hQ⟩
end
end K32
set_option Elab.async false
set_option linter.all false
set_option maxRecDepth 100000
set_option maxHeartbeats 4000000
/-! OW: ==, !=, str and repr of instances of an own class by its own __eq__, __str__, __repr__. -/
namespace OW
open PySem PySem.Spec PyProof.Rows L2
/-- what is known of a special def of the class: where it stands, that it keeps its promise -/
structure Spc (P : Program) (w : World) (K : PySem.W.Frag) (mg : Str → Option Value) (base : Heap) (k : Nat) (C : Addr) (m : Str) (sp : Sp) : Prop where
  ex : ∃ (f : Addr) (fd : FuncData) (ps : List Str), PySem.W.findIn K (.ref C) m = some (some (.ref f)) ∧ PySem.W.isFn K (.ref f) = true ∧ FnOk P w K mg base CX0 k f fd ps sp ∧ Binds K fd ps []
section
variable {X : Cx} {pins : List (Addr × Obj)} {σ : L2.St} {H : Hp} {s : Shared} {Q : VK} {k : Nat} {C a b : Addr} {sp : Sp}
/-- a def called at any around with room -/
theorem run_at {f : Addr} {fd : FuncData} {ps : List Str} {A : Around} {us : List Value} {vs : List V} {E' : Value → Shared → Prop} (F : FnOk X.prog X.w X.K X.mg X.base CX0 k f fd ps sp) (hb : Binds X.K fd ps []) (hr : Room k A) (I : Inv X pins σ H s)
    (he : Env0 X.prog X.w X.K X.mg X.base A X.stack s H) (r : Vals vs us) (h : sp vs H Q E0) : wpAny (model X.prog X.w) A (call (.ref f) us) (EP X pins σ Q) E' s := by
  have hl : us.length = ps.length := by rw [← r.length]; exact F.len _ _ _ _ h
  have b := hb s us I.kIn (by rw [List.append_nil]; exact hl)
  rw [List.append_nil] at b
  refine wpAny_call (codeAny_mono (F.run A X.stack s H ⟨us, []⟩ us vs Q E0 hr he b r h) fun r s' hq => ?_)
  cases r with
  | error e => exact False.elim hq
  | ok fl =>
    cases fl with
    | ret u => exact I.after hq
    | next => exact False.elim hq
    | brk => exact False.elim hq
    | cont => exact False.elim hq
theorem same_first : PySem.W.notFirst X.K C (.ref C) = true := by
  unfold PySem.W.notFirst
  rw [beq_self_eq_true, Bool.true_or]
/-- x == y, both of the class -/
def rEqO (C : Addr) (sp : Sp) : R2 := fun x y H Q => ∃ a dx fs b dy gs, x = .ref a ∧ y = .ref b ∧ H a = some (.ins C dx fs) ∧ H b = some (.ins C dy gs) ∧ sp [x, y] H (fun v H' => ∃ z, v = .bl z ∧ Q (.bl z) H') E0
def rNeO (C : Addr) (sp : Sp) : R2 := fun x y H Q => ∃ a dx fs b dy gs, x = .ref a ∧ y = .ref b ∧ H a = some (.ins C dx fs) ∧ H b = some (.ins C dy gs) ∧ sp [x, y] H (fun v H' => ∃ z, v = .bl z ∧ Q (.bl (!z)) H') E0
theorem op_eqO (S : Spc X.prog X.w X.K X.mg X.base k C "__eq__" sp) (hr : Room k X.A) : OpR X (compareOp .Eq) (rEqO C sp) := by
  obtain ⟨f, fd, ps, h1, h2, F, hb⟩ := S.ex
  intro pins s σ H x y v u Q I rx ry h
  obtain ⟨a, dx, fs, b, dy, gs, rfl, rfl, ea, eb, q⟩ := h
  cases (show v = Value.ref a from rx)
  cases (show u = Value.ref b from ry)
  obtain ⟨mA, O, _⟩ := ins_get I.hok ea
  obtain ⟨od, J, _⟩ := O.look
  obtain ⟨mB, O', _⟩ := ins_get I.hok eb
  obtain ⟨od', J', _⟩ := O'.look
  obtain ⟨m, hF⟩ := I.fr
  show wpAny _ _ (richCompare .Eq (.ref a) (.ref b)) _ _ _
  refine PySem.W.cmp_K (op := .Eq) (tb := .ref C) hr.units0 hF I.ok.mod.kin J J'.type same_first h1 h2 ?_
  refine wpAny_mono (run_at (E' := X.xe) (vs := [.ref a, .ref b]) F hb hr I I.env0 (.cons rfl (.cons rfl .nil)) q) (fun w s' z => ?_) fun _ _ x => x
  obtain ⟨z', H', I', rz, z, rfl, qz⟩ := z
  cases (show w = Value.bool z from rz)
  exact ⟨.bl z, H', I', rfl, qz⟩
open Builtin in
theorem op_neO (S : Spc X.prog X.w X.K X.mg X.base (k + 1) C "__eq__" sp) (hn : PySem.W.findIn X.K (.ref C) "__ne__" = some (some (.builtin "object.__ne__"))) (hm : PySem.W.mroIn X.K C (.type "object") = some true) (hr : Room (k + 2) X.A) : OpR X (compareOp .NotEq) (rNeO C sp) := by
  obtain ⟨f, fd, ps, h1, h2, F, hb⟩ := S.ex
  intro pins s σ H x y v u Q I rx ry h
  obtain ⟨a, dx, fs, b, dy, gs, rfl, rfl, ea, eb, q⟩ := h
  cases (show v = Value.ref a from rx)
  cases (show u = Value.ref b from ry)
  obtain ⟨mA, O, _⟩ := ins_get I.hok ea
  obtain ⟨od, J, _⟩ := O.look
  obtain ⟨mB, O', _⟩ := ins_get I.hok eb
  obtain ⟨od', J', _⟩ := O'.look
  have KI := I.kIn
  have callEq : wpAny (model X.prog X.w) X.A.in1 (call (.ref f) [.ref a, .ref b]) (fun v s' => ∃ z, v = .bool z ∧ EP X pins σ Q (.bool (!z)) s') X.xe s := by
    refine wpAny_mono (run_at (E' := X.xe) (vs := [.ref a, .ref b]) F hb hr.in1 I I.env0.in1 (.cons rfl (.cons rfl .nil)) q) (fun w s' z => ?_) fun _ _ x => x
    obtain ⟨z', H', I', rz, z, rfl, qz⟩ := z
    exact ⟨z, rz, .bl (!z), H', I', rfl, qz⟩
  have slot := PySem.F.cmp_object.ne
  have sub : PySem.W.Looks (model X.prog X.w) s.heap (isInstance (.ref a) (.type "object")) true := J.type.andThen (PySem.W.looks_mroIn KI hm)
  have uu : X.A.in1.units < cLine := hr.in1.units0
  have body : wpAny (model X.prog X.w) X.A.in1 (Builtin.«object.__ne__» ⟨[.ref a, .ref b], []⟩) (fun fin s' => match fin with | .done f => (match f with | .ret v => EP X pins σ Q v s' ∧ ∃ z, v = .bool z | _ => False) | .again _ => False) X.xe s := by
    unfold Builtin.«object.__ne__»
    repeat (first
      | with_reducible refine wpAny_cRoomFor uu ?_
      | (refine wpAny_bind (m := callSpecialIfBound? (.ref a) (Str.ofString "__eq__") [.ref b]) (PySem.W.ifBound_K KI J h1 h2 (wpAny_mono callEq (fun r s' hr => by
          obtain ⟨z, rfl, hq⟩ := hr
          repeat (first | exact ⟨hq, _, rfl⟩ | exact wpAny_pure ⟨hq, _, rfl⟩ | (refine wpAny_bind (m := truthy (.bool _)) (wpAny_truthy_bool ?_)) | wp_step)) fun _ _ e => e)))
      | wp_step)
  have callNe : wpAny (model X.prog X.w) X.A (call (.builtin "object.__ne__") [.ref a, .ref b]) (fun v s' => EP X pins σ Q v s' ∧ ∃ z, v = .bool z) X.xe s := by
    refine wpAny_call (codeAny_call_builtin slot.plain PySem.F.cmpEntry_ne (PySem.W.check_slot PySem.F.cmpKind_ne PySem.F.cmpSplit_ne sub (PySem.F.cmpArgs_ne _ _) ?_))
    refine wpAny_mono body (fun fin s' z => ?_) fun _ _ x => x
    cases fin with
    | done fl =>
      cases fl with
      | ret v => exact z
      | next => exact z.elim
      | brk => exact z.elim
      | cont => exact z.elim
    | again c => exact z.elim
  show wpAny _ _ (richCompare .NotEq (.ref a) (.ref b)) _ _ _
  unfold richCompare
  simp only [oneThing_ref]
  refine wpAny_holding (wpAny_bind (wpAny_cRoomFor hr.units0 ?_))
  rw [cmpInfo_NotEq]
  dsimp only
  refine wpAny_bind (J.type.here (wpAny_bind (J'.type.here ?_)))
  rw [show (Value.ref C != Value.ref C) = false from by simp]
  simp only [Bool.false_eq_true, if_false]
  refine wpAny_bind (wpAny_pure ?_)
  simp only [Bool.false_eq_true, if_false, tryCompare]
  have fin : wpAny (model X.prog X.w) X.A (call (.builtin "object.__ne__") ([.ref a] ++ [.ref b]) >>= fun v => pure (some v)) (fun r s' => ∃ v, r = some v ∧ EP X pins σ Q v s' ∧ ∃ z, v = .bool z) X.xe s :=
    wpAny_bind (wpAny_mono callNe (fun v s' h' => wpAny_pure ⟨v, rfl, h'⟩) fun _ _ h' => h')
  have bound : wpAny (model X.prog X.w) X.A (callSpecialIfBound? (.ref a) "__ne__" [.ref b]) (fun r s' => ∃ v, r = some v ∧ EP X pins σ Q v s' ∧ ∃ z, v = .bool z) X.xe s := by
    simp only [callSpecialIfBound?, bindSpecialIfBound?]
    refine wpAny_holding (wpAny_bind (wpAny_bind (wpAny_bind (J.type.here ((PySem.W.looks_findIn KI hn).here ?_)))))
    simp only [slot.bind]
    refine wpAny_bind (wpAny_askSetting (wpAny_ite ?_))
    split
    · exact wpAny_bind (wpAny_pure (wpAny_pure fin))
    · exact wpAny_tryCatch (wpAny_bind (wpAny_pure (wpAny_pure fin)))
  refine wpAny_bind (wpAny_bind (wpAny_mono bound (fun r s' z => ?_) fun _ _ h => h))
  obtain ⟨v, rfl, hq, z, rfl⟩ := z
  first | exact wpAny_pure (wpAny_pure hq) | exact wpAny_pure hq
/-- str(x), repr(x) -/
def rStrO (C : Addr) (sp : Sp) : List V → Hp → VK → Prop := fun xs H Q => ∃ a dx fs, xs = [.ref a] ∧ H a = some (.ins C dx fs) ∧ sp [.ref a] H (fun v H' => ∃ z, v = .str z ∧ Q (.str z) H') E0
theorem call_strO (S : Spc X.prog X.w X.K X.mg X.base k C "__str__" sp) (hr : Room (k + 2) X.A) : CallR X (.type "str") (rStrO C sp) := by
  obtain ⟨f, fd, ps, h1, h2, F, hb⟩ := S.ex
  intro pins s σ H xs us Q I r h
  obtain ⟨a, dx, fs, rfl, ea, q⟩ := h
  obtain ⟨u, rfl, ru⟩ := vals1 r
  cases (show u = Value.ref a from ru)
  obtain ⟨mA, O, _⟩ := ins_get I.hok ea
  obtain ⟨od, J, _⟩ := O.look
  refine PySem.W.kso_call hr.in1.in1.units0 I.kIn J h1 h2 ?_
  refine wpAny_mono (run_at (E' := X.xe) (vs := [.ref a]) F hb hr.in1.in1 I I.env0.in1.in1 (.cons rfl .nil) q) (fun w s' z => ?_) fun _ _ x => x
  obtain ⟨z', H', I', rz, z, rfl, qz⟩ := z
  obtain ⟨t, rfl⟩ := rz
  exact ⟨.str z, H', I', ⟨t, rfl⟩, qz⟩
theorem call_reprO (S : Spc X.prog X.w X.K X.mg X.base k C "__repr__" sp) (hr : Room (k + 1) X.A) : CallR X (.builtin "repr") (rStrO C sp) := by
  obtain ⟨f, fd, ps, h1, h2, F, hb⟩ := S.ex
  intro pins s σ H xs us Q I r h
  obtain ⟨a, dx, fs, rfl, ea, q⟩ := h
  obtain ⟨u, rfl, ru⟩ := vals1 r
  cases (show u = Value.ref a from ru)
  obtain ⟨mA, O, _⟩ := ins_get I.hok ea
  obtain ⟨od, J, _⟩ := O.look
  obtain ⟨m, hF⟩ := I.fr
  refine PySem.W.repr_K hr.in1.units0 hF I.ok.mod.kin J h1 h2 ?_
  refine wpAny_mono (run_at (E' := X.xe) (vs := [.ref a]) F hb hr.in1 I I.env0.in1 (.cons rfl .nil) q) (fun w s' z => ?_) fun _ _ x => x
  obtain ⟨z', H', I', rz, z, rfl, qz⟩ := z
  obtain ⟨t, rfl⟩ := rz
  exact ⟨.str z, H', I', ⟨t, rfl⟩, qz⟩
end
end OW
set_option linter.all false
set_option Elab.async false
set_option maxRecDepth 100000
/-! TX: the texts of whole numbers and of fractions, sign by sign. -/
namespace TX
open PySem SX TL NumText
/-- the signs of a whole number -/
def intL (i : Int) : List Nat := if i < 0 then 45 :: numL i.natAbs else numL i.natAbs
theorem tl_int (i : Int) : Str.ofString (toString i) = S (intL i) := by
  by_cases h : i < 0
  · obtain ⟨n, rfl⟩ : ∃ n : Nat, i = -((n + 1 : Nat) : Int) := ⟨i.natAbs - 1, by omega⟩
    have e : toString (-((n + 1 : Nat) : Int)) = "-" ++ toString ((n + 1 : Nat) : Int) := by rfl
    unfold intL
    rw [if_pos h, e]
    have e2 : (-((n + 1 : Nat) : Int)).natAbs = n + 1 := by omega
    rw [e2]
    refine TL.ext_tl ?_
    have e3 : (Str.ofString (toString ((n + 1 : Nat) : Int))).cps.toList = numL (n + 1) := tl_num (n + 1)
    show (Str.ofString ("-" ++ toString ((n + 1 : Nat) : Int))).cps.toList = 45 :: numL (n + 1)
    rw [← e3]
    rw [Str.ofString_eq_toList, Str.ofString_eq_toList, String.toList_append]
    rfl
  · obtain ⟨n, rfl⟩ := Int.eq_ofNat_of_zero_le (by omega : 0 ≤ i)
    unfold intL
    rw [if_neg h]
    exact num_S n
theorem no_minus (n : Nat) : 45 ∉ numL n := numL_free (.inl (by decide))
theorem no_stroke_int (i : Int) : 47 ∉ intL i := by
  unfold intL
  split
  · intro h
    rcases List.mem_cons.mp h with z | z
    · cases z
    · exact numL_free (.inl (by decide)) z
  · exact numL_free (.inl (by decide))
theorem minus_S : (Str.ofString "-") = S [45] := by decide +kernel
theorem stroke_S : (Str.ofString "/") = S [47] := by decide +kernel
theorem one_S : (Str.ofString "1") = S [49] := by decide +kernel
theorem zero_S : (Str.ofString "0") = S [48] := by decide +kernel
theorem empty_S : (Str.ofString "") = S [] := by decide +kernel
theorem rp_cons (l : List Nat) : Txt.removeprefix (S (45 :: l)) (S [45]) = S l := by
  rw [StrLaws.removeprefix_eq, StrLaws.subAt_eq]
  have h1 : (decide (0 + (S [45]).length ≤ (S (45 :: l)).length)) = true := by
    rw [S_len, S_len]
    simp
  rw [h1]
  have h2 : (((S (45 :: l)).cps.toList.drop 0).take (S [45]).length == (S [45]).cps.toList) = true := by
    rw [S_len]
    simp
  rw [h2]
  simp only [Bool.and_self, if_true]
  rw [S_len, S_len]
  simp
theorem rp_other {c : Nat} {l : List Nat} (h : c ≠ 45) : Txt.removeprefix (S (c :: l)) (S [45]) = S (c :: l) := by
  rw [StrLaws.removeprefix_eq, StrLaws.subAt_eq]
  have h2 : (((S (c :: l)).cps.toList.drop 0).take (S [45]).length == (S [45]).cps.toList) = false := by
    rw [S_len]
    simp [h]
  rw [h2, Bool.and_false]
  simp
theorem rp_int (i : Int) : Txt.removeprefix (S (intL i)) (S [45]) = S (numL i.natAbs) := by
  unfold intL
  split
  · exact rp_cons _
  · have hne := numL_ne i.natAbs
    have hno := no_minus i.natAbs
    cases hl : numL i.natAbs with
    | nil => exact absurd hl hne
    | cons c l =>
      rw [hl] at hno
      exact rp_other fun z => hno (by rw [z]; exact List.mem_cons_self ..)
theorem intL_len {i : Int} {k : Nat} (hk : 0 < k) (h : i.natAbs < 10 ^ k) : (intL i).length ≤ k + 1 := by
  have := numL_len hk h
  unfold intL
  split
  · rw [List.length_cons]; omega
  · omega
theorem int_int {i : Int} (h : (intL i).length ≤ 4300) : intText? (S (intL i)) = some i := by
  unfold intL at h ⊢
  split
  · rename_i hi
    have e := intText_neg (x := S (45 :: numL i.natAbs)) (cs := numL i.natAbs) rfl (numL_digits _) (numL_ne _) (by rw [S_len]; rw [if_pos hi] at h; exact h)
    rw [e, numL_val]
    congr 1
    omega
  · rename_i hi
    have e := intText_digits (x := S (numL i.natAbs)) (numL_digits _) (numL_ne _) (by rw [S_len]; rw [if_neg hi] at h; exact h)
    rw [e]
    show some ((digitsVal (numL i.natAbs) : Nat) : Int) = some i
    rw [numL_val]
    congr 1
    omega
/-- the text of a fraction -/
def txL (r : Rat) : List Nat := if r.den = 1 then intL r.num else intL r.num ++ (47 :: numL r.den)
theorem numL_head : ∀ n : Nat, 0 < n → ∃ c l, numL n = c :: l ∧ c ≠ 48 := by
  intro n
  induction n using Nat.strongRecOn with
  | _ n ih =>
    intro hn
    by_cases h : n < 10
    · rw [numL_lt h]
      exact ⟨48 + n, [], rfl, by omega⟩
    · rw [numL_step (by omega)]
      obtain ⟨c, l, e, hc⟩ := ih (n / 10) (by omega) (by omega)
      exact ⟨c, l ++ [48 + n % 10], by rw [e]; rfl, hc⟩
theorem numL_zero : numL 0 = [48] := numL_lt (by decide)
theorem part_one (i : Int) : Txt.partition (S (intL i)) (S [47]) = (S (intL i), S [], S []) := partition_none (by simp) (par_head_none (no_stroke_int i))
theorem part_two (i : Int) (l : List Nat) : Txt.partition (S (intL i ++ (47 :: l))) (S [47]) = (S (intL i), S [47], S l) := partition_some (by simp) (par_head (sep := []) l (no_stroke_int i))
theorem numL_pow {n k : Nat} (h : n < 2 ^ k) (hk : 0 < k) : (numL n).length ≤ k := numL_len hk (Nat.lt_of_lt_of_le h (Nat.pow_le_pow_left (by decide) k))
theorem intL_pow {i : Int} {k : Nat} (h : i.natAbs < 2 ^ k) (hk : 0 < k) : (intL i).length ≤ k + 1 := intL_len hk (Nat.lt_of_lt_of_le h (Nat.pow_le_pow_left (by decide) k))
theorem txL_len {r : Rat} {k : Nat} (h : KM.Sz k r) (hk : 0 < k) : (txL r).length ≤ 2 * k + 2 := by
  have h1 := intL_pow h.1 hk
  have h2 := numL_pow h.2 hk
  unfold txL
  split
  · omega
  · rw [List.length_append, List.length_cons]; omega
end TX
set_option Elab.async false
set_option linter.all false
set_option maxRecDepth 100000
set_option maxHeartbeats 4000000
/-! ts.index(x) of a tuple of texts -/
namespace TI
open PySem PySem.Spec PyProof.Rows L2
def rIxOf (K : PySem.W.Frag) : V → List V → Hp → VK → Prop := fun x xs H Q => ∃ (a : Addr) (ys : List Str) (k : Str), x = .ref a ∧ xs = [.str k] ∧ SqT K H a (ys.map V.str) ∧ k ∈ ys ∧ Q (.int (ys.idxOf k : Nat)) H
theorem mt_tindex {X : Cx} : MtR X "tuple.index" (rIxOf X.K) := by
  intro pins s σ H x xs v us Q I rx rxs h
  obtain ⟨a, ys, k, rfl, rfl, hs, hk, q⟩ := h
  cases rx
  obtain ⟨u, rfl, ru⟩ := rxs.one
  obtain ⟨t, rfl⟩ := ru
  obtain ⟨its, rv, it, hlen⟩ := I.tuple hs
  exact PySem.SeqAt.tuple_index_strs (vs := its) it (Vals.strs rv) hk ⟨.int _, H, I.tok _, ⟨_, rfl⟩, q⟩
/-- len of a list or a tuple, where the reading must be named -/
def rLen (K : PySem.W.Frag) : List V → Hp → VK → Prop := fun xs H Q => ∃ (p : Addr) (ys : List V), xs = [V.ref p] ∧ (SqL K H p ys ∨ SqT K H p ys) ∧ Q (V.int (ys.length : Nat)) H
theorem call_lenK {X : Cx} : CallR X (.builtin "len") (rLen X.K) := call_len_seq
end TI
set_option Elab.async false
set_option linter.all false
set_option maxRecDepth 100000
set_option maxHeartbeats 4000000
namespace K32
open PySem PySem.Spec PyProof.Rows L2
open C8 (Cal Mak Met pe_c pe_mk pe_mt pe_mt0)
open KM (pr Sz)
section
variable {P : Program} {w : World} {K : PySem.W.Frag} {mg : Str → Option Value} {base : Heap} {f C CT : Addr} {fd : FuncData}
theorem log_1920 {i : Int} {n : Nat} (h : i.natAbs < 2 ^ n) (h0 : 0 < n) (h9 : n ≤ 1920) : i.natAbs.log2 < 1920 := Nat.lt_of_lt_of_le (PySem.Flt.log2_lt_of h0 h) h9
def spStr (C : Addr) (g : Rat → Str) : Sp := fun vs H Q _ => ∃ (p : Addr) (r : Rat) (n : Nat), vs = [.ref p] ∧ Sh C H p (pr r) ∧ Sz n r ∧ 0 < n ∧ n ≤ 1900 ∧ Q (.str (g r)) H
theorem S_len_le {l : List Nat} {k : Nat} (h : l.length ≤ k) (hk : k ≤ 100000) : (SX.S l).length ≤ sizeLine := by
  rw [SX.S_len]
  exact Nat.le_trans h (Nat.le_trans hk (by decide))
/-- the text that repr tells -/
def rpS (r : Rat) : Str := Str.empty ++ Str.ofString "Share(" ++ Str.ofString (toString (pr r).1) ++ Str.ofString ", " ++ Str.ofString (toString (pr r).2) ++ Str.ofString ")"
theorem ok_repr (F : Dn K d_Share_repr f fd) (T : Cl K mg C) : FnOk P w K mg base CX0 1 f fd ["self"] (spStr C rpS) := by
  refine F.ok sc_Share_repr (fun vs H Q E h => ?_) (fun cdv A outer s H vs Q E hr h => ?_)
  · obtain ⟨p, r, n, rfl, _⟩ := h
    rfl
  · obtain ⟨p, r, n, rfl, ⟨dp, hp⟩, sr, n0, n9, hQ⟩ := h
    refine ⟨_, PSs.nox (pss_one (ps_ret (pe_joined (.cons pe_str (.cons (pe_fmt (pe_fld (pv 0) rfl)) (.cons pe_str (.cons (pe_fmt (pe_fld (pv 0) rfl)) (.cons pe_str .nil)))))))), ?_⟩
    have l1 : (pr r).1.natAbs.log2 < 1920 := log_1920 (bd_of sr).1 n0 (by omega)
    have l2 : (pr r).2.natAbs.log2 < 1920 := log_1920 (bd_of sr).2.2 n0 (by omega)
    have k1 : (TX.intL r.num).length ≤ n + 1 := TX.intL_pow sr.1 n0
    have k2 := TX.numL_pow sr.2 n0
    have t1 : Str.ofString (toString (pr r).1) = SX.S (TX.intL r.num) := TX.tl_int r.num
    have t2 : Str.ofString (toString (pr r).2) = SX.S (TL.numL r.den) := SX.num_S r.den
    have c1 : Str.empty ++ Str.ofString "Share(" = SX.S [83, 104, 97, 114, 101, 40] := by decide +kernel
    have c2 : Str.ofString ", " = SX.S [44, 32] := by decide +kernel
    have c3 : Str.ofString ")" = SX.S [41] := by decide +kernel
    refine ⟨_, rfl, ?_, _, rfl, p, C, dp, _, _, rfl, hp, T.cl, T.nt, shF_top _, .inr ⟨_, rfl, l1, _, rfl, ?_, _, rfl, ?_, _, rfl, p, C, dp, _, _, rfl, hp, T.cl, T.nb, shF_bot _, .inr ⟨_, rfl, l2, _, rfl, ?_, _, rfl, ?_, hQ⟩⟩⟩
    · show (Str.empty ++ Str.ofString "Share(").length ≤ sizeLine
      rw [c1]
      exact S_len_le (k := 6) (by decide) (by decide)
    · show (Str.empty ++ Str.ofString "Share(" ++ Str.ofString (toString (pr r).1)).length ≤ sizeLine
      rw [c1, t1, SX.S_cat]
      exact S_len_le (k := n + 7) (by rw [List.length_append]; simp; omega) (by omega)
    · show (Str.empty ++ Str.ofString "Share(" ++ Str.ofString (toString (pr r).1) ++ Str.ofString ", ").length ≤ sizeLine
      rw [c1, t1, c2, SX.S_cat, SX.S_cat]
      exact S_len_le (k := n + 9) (by rw [List.length_append, List.length_append]; simp; omega) (by omega)
    · show (Str.empty ++ Str.ofString "Share(" ++ Str.ofString (toString (pr r).1) ++ Str.ofString ", " ++ Str.ofString (toString (pr r).2)).length ≤ sizeLine
      rw [c1, t1, c2, t2, SX.S_cat, SX.S_cat, SX.S_cat]
      exact S_len_le (k := n + 9 + n) (by rw [List.length_append, List.length_append, List.length_append]; simp; omega) (by omega)
    · show (Str.empty ++ Str.ofString "Share(" ++ Str.ofString (toString (pr r).1) ++ Str.ofString ", " ++ Str.ofString (toString (pr r).2) ++ Str.ofString ")").length ≤ sizeLine
      rw [c1, t1, c2, t2, c3, SX.S_cat, SX.S_cat, SX.S_cat, SX.S_cat]
      exact S_len_le (k := n + 10 + n) (by rw [List.length_append, List.length_append, List.length_append, List.length_append]; simp; omega) (by omega)
end
end K32
set_option Elab.async false
set_option linter.all false
set_option maxRecDepth 100000
set_option maxHeartbeats 4000000
/-! KB: what a call by keywords binds, for a def without keyword-only parameters. -/
namespace KW
open PySem PySem.Spec PyProof.Rows L2
section
variable {K : PySem.W.Frag} {x qual : Str} {params : Arguments} {body : List Stmt} {scope : Scope} {dvs : List V} {kws : List (Str × V)} {f : Addr} {fd : FuncData} {ps : List Str}
theorem kb1 (F : FunD K x qual params body scope dvs kws f fd) (n : Nat) (ks : List Str) (g : {α : Type} → List α → List α → List α → List α) (hd : dvs ≠ [])
    (hrel : ∀ {vs ds zs : List V} {us its ws : List Value}, Vals vs us → Vals ds its → Vals zs ws → Vals (g vs ds zs) (g us its ws))
    (h : ∀ (T : Addr) (kV doc pm : Value) (an : Option Addr) (cdv ct : Value) (us its ws : List Value), us.length = n → its.length = dvs.length → ws.length = ks.length →
      ∃ k, bindArgs (PySem.W.fnOf x qual params body scope (.ref T) kV doc pm an cdv ct) ⟨us, ks.zip ws⟩ = seqItems? (.ref T) >>= k ∧ k (some its.toArray) = pure (ps.zip (g us its ws))) :
    ∃ its : List Value, KBn K fd ps n ks (fun us ws => g us its ws) (fun vs zs => g vs dvs zs) := by
  obtain ⟨oc, od, dV, kV, doc, pm, an, cdv, ct, osl, rfl, lk, hcd, hD, hK⟩ := F.ex
  rcases hD with ⟨e, _⟩ | ⟨_, T, o, its, m, rfl, lT, oT, rT⟩
  · exact absurd e hd
  · refine ⟨its, ⟨fun s us ws X l1 l2 => ?_, fun r1 r2 => hrel r1 rT r2⟩⟩
    obtain ⟨k, e1, e2⟩ := h T kV doc pm an cdv ct us its ws l1 rT.length.symm l2
    refine BindsTo.of_looks fun M => ?_
    rw [e1]
    exact looks_items X lT oT (.of_pure e2)
theorem kb0 (F : FunD K x qual params body scope [] kws f fd) (n : Nat) (ks : List Str) (g : {α : Type} → List α → List α → List α)
    (hrel : ∀ {vs zs : List V} {us ws : List Value}, Vals vs us → Vals zs ws → Vals (g vs zs) (g us ws))
    (h : ∀ (kV doc pm : Value) (an : Option Addr) (cdv ct : Value) (us ws : List Value), us.length = n → ws.length = ks.length →
      bindArgs (PySem.W.fnOf x qual params body scope .none kV doc pm an cdv ct) ⟨us, ks.zip ws⟩ = pure (ps.zip (g us ws))) :
    KBn K fd ps n ks (fun us ws => g us ws) (fun vs zs => g vs zs) := by
  obtain ⟨oc, od, dV, kV, doc, pm, an, cdv, ct, osl, rfl, lk, hcd, hD, hK⟩ := F.ex
  rcases hD with ⟨_, rfl⟩ | ⟨e, _⟩
  · exact ⟨fun s us ws X l1 l2 => .of_eq (h kV doc pm an cdv ct us ws l1 l2), fun r1 r2 => hrel r1 r2⟩
  · exact absurd rfl e
end
end KW
set_option Elab.async false
set_option linter.all false
set_option maxRecDepth 100000
set_option maxHeartbeats 4000000
namespace K32
open PySem PySem.Spec PyProof.Rows L2
open C8 (Cal Mak Met pe_c pe_mk pe_mt pe_mt0)
open LamX (Tabs ExtN TabB)
open SX (S)
theorem at3 {a b c : V} {r : Int} (h0 : 0 ≤ r) (h1 : r < 3) : ∃ v, atI [a, b, c] r = some v ∧ (v = a ∨ v = b ∨ v = c) := by
  rcases (show r = 0 ∨ r = 1 ∨ r = 2 by omega) with rfl | rfl | rfl
  · exact ⟨a, rfl, .inl rfl⟩
  · exact ⟨b, rfl, .inr (.inl rfl)⟩
  · exact ⟨c, rfl, .inr (.inr rfl)⟩
section
variable {P : Program} {w : World} {K : PySem.W.Frag} {mg : Str → Option Value} {base : Heap} {f C CT : Addr} {fd : FuncData}
def spRl : Sp := fun vs H Q _ => ∃ (h ot : Addr) (c : Nat) (xs : List Str), vs = [.ref h, .ref ot] ∧ Held H h (c + 4) ∧ H ot = some (.tup (xs.map V.str)) ∧ Ord xs ∧
  ∀ (r : Addr) (wd : Word) (H' : Hp), Held H' h c → Kp h H H' → Rule3 H' r ot xs wd → Q (.ref r) H'
theorem ok_rl (F : Dn K d_l_rule f fd) (cD : CalD P w K mg base) : FnOk P w K mg base CX0 2 f fd ["_law_held_here", "_law_order"] spRl := by
  refine F.ok sc_l_rule (fun vs H Q E h => ?_) (fun cdv A outer s H vs Q E hr h => ?_)
  · obtain ⟨h, ot, c, xs, rfl, _⟩ := h
    rfl
  · obtain ⟨h, ot, c, xs, rfl, held, hot, ox, hQ⟩ := h
    refine ⟨_, PSs.nox (pss_cons (ps_set (i := 2) sc_l_rule.nd rfl (.inl rfl) (pe_ix ix_list (pe_lst (pa_cons pe_int (pa_cons (pe_op op_add pe_int (pe_c cD hr (by decide) rfl (pa_cons (pv 0) (pa_cons pe_int pa_nil)))) (pa_cons (pe_op op_add pe_int (pe_c cD hr (by decide) rfl (pa_cons (pv 0) (pa_cons pe_int pa_nil)))) pa_nil)))) (pe_c cD hr (by decide) rfl (pa_cons (pv 0) (pa_cons pe_int pa_nil))) (fun _ _ => rfl)))
      (pss_one (ps_ret (pe_ix ix_list (pe_lst (pa_cons (pe_tup (pa_cons pe_str (pa_cons (pv 1) (pa_cons (pv 2) pa_nil)))) (pa_cons (pe_tup (pa_cons pe_str (pa_cons (pv 1) pa_nil))) (pa_cons (pe_tup (pa_cons pe_str (pa_cons (pv 1) pa_nil))) pa_nil)))) (pe_c cD hr (by decide) rfl (pa_cons (pv 0) (pa_cons pe_int pa_nil))) (fun _ _ => rfl))))), ?_⟩
    refine ⟨_, rfl, h, c + 3, 12, rfl, held, by decide, by decide, fun p1 H1 p10 p11 held1 k1 => ?_⟩
    refine ⟨_, _, rfl, rfl, _, rfl, h, c + 2, 1000, rfl, held1, by decide, by decide, fun p2 H2 p20 p21 held2 k2 => ?_⟩
    refine ⟨_, _, rfl, rfl, by show 3 ≤ sizeLine; decide, fun u fu => ?_⟩
    have su := same_new (o := .lst [.int 0, .int (1 + p1), .int (1 + p2)]) fu
    refine ⟨_, rfl, h, c + 1, 3, rfl, held2.same su, by decide, by decide, fun r H3 r0 r1 held3 k3 => ?_⟩
    have hu3 : H3 u = some (.lst [.int 0, .int (1 + p1), .int (1 + p2)]) := k3.1 u _ upd_same (held2.ne_new fu)
    obtain ⟨v, hv, hv3⟩ := at3 (a := .int 0) (b := .int (1 + p1)) (c := .int (1 + p2)) r0 r1
    obtain ⟨g, rfl, g0, g1⟩ : ∃ x : Int, v = .int x ∧ 0 ≤ x ∧ x ≤ 1000 := by
      rcases hv3 with rfl | rfl | rfl
      · exact ⟨_, rfl, by decide, by decide⟩
      · exact ⟨_, rfl, by omega, by omega⟩
      · exact ⟨_, rfl, by omega, by omega⟩
    have k03 : Kp h H H3 := ((k1.trans k2).trans (Kp.same su)).trans k3
    refine ⟨u, _, _, _, rfl, rfl, SqL.of hu3, hv, ?_⟩
    refine ⟨_, rfl, _, rfl, by show 3 ≤ sizeLine; decide, fun t1 f1 => ⟨_, rfl, by show 2 ≤ sizeLine; decide, fun t2 f2 => ⟨_, rfl, by show 2 ≤ sizeLine; decide, fun t3 f3 => ⟨by show 3 ≤ sizeLine; decide, fun l fl => ?_⟩⟩⟩⟩
    have s1 := same_new (o := .tup [.str "least", .ref ot, .int g]) f1
    have s2 := same_new (o := .tup [.str "longest", .ref ot]) f2
    have s3 := same_new (o := .tup [.str "rounds", .ref ot]) f3
    have sl := same_new (o := .lst [.ref t1, .ref t2, .ref t3]) fl
    have s4 := ((s1.trans s2).trans s3).trans sl
    refine ⟨_, rfl, h, c, 3, rfl, held3.same s4, by decide, by decide, fun q H4 q0 q1 held4 k4 => ?_⟩
    have up : ∀ {a : Addr} {o : HO}, (upd (upd (upd (upd H3 t1 (.tup [.str "least", .ref ot, .int g])) t2 (.tup [.str "longest", .ref ot])) t3 (.tup [.str "rounds", .ref ot])) l (.lst [.ref t1, .ref t2, .ref t3])) a = some o → a ≠ h → H4 a = some o := fun e n => k4.1 _ _ e n
    have hl4 := up upd_same ((held3.same ((s1.trans s2).trans s3)).ne_new fl)
    have h14 : H4 t1 = some (.tup [.str "least", .ref ot, .int g]) := up (sl _ _ (s3 _ _ (s2 _ _ upd_same))) (held3.ne_new f1)
    have h24 : H4 t2 = some (.tup [.str "longest", .ref ot]) := up (sl _ _ (s3 _ _ upd_same)) ((held3.same s1).ne_new f2)
    have h34 : H4 t3 = some (.tup [.str "rounds", .ref ot]) := up (sl _ _ upd_same) ((held3.same (s1.trans s2)).ne_new f3)
    have k04 : Kp h H H4 := (k03.trans (Kp.same s4)).trans k4
    have hot4 := k04.tupS (K := K) held hot
    obtain ⟨v, hv, hv3⟩ := at3 (a := .ref t1) (b := .ref t2) (c := .ref t3) q0 q1
    refine ⟨l, _, _, _, rfl, rfl, SqL.of hl4, hv, ?_⟩
    rcases hv3 with rfl | rfl | rfl
    · exact hQ t1 (.least g) H4 held4 k04 ⟨h14, hot4, ox, ⟨g0, g1⟩⟩
    · exact hQ t2 .longest H4 held4 k04 ⟨h24, hot4, ox, trivial⟩
    · exact hQ t3 .rounds H4 held4 k04 ⟨h34, hot4, ox, trivial⟩
end
end K32
set_option Elab.async false
set_option linter.all false
set_option maxRecDepth 100000
set_option maxHeartbeats 4000000
namespace K32
open PySem PySem.Spec PyProof.Rows L2
open C8 (Cal Mak Met pe_c pe_mk pe_mt pe_mt0)
open KM (pr)
/-- a memory as it is told -/
def MemR (C : Addr) (H : Hp) (xs : List Str) (wd : Word) (n : Nat) (t : Addr) (md : Mem) : Prop := match wd with
  | .least _ => ∃ (c : Str → Int) (ad : Str → Addr), md = .crd c ∧ H t = some (.tup (xs.map fun x => V.ref (ad x))) ∧ (∀ x ∈ xs, Sh C H (ad x) (pr (rt (c x)))) ∧ ∀ x, (c x).natAbs ≤ 1000 * n
  | _ => KeptOk n wd xs H t md
theorem MemR.same {C t : Addr} {H H' : Hp} {xs : List Str} {wd : Word} {n : Nat} {md : Mem} (h : MemR C H xs wd n t md) (s : Same H H') : MemR C H' xs wd n t md := by
  cases wd with
  | least g =>
    obtain ⟨c, ad, h1, h2, h3, h4⟩ := h
    exact ⟨c, ad, h1, s _ _ h2, fun x hx => (h3 x hx).keep s, h4⟩
  | longest => exact KeptOk.same (n := n) (w := .longest) h s
  | rounds => exact KeptOk.same (n := n) (w := .rounds) h s
section
variable {P : Program} {w : World} {K : PySem.W.Frag} {mg : Str → Option Value} {base : Heap} {f C CT : Addr} {fd : FuncData}
def spMo (C CT : Addr) : Sp := fun vs H Q _ => ∃ (tu r ot hd kp ps : Addr) (xs : List Str) (wd : Word) (n : Nat) (md : Mem), vs = [.ref tu] ∧ Tr CT H tu r hd kp ps ∧ Rule3 H r ot xs wd ∧ KeptOk n wd xs H kp md ∧
  ∀ (t : Addr) (H' : Hp), Same H H' → MemR C H' xs wd n t md → Q (.ref t) H'
theorem ok_mo (F : Dn K d_Turns_memory f fd) (b2 : Bl2 mg) (T : ClT K CT) (gp : ∃ t, mg "RIDE_PARTS" = some (.int 840 t)) (MS : MakS P w K mg base C) : FnOk P w K mg base CX0 4 f fd ["self"] (spMo C CT) := by
  refine F.ok sc_Turns_memory (fun vs H Q E h => ?_) (fun cdv A outer s H vs Q E hr h => ?_)
  · obtain ⟨tu, r, ot, hd, kp, ps, xs, wd, n, md, rfl, _⟩ := h
    rfl
  · obtain ⟨tu, r, ot, hd, kp, ps, xs, wd, n, md, rfl, ⟨dx, htu⟩, lr, kt, hQ⟩ := h
    obtain ⟨t, gp⟩ := gp
    have ox := lr.ox
    have l8 := ox.l8
    cases wd with
    | longest =>
      have hrr : H r = some (.tup [.str "longest", .ref ot]) := lr.hr
      refine ⟨_, PSs.nox (pss_cons (ps_if (pt_cmpR op_eq (pe_ix ix_tup (pe_fld (pv 0) rfl) pe_int (fun _ _ => rfl)) pe_str (nomark _)) pss_never pss_nil) (pss_one (ps_ret (pe_fld (pv 0) rfl)))), ?_⟩
      refine ⟨_, rfl, tu, CT, dx, _, _, rfl, htu, T.cl, T.nr, tr_rule _ _ _ _, r, _, _, _, rfl, rfl, SqT.of hrr, rfl, rfl, _, rfl, ?_⟩
      rw [l_least]
      exact iteF ⟨_, rfl, tu, CT, dx, _, _, rfl, htu, T.cl, T.nk, tr_kept _ _ _ _, hQ kp H (Same.refl _) kt⟩
    | rounds =>
      have hrr : H r = some (.tup [.str "rounds", .ref ot]) := lr.hr
      refine ⟨_, PSs.nox (pss_cons (ps_if (pt_cmpR op_eq (pe_ix ix_tup (pe_fld (pv 0) rfl) pe_int (fun _ _ => rfl)) pe_str (nomark _)) pss_never pss_nil) (pss_one (ps_ret (pe_fld (pv 0) rfl)))), ?_⟩
      refine ⟨_, rfl, tu, CT, dx, _, _, rfl, htu, T.cl, T.nr, tr_rule _ _ _ _, r, _, _, _, rfl, rfl, SqT.of hrr, rfl, rfl, _, rfl, ?_⟩
      rw [r_least]
      exact iteF ⟨_, rfl, tu, CT, dx, _, _, rfl, htu, T.cl, T.nk, tr_kept _ _ _ _, hQ kp H (Same.refl _) kt⟩
    | least g =>
      have hrr : H r = some (.tup [.str "least", .ref ot, .int g]) := lr.hr
      obtain ⟨c, emd, hc, hb⟩ := kt
      refine ⟨_, PSs.nox (pss_cons (ps_if (pt_cmpR op_eq (pe_ix ix_tup (pe_fld (pv 0) rfl) pe_int (fun _ _ => rfl)) pe_str (nomark _)) (pss_one (ps_ret (pe_callTy call_tuple_of rfl b2.tup boot_tuple (pa_cons (pe_lc (own := [("parts", 1)]) (g := gName 1) (tt := tYes) rfl sc_Turns_memory.nd (pi_tup (pe_fld (pv 0) rfl)) (blkOk_by (N := N_Turns_memory) (sc := defScope s_Turns_memory) (by decide +kernel))
          (fun _ _ _ _ _ => pg_name (i := 1) sc_Turns_memory.nd rfl (Or.inl rfl)) (fun _ _ _ _ _ => pts_nil) (fun _ _ _ _ _ => pe_mk MS hr (by decide) rfl (pa_cons (pv 1) (pa_cons (pe_glob (v := .int 840) rfl gp ⟨t, rfl⟩) pa_nil)))) pa_nil)))) pss_nil) pss_never), ?_⟩
      refine ⟨_, rfl, tu, CT, dx, _, _, rfl, htu, T.cl, T.nr, tr_rule _ _ _ _, r, _, _, _, rfl, rfl, SqT.of hrr, rfl, rfl, _, rfl, iteT ?_⟩
      refine ⟨_, rfl, tu, CT, dx, _, _, rfl, htu, T.cl, T.nk, tr_kept _ _ _ _, kp, rfl, ⟨_, SqT.of hc⟩, fun D hD => lc_tup (fun i H2 => ∃ ad : Str → Addr, H2 D = some (.lst ((xs.take i).map fun x => V.ref (ad x))) ∧ Same H H2 ∧ ∀ x ∈ xs.take i, Sh C H2 (ad x) (pr (rt (c x))))
        ⟨fun _ => 0, upd_same, same_new hD, fun x hx => by simp at hx⟩ (fun _ H2 _ ⟨_, _, sm, _⟩ => SqT.of (sm _ _ hc)) ?_ ?_⟩
      · rintro i x H2 hx ⟨ad, hdd, sm, hval⟩
        have hi' : i < xs.length := by
          have := (List.getElem?_eq_some_iff.mp hx).1
          simpa using this
        rw [List.getElem?_map] at hx
        obtain ⟨z, hz, rfl⟩ := Option.map_eq_some_iff.mp hx
        have nz := nin_take ox.nd hz
        have et : xs.take (i + 1) = xs.take i ++ [z] := by rw [List.take_succ, hz]; rfl
        refine ⟨rfl, ?_⟩
        refine ⟨_, rfl, ?_⟩
        intro q dq nq nd ne
        refine mk_in (n := 10) nq nd (by decide) (by decide) (by decide) (by decide) fun H3 s3 hq => ⟨rfl, ?_⟩
        have hD3 := s3 _ _ hdd
        have keep : ∀ {p : Addr} {v : Int × Int} {o : HO}, Sh C H3 p v → Sh C (upd H3 D o) p v := fun {p v o} ⟨dp, hp⟩ => ⟨dp, by
          rw [upd_ne (fun e => by rw [e, hD3] at hp; cases hp)]
          exact hp⟩
        refine ⟨_, hD3, ?_, fun x => if x = z then q else ad x, ?_, ?_, ?_⟩
        · rw [List.length_map, List.length_take]
          exact Nat.lt_of_lt_of_le (by omega : min i xs.length < 64) (by decide)
        · rw [upd_same, et, List.map_append]
          have e1 : (xs.take i).map (fun x => V.ref (ad x)) = (xs.take i).map fun x => V.ref (if x = z then q else ad x) := List.map_congr_left fun x hx => by rw [if_neg (show x ≠ z from fun e => nz (e ▸ hx))]
          rw [e1]
          simp
        · intro a o e
          rw [upd_ne (ne_of_none e hD)]
          exact s3 a o (sm a o e)
        · intro x hx
          rw [et] at hx
          rcases List.mem_append.mp hx with hx | hx
          · show Sh C _ (if x = z then q else ad x) _
            rw [if_neg (show x ≠ z from fun e => nz (e ▸ hx))]
            exact keep ((hval x hx).keep s3)
          · rw [List.mem_singleton] at hx
            show Sh C _ (if x = z then q else ad x) _
            rw [hx, if_pos rfl]
            exact keep hq
      · rintro H2 ⟨ad, hdd, sm, hval⟩
        rw [List.length_map, List.take_length] at hdd hval
        exact ⟨D, _, rfl, .inl ⟨SqL.of hdd, fun l fl => hQ l _ (sm.trans (same_new fl)) ⟨c, ad, emd, upd_same, fun x hx => (hval x hx).keep (same_new fl), hb⟩⟩⟩
end
end K32
set_option Elab.async false
set_option linter.all false
set_option maxRecDepth 100000
set_option maxHeartbeats 4000000
namespace K32
open PySem PySem.Spec PyProof.Rows L2
open C8 (Cal Mak Met pe_c pe_mk pe_mt pe_mt0)
open KM (pr Sz)
section
variable {P : Program} {w : World} {K : PySem.W.Frag} {mg : Str → Option Value} {base : Heap} {f C CR : Addr} {fd : FuncData}
def spSEq (C : Addr) : Sp := fun vs H Q _ => ∃ (p q : Addr) (r s : Rat), vs = [.ref p, .ref q] ∧ Sh C H p (pr r) ∧ Sh C H q (pr s) ∧ Q (.bl (decide (r = s))) H
theorem ok_eq (F : Dn K d_Share_eq f fd) (b : Bl mg) (T : Cl K mg C) (S : IsC K C) : FnOk P w K mg base CX0 1 f fd ["self", "other"] (spSEq C) := by
  refine F.ok sc_Share_eq (fun vs H Q E h => ?_) (fun cdv A outer s H vs Q E hr h => ?_)
  · obtain ⟨p, q, r, s, rfl, _⟩ := h
    rfl
  · obtain ⟨p, q, r, t, rfl, ⟨dp, hp⟩, ⟨dq, hq⟩, hQ⟩ := h
    refine ⟨_, PSs.nox (pss_one (ps_ret (pe_and (pe_callB call_isi rfl b.isi boot_isinstance (pa_cons (pv 1) (pa_cons (pe_glob (v := .ref C) rfl T.g rfl) pa_nil)))
      (pe_and (pe_cmpR op_eq (pe_fld (pv 0) rfl) (pe_fld (pv 1) rfl) (nomark _)) (pe_one (pe_cmpR op_eq (pe_fld (pv 0) rfl) (pe_fld (pv 1) rfl) (nomark _))))))), ?_⟩
    refine ⟨_, rfl, _, _, _, _, true, rfl, ClsV.own C, TyX.base (TyOf.ins hq T.cl S.ha S.hn S.htk S.hm), S.kit, true, rfl, iteT ?_⟩
    refine ⟨_, rfl, p, C, dp, _, _, rfl, hp, T.cl, T.nt, shF_top _, _, rfl, q, C, dq, _, _, rfl, hq, T.cl, T.nt, shF_top _, rfl, _, rfl, ?_⟩
    refine ite2 (fun h1 => ?_) (fun h1 => ?_)
    · have e1 : (pr r).1 = (pr t).1 := V.int.inj (of_decide_eq_true h1)
      refine ⟨_, rfl, p, C, dp, _, _, rfl, hp, T.cl, T.nb, shF_bot _, _, rfl, q, C, dq, _, _, rfl, hq, T.cl, T.nb, shF_bot _, rfl, ?_⟩
      have e : decide (V.int (pr r).2 = V.int (pr t).2) = decide (r = t) := by
        refine decide_eq_decide.mpr ⟨fun z => KM.pr_inj (Prod.ext e1 (V.int.inj z)), fun z => by rw [z]⟩
      rw [e]
      exact hQ
    · have e : decide (r = t) = false := decide_eq_false fun z => h1 (by rw [z]; simp)
      rw [e] at hQ
      exact hQ
def sumR (rs : List Rat) : Rat := rs.foldl (· + ·) 0
theorem fold_from (a : Rat) : ∀ rs : List Rat, rs.foldl (· + ·) a = a + sumR rs
  | [] => by show a = a + 0; rw [Rat.add_zero]
  | r :: rs => by
    show rs.foldl (· + ·) (a + r) = a + rs.foldl (· + ·) (0 + r)
    rw [fold_from (a + r) rs, fold_from (0 + r) rs, Rat.zero_add, Rat.add_assoc]
theorem sumR_app (xs ys : List Rat) : sumR (xs ++ ys) = sumR xs + sumR ys := by
  unfold sumR
  rw [List.foldl_append]
  exact fold_from _ ys
theorem sumR_cons (r : Rat) (rs : List Rat) : sumR (r :: rs) = r + sumR rs := by
  have := sumR_app [r] rs
  rw [List.singleton_append] at this
  rw [this]
  show (0 + r) + _ = _
  rw [Rat.zero_add]
theorem sz_sum {k : Nat} : ∀ {rs : List Rat}, (∀ r ∈ rs, Sz k r) → Sz (1 + (k + 1) * rs.length) (sumR rs) := by
  intro rs
  induction rs with
  | nil =>
    intro _
    refine ⟨Nat.two_pow_pos _, ?_⟩
    show 1 < 2 ^ (1 + (k + 1) * 0)
    simp
  | cons r rs ih =>
    intro h
    rw [sumR_cons]
    have h1 := h r (List.mem_cons_self ..)
    have h2 := ih fun x hx => h x (List.mem_cons_of_mem _ hx)
    refine (KM.sz_plus h1 h2).1.mono ?_
    rw [List.length_cons, Nat.mul_add]
    omega
def ShL (K : PySem.W.Frag) (C : Addr) (H : Hp) (l : Addr) (L : List (Addr × Rat)) : Prop := SqL K H l (L.map fun x => V.ref x.1) ∧ ∀ x ∈ L, Sh C H x.1 (pr x.2)
theorem ShL.keep {H H' : Hp} {l : Addr} {L : List (Addr × Rat)} (s : Same H H') (h : ShL K C H l L) : ShL K C H' l L := ⟨s.seq h.1, fun x hx => (h.2 x hx).keep s⟩
def ratsOf (L : List (Addr × Rat)) : List Rat := L.map (·.2)
def spTotal (K : PySem.W.Frag) (C : Addr) : Sp := fun vs H Q _ => ∃ (l : Addr) (L : List (Addr × Rat)), vs = [.ref l, .int 0] ∧ ShL K C H l L ∧ (∀ x ∈ L, Sz 270 x.2) ∧ L.length ≤ 12 ∧
  ∀ t H', Same H H' → H t = none → Sh C H' t (pr (sumR (ratsOf L))) → Q (.ref t) H'
end
end K32
set_option Elab.async false
set_option linter.all false
set_option maxRecDepth 100000
set_option maxHeartbeats 4000000
namespace K32
open PySem PySem.Spec PyProof.Rows L2
open KM (pr)
theorem rt_add {c t : Int} {k m : Int} (hk : k ≠ 0) (h : (c * k + t * 840) * 840 = m * (840 * k)) : rt c + Rat.divInt t k = rt m := by
  unfold rt
  rw [Rat.divInt_add_divInt _ _ (by decide) hk, Rat.divInt_eq_divInt_iff (Int.mul_ne_zero (by decide) hk) (by decide)]
  exact h
theorem one_k {k : Int} (h1 : 1 ≤ k) (h8 : k ≤ 8) : ((-1 : Int), k) = pr (Rat.divInt (-1) k) := by
  rw [← KM.low_eq (by omega)]
  rcases (show k = 1 ∨ k = 2 ∨ k = 3 ∨ k = 4 ∨ k = 5 ∨ k = 6 ∨ k = 7 ∨ k = 8 by omega) with rfl | rfl | rfl | rfl | rfl | rfl | rfl | rfl <;> decide +kernel
theorem low_less (c : Int) {k : Int} (h1 : 1 ≤ k) (h8 : k ≤ 8) : KM.low ((pr (rt c)).1 * k + (-1) * (pr (rt c)).2) ((pr (rt c)).2 * k) = pr (rt (c - (840 : Int).fdiv k)) := by
  have e := KM.pr_plus (rt c) (Rat.divInt (-1) k)
  rw [← one_k h1 h8] at e
  have e2 : (c * k + (-1) * 840) * 840 = (c - (840 : Int).fdiv k) * (840 * k) := by
    rcases (show k = 1 ∨ k = 2 ∨ k = 3 ∨ k = 4 ∨ k = 5 ∨ k = 6 ∨ k = 7 ∨ k = 8 by omega) with rfl | rfl | rfl | rfl | rfl | rfl | rfl | rfl <;> simp [Int.fdiv] <;> omega
  rw [rt_add (by omega) e2] at e
  exact e
theorem low_plus (c : Int) : KM.low ((pr (rt c)).1 * 1 + 1 * (pr (rt c)).2) ((pr (rt c)).2 * 1) = pr (rt (c + 840)) := by
  have e := KM.pr_plus (rt c) (Rat.divInt 1 1)
  have e1 : pr (Rat.divInt 1 1) = (1, 1) := by decide +kernel
  rw [e1, rt_add (m := c + 840) (by decide) (by omega)] at e
  exact e
theorem sz_rt {c : Int} {n : Nat} (h : c.natAbs < 2 ^ n) (hn : 10 ≤ n) : KM.Sz n (rt c) := KM.sz_of_low (by decide) h (Nat.lt_of_lt_of_le (by decide : (840 : Int).natAbs < 2 ^ 10) (Nat.pow_le_pow_right (by decide) hn))
/-- what the days cost a name -/
def fare (x : Str) (R : List Str) : Int := if x ∈ R then (840 : Int).fdiv (R.length : Int) else 0
/-- a name's credit by the days and who drove -/
def cf (days : List (List Str)) (drs : List Str) (x : Str) : Int := 840 * (drs.count x : Int) - (days.map (fare x)).sum
theorem cf_nil : cf [] [] = fun _ => 0 := by
  funext x
  simp [cf]
theorem cf_next (days : List (List Str)) (drs R : List Str) (y : Str) : nxt R y (cf days drs) = cf (days ++ [R]) (drs ++ [y]) := by
  funext x
  unfold nxt cf fare
  rw [List.count_append, List.map_append, List.sum_append]
  by_cases e : x = y
  · subst e
    simp
    omega
  · have e2 : List.count x [y] = 0 := List.count_eq_zero.mpr (by simpa using e)
    rw [if_neg e, e2]
    simp
    omega
theorem cf_take (days : List (List Str)) (drs : List Str) (x : Str) (i : Nat) (R : List Str) (h : days[i]? = some R) : cf (days.take (i + 1)) drs x = cf (days.take i) drs x - fare x R := by
  unfold cf
  rw [List.take_succ, h]
  simp
  omega
theorem sum_add (f g : Str → Int) : ∀ xs : List Str, (xs.map fun x => f x + g x).sum = (xs.map f).sum + (xs.map g).sum
  | [] => rfl
  | x :: xs => by
    have := sum_add f g xs
    simp only [List.map_cons, List.sum_cons, this]
    omega
theorem sum_mul (k : Int) (f : Str → Int) : ∀ xs : List Str, (xs.map fun x => k * f x).sum = k * (xs.map f).sum
  | [] => by simp
  | x :: xs => by
    have := sum_mul k f xs
    simp only [List.map_cons, List.sum_cons, this, Int.mul_add]
theorem sum_zero : ∀ xs : List Str, (xs.map fun _ => (0 : Int)).sum = 0
  | [] => rfl
  | x :: xs => by
    have := sum_zero xs
    simp only [List.map_cons, List.sum_cons, this]
    omega
theorem sum_congr {f g : Str → Int} {xs : List Str} (h : ∀ x ∈ xs, f x = g x) : (xs.map f).sum = (xs.map g).sum := by rw [List.map_congr_left h]
theorem sum_one {y : Str} : ∀ {xs : List Str}, xs.Nodup → y ∈ xs → (xs.map fun x => if x = y then (1 : Int) else 0).sum = 1
  | [], _, h => nomatch h
  | x :: xs, nd, h => by
    have n := List.nodup_cons.mp nd
    simp only [List.map_cons, List.sum_cons]
    by_cases e : x = y
    · subst e
      have : (xs.map fun z => if z = x then (1 : Int) else 0).sum = (xs.map fun _ => (0 : Int)).sum := sum_congr fun z hz => if_neg fun (q : z = x) => n.1 (by rw [← q]; exact hz)
      rw [this, sum_zero, if_pos rfl]
      rfl
    · have hy : y ∈ xs := by
        rcases List.mem_cons.mp h with q | q
        · exact absurd q.symm e
        · exact q
      rw [if_neg e, sum_one n.2 hy]
      rfl
theorem sum_in {xs : List Str} (nd : xs.Nodup) (k : Int) : ∀ {R : List Str}, R.Nodup → (∀ y ∈ R, y ∈ xs) → (xs.map fun x => if x ∈ R then k else 0).sum = k * (R.length : Int)
  | [], _, _ => by
    have : (xs.map fun x => if x ∈ ([] : List Str) then k else 0).sum = (xs.map fun _ => (0 : Int)).sum := sum_congr fun x _ => if_neg (by simp)
    rw [this, sum_zero]
    simp
  | y :: R, ndR, sub => by
    have n := List.nodup_cons.mp ndR
    have : (xs.map fun x => if x ∈ y :: R then k else 0).sum = (xs.map fun x => k * (if x = y then (1 : Int) else 0) + (if x ∈ R then k else 0)).sum := sum_congr fun x _ => by
      by_cases e : x = y
      · subst e
        rw [if_pos List.mem_cons_self, if_pos rfl, if_neg n.1]
        omega
      · rw [if_neg e]
        by_cases e2 : x ∈ R
        · rw [if_pos (List.mem_cons_of_mem _ e2), if_pos e2]
          omega
        · rw [if_neg (fun q => (List.mem_cons.mp q).elim e e2), if_neg e2]
          omega
    rw [this, sum_add, sum_mul, sum_one nd (sub y List.mem_cons_self), sum_in nd k n.2 fun z hz => sub z (List.mem_cons_of_mem _ hz), List.length_cons]
    push_cast
    rw [Int.mul_add]
    omega
theorem sum_cnt {xs : List Str} (nd : xs.Nodup) : ∀ {drs : List Str}, (∀ y ∈ drs, y ∈ xs) → (xs.map fun x => (drs.count x : Int)).sum = (drs.length : Int)
  | [], _ => by
    have : (xs.map fun x => (([] : List Str).count x : Int)).sum = (xs.map fun _ => (0 : Int)).sum := sum_congr fun x _ => by simp
    rw [this, sum_zero]
    rfl
  | y :: drs, sub => by
    have : (xs.map fun x => ((y :: drs).count x : Int)).sum = (xs.map fun x => (if x = y then (1 : Int) else 0) + (drs.count x : Int)).sum := sum_congr fun x _ => by
      rw [List.count_cons]
      by_cases e : x = y
      · subst e
        simp
        omega
      · have : (y == x) = false := by simp; exact fun q => e q.symm
        rw [if_neg e, this]
        simp
    rw [this, sum_add, sum_one nd (sub y List.mem_cons_self), sum_cnt nd fun z hz => sub z (List.mem_cons_of_mem _ hz), List.length_cons]
    push_cast
    omega
theorem fd_all {k : Nat} (h1 : 1 ≤ k) (h8 : k ≤ 8) : (840 : Int).fdiv (k : Int) * (k : Int) = 840 := by
  rcases (show k = 1 ∨ k = 2 ∨ k = 3 ∨ k = 4 ∨ k = 5 ∨ k = 6 ∨ k = 7 ∨ k = 8 by omega) with rfl | rfl | rfl | rfl | rfl | rfl | rfl | rfl <;> decide
theorem sum_fares {xs : List Str} (ox : Ord xs) : ∀ {days : List (List Str)}, (∀ R ∈ days, DayOk xs R) → (xs.map fun x => (days.map (fare x)).sum).sum = 840 * (days.length : Int)
  | [], _ => by
    have := sum_zero xs
    simpa using this
  | R :: days, h => by
    have dy := h R List.mem_cons_self
    have rpos : 0 < R.length := List.length_pos_iff.mpr dy.ne
    have rl := dy.ln
    have l8 := ox.l8
    have e : (xs.map fun x => ((R :: days).map (fare x)).sum).sum = (xs.map fun x => fare x R + (days.map (fare x)).sum).sum := sum_congr fun x _ => by simp
    have e2 : (xs.map fun x => fare x R).sum = (840 : Int).fdiv (R.length : Int) * (R.length : Int) := sum_in ox.nd _ dy.nd dy.sub
    rw [e, sum_add, e2, fd_all (by omega) (by omega), sum_fares ox fun z hz => h z (List.mem_cons_of_mem _ hz), List.length_cons]
    push_cast
    omega
theorem cf_sum {xs : List Str} (ox : Ord xs) {days : List (List Str)} {drs : List Str} (hd : ∀ R ∈ days, DayOk xs R) (hs : ∀ y ∈ drs, y ∈ xs) (hl : days.length = drs.length) : (xs.map (cf days drs)).sum = 0 := by
  have e : (xs.map (cf days drs)).sum = (xs.map fun x => 840 * (drs.count x : Int) + (-1) * (days.map (fare x)).sum).sum := sum_congr fun x _ => by
    unfold cf
    omega
  rw [e, sum_add, sum_mul, sum_cnt ox.nd hs, sum_mul, sum_fares ox hd, hl]
  omega
theorem fare_small {xs R : List Str} (dy : DayOk xs R) (h8 : xs.length ≤ 8) (x : Str) : 0 ≤ fare x R ∧ fare x R ≤ 840 := by
  have rpos : 0 < R.length := List.length_pos_iff.mpr dy.ne
  have rl := dy.ln
  unfold fare
  split
  · rcases (show R.length = 1 ∨ R.length = 2 ∨ R.length = 3 ∨ R.length = 4 ∨ R.length = 5 ∨ R.length = 6 ∨ R.length = 7 ∨ R.length = 8 by omega) with e | e | e | e | e | e | e | e <;> rw [e] <;> decide
  · omega
theorem cf_small {xs : List Str} (h8 : xs.length ≤ 8) : ∀ {days : List (List Str)} {drs : List Str}, (∀ R ∈ days, DayOk xs R) → ∀ x, (cf days drs x).natAbs ≤ 840 * (days.length + drs.length) := by
  intro days drs h x
  have e : ∀ {days : List (List Str)}, (∀ R ∈ days, DayOk xs R) → 0 ≤ (days.map (fare x)).sum ∧ (days.map (fare x)).sum ≤ 840 * (days.length : Int) := by
    intro days
    induction days with
    | nil => intro _; simp
    | cons R days ih =>
      intro h
      have := ih fun z hz => h z (List.mem_cons_of_mem _ hz)
      have := fare_small (h R List.mem_cons_self) h8 x
      simp only [List.map_cons, List.sum_cons, List.length_cons]
      push_cast
      omega
  have := e h
  have := List.count_le_length (a := x) (l := drs)
  unfold cf
  omega
theorem rt_sum (c : Str → Int) : ∀ xs : List Str, sumR (xs.map fun x => rt (c x)) = rt ((xs.map c).sum)
  | [] => by
    show (0 : Rat) = Rat.divInt 0 840
    rw [Rat.zero_divInt]
  | x :: xs => by
    rw [List.map_cons, sumR_cons, rt_sum c xs, List.map_cons, List.sum_cons]
    unfold rt
    rw [Rat.divInt_add_divInt _ _ (by decide) (by decide)]
    exact (Rat.divInt_eq_divInt_iff (by decide) (by decide)).mpr (by rw [← Int.add_mul]; rw [Int.mul_assoc])
end K32
set_option Elab.async false
set_option linter.all false
set_option maxRecDepth 100000
set_option maxHeartbeats 4000000
/-! GL: promises of defs that are asked only where no repr is under way (A.guards = some []); what such a def may do more: repr of lists and tuples. -/
namespace GL
open PySem PySem.Spec PyProof.Rows L2
/-- a def's promise, where no repr is under way -/
structure FnG (P : Program) (w : World) (K : PySem.W.Frag) (mg : Str → Option Value) (base : Heap) (k : Nat) (f : Addr) (fd : FuncData) (ps : List Str) (sp : Sp) : Prop where
  len : ∀ vs H Q E, sp vs H Q E → vs.length = ps.length
  run : ∀ (A : Around) (outer : List Env) (s : Shared) (H : Hp) (args : Args) (us : List Value) (vs : List V) (Q : VK) (E : XK), A.guards = some [] → Room k A → Env0 P w K mg base A outer s H → BindsTo s fd args (ps.zip us) → Vals vs us → sp vs H Q E →
    codeAny (model P w) A (.call (.ref f) args) (CR CX0 outer P w H s Q E) s
section
variable {P : Program} {w : World} {K : PySem.W.Frag} {mg : Str → Option Value} {base : Heap} {k : Nat} {f : Addr} {fd : FuncData} {ps : List Str} {sp : Sp}
theorem FnG.of (F : FnOk P w K mg base CX0 k f fd ps sp) : FnG P w K mg base k f fd ps sp := ⟨F.len, fun A outer s H args us vs Q E _ => F.run A outer s H args us vs Q E⟩
/-- by its body -/
theorem okG {x qual : Str} {params : Arguments} {body : List Stmt} {scope : Scope} {dvs : List V} {kws : List (Str × V)} {N : List Str} (F : FunD K x qual params body scope dvs kws f fd) (S : FnScope N ps scope) (len : ∀ vs H Q E, sp vs H Q E → vs.length = ps.length)
    (hbody : ∀ (cdv : Value) (A : Around) (outer : List Env) (s : Shared) (H : Hp) (vs : List V) (Q : VK) (E : XK), A.guards = some [] → Room k (A.deeper (envOfC qual scope s.heap.objs.size f cdv)) → sp vs H Q E →
      ∃ t, PSs (cxOf CX0 P w K mg base N qual scope f cdv A outer s H E) body t ∧ t { nx := fun _ H' => Q .non H', rt := Q } (start N vs) H) : FnG P w K mg base (k + 1) f fd ps sp := by
  refine ⟨len, fun A outer s H args us vs Q E hg hr e0 hb r hsp => ?_⟩
  obtain ⟨oc, od, dV, kV, doc, pm, an, cdv, ct, osl, hfd, lk, hcd, _, _⟩ := F.ex
  subst hfd
  obtain ⟨t, ht, hq⟩ := hbody cdv A outer s H vs Q E hg (hr.deeper _) hsp
  have keep : ∀ b o, base.get? b = some o → s.heap.get? b = some o := fun b o e => (e0.bs b o e).1
  have KX : K.In s.heap := e0.mod.kin.keeps keep
  refine codeAny_call_function hr.depth (KX _ _ lk) rfl S.co S.gen rfl (PySem.W.codeRec_of KX hcd) (hb _ _ _ _ (wpAny_newFunctionEnv_cells S.kind (fun y hy => ?_) fun env he s1 x => ?_))
  · exact (S.par y.1 (List.of_mem_zip hy).1).imp id fun q => ⟨q, PySem.W.cellsFrom_some _ _ _ (.inl q)⟩
  · subst he
    refine ⟨(e0.mod.nolimit.keeps keep).keeps x.toInCall.keep, codeAny_func (wpAny_mono (ht.run [] s1 (start N vs) H _ (inv_start S hr.hd e0 (len _ _ _ _ hsp) r x) hq) (fun fl s' hs => ?_) fun e s' hs => hs)⟩
    match fl, hs with
    | .ret u, ⟨v, σ', H', J, rv, q⟩ => exact ⟨v, H', J.os, J.bare, J.base, J.hok, rv, q⟩
    | .next, ⟨σ', H', J, q⟩ => exact ⟨.non, H', J.os, J.bare, J.base, J.hok, rfl, q⟩
    | .brk, ⟨_, _, _, q⟩ => exact q.elim
    | .cont, ⟨_, _, _, q⟩ => exact q.elim
end
/-- the package of a def of this kind -/
structure CalG (P : Program) (w : World) (K : PySem.W.Frag) (mg : Str → Option Value) (base : Heap) (k : Nat) (x : Str) (sp : Sp) (dvs : List V) : Prop where
  ex : ∃ (f : Addr) (fd : FuncData) (ps : List Str) (ds : List Value), FnG P w K mg base k f fd ps sp ∧ mg x = some (.ref f) ∧ PySem.W.keepIn K (.ref f) = true ∧ Binds K fd ps ds ∧ Vals dvs ds
section
variable {X : Cx} {k j : Nat} {x : Str} {sp : Sp} {dvs : List V} {e : Expr} {es : List Expr} {t : TA} {p pos : Pos}
theorem pe_cG (c : CalG X.prog X.w X.K X.mg X.base k x sp dvs) (hgd : X.A.guards = some []) (hr : Room j X.A) (hk : k ≤ j) (hg : Gl X x) (ha : PA X (e :: es) t)
    (hdb : (x == ("__debug__" : Str)) = false := by decide) (he : starEach (e :: es) X.env = (false, eval e X.env) :: starEach es X.env := by rfl) (hpl : (backTo pos (starEach es X.env)).any (·.1) = false := by rfl) :
    PE X (.Call (.Name x p) (e :: es) [] pos) (tCall sp dvs E0 t) := by
  obtain ⟨f, fd, ps, ds, F, hm, kp, b, d⟩ := c.ex
  refine ⟨fun pins s σ H Q I h => wpAny_Call_Name_kw (ld_glob I hg hm (PySem.W.callWith_K (h₀ := X.base) I.ok.mod.kin kp (thn (ha.run pos pins s σ H _ I h) fun us s1 ⟨vs, H1, I1, r, q⟩ => ⟨I1.kIn, ?_⟩) he hpl) hdb)⟩
  have r2 := r.append d
  refine wpAny_call (codeAny_mono (F.run X.A X.stack s1 H1 ⟨us, []⟩ (us ++ ds) (vs ++ dvs) Q E0 hgd (hr.mono hk) I1.env0 (b s1 us I1.kIn (r2.length.symm.trans (F.len _ _ _ _ q))) r2 q) fun r s' hq => ?_)
  match r, hq with
  | .error _, hq => exact hq.elim
  | .ok (.ret u), hq => exact I1.after hq
  | .ok .next, hq => exact hq.elim
  | .ok .brk, hq => exact hq.elim
  | .ok .cont, hq => exact hq.elim
/-- repr of what is flat, of lists and tuples -/
def rRepr (K : PySem.W.Frag) : List V → Hp → VK → Prop := fun xs H Q => ∃ (y : V) (d : PyData), xs = [y] ∧ Dp K H y d ∧ d.showable = true ∧ d.hasDict = false ∧ d.depth ≤ 60 ∧ d.shown.length ≤ sizeLine ∧ Q (.str d.shown) H
theorem call_reprD (hgd : X.A.guards = some []) (hu : X.A.units + 64 < cLine) : CallR X (.builtin "repr") (rRepr X.K) := by
  intro pins s σ H xs us Q I r h
  obtain ⟨y, d, rfl, hd, hs, hn, hdp, hsz, q⟩ := h
  obtain ⟨u, rfl, ru⟩ := r.one
  obtain ⟨as, rd⟩ := Dp.reads I d y u hd ru
  have fin : ∀ h' tk t, (∀ b o, s.heap.get? b = some o → h'.get? b = some o) → EP X pins σ Q (.str d.shown t) { s with heap := h', toks := tk } := fun h' tk t hk => ⟨.str d.shown, H, I.kept hk, ⟨t, rfl⟩, q⟩
  cases hd with
  | non => cases ru; exact PySem.P.repr_of_none (fin s.heap _ _ fun _ _ e => e)
  | bl b => cases ru; exact PySem.P.repr_of_bool (fin s.heap _ _ fun _ _ e => e)
  | int i =>
    obtain ⟨t, rfl⟩ := ru
    exact PySem.P.repr_of_int (of_decide_eq_true hs) (fin s.heap _ _ fun _ _ e => e)
  | str z =>
    obtain ⟨t, rfl⟩ := ru
    exact PySem.P.repr_of_str (fin s.heap _ _ fun _ _ e => e) hsz
  | lst _ _ =>
    cases ru
    exact repr_of_reads' rd hs (fun z => absurd z (by rw [hn]; decide)) hgd (by omega) (fun _ _ e => e) (fun h' u tk hk => fin h' tk u hk) hsz
  | tup _ _ =>
    cases ru
    exact repr_of_reads' rd hs (fun z => absurd z (by rw [hn]; decide)) hgd (by omega) (fun _ _ e => e) (fun h' u tk hk => fin h' tk u hk) hsz
end
end GL
set_option Elab.async false
set_option linter.all false
set_option maxRecDepth 100000
set_option maxHeartbeats 4000000
/-! RPO: repr of lists, tuples and dicts that hold own instances, of any depth. -/
namespace RPO
open PySem PySem.Spec PyProof.Rows L2
open Builtin Builtin.List
/-- the guards stand on these alone -/
def Gd (g : List Code) (outs : List Addr) : Prop := ∀ id v rest kw, Code.builtin id ⟨v :: rest, kw⟩ ∈ g → ∃ a ∈ outs, v = .ref a
theorem Gd.nil : Gd [] [] := fun _ _ _ _ h => nomatch h
theorem Gd.cons {g : List Code} {outs : List Addr} {id : String} {a : Addr} {rest : List Value} {kw : List (Str × Value)} (h : Gd g outs) : Gd (.builtin id ⟨.ref a :: rest, kw⟩ :: g) (a :: outs) := by
  intro id' v rest' kw' hm
  rcases List.mem_cons.mp hm with e | hm
  · cases e
    exact ⟨a, List.mem_cons_self, rfl⟩
  · obtain ⟨b, hb, e⟩ := h _ _ _ _ hm
    exact ⟨b, List.mem_cons_of_mem _ hb, e⟩
theorem Gd.clear {g : List Code} {outs : List Addr} {a : Addr} (h : Gd g outs) (n : a ∉ outs) : Clear g a := fun id v rest kw hm e => by
  obtain ⟨b, hb, e2⟩ := h id v rest kw hm
  rw [e] at e2
  cases e2
  exact n hb
/-- all but these are as they were -/
def Ex (outs : List Addr) (H H' : Hp) : Prop := ∀ a o, H a = some o → a ∉ outs → H' a = some o
theorem Ex.refl (outs : List Addr) (H : Hp) : Ex outs H H := fun _ _ h _ => h
theorem Ex.ext {outs : List Addr} {H H1 H2 : Hp} (x : Ex outs H H1) (e : Ext H1 H2) : Ex outs H H2 := fun a o h n => e a o (x a o h n)
theorem Ex.more {outs : List Addr} {H H1 : Hp} {a : Addr} (x : Ex outs H H1) : Ex (a :: outs) H H1 := fun b o h n => x b o h fun z => n (List.mem_cons_of_mem _ z)
section
variable {X : Cx}
/-- what a thing shows as, within containers at outs -/
def RpU (X : Cx) (n : Nat) (outs : List Addr) (H0 : Hp) (v : V) (t : Str) : Prop := ∀ (A : Around) (g : List Code) (pins : List (Addr × Obj)) (s : Shared) (σ : L2.St) (H : Hp) (u : Value) (bs : Nat),
  Ex outs H0 H → Sub X n A → A.guards = some g → Gd g outs → Inv X pins σ H s → RelV v u → bs + t.length ≤ sizeLine →
  wpAny (model X.prog X.w) A (pyReprUnder bs u) (fun r s' => r = t ∧ ∃ H', Inv X pins σ H' s' ∧ Ext H H') X.xe s
theorem RpU.mono {n m : Nat} {outs : List Addr} {H0 : Hp} {v : V} {t : Str} (h : RpU X n outs H0 v t) (nm : n ≤ m) : RpU X m outs H0 v t := fun A g pins s σ H u bs x sb => h A g pins s σ H u bs x (sb.mono nm)
theorem RpU.non {n : Nat} {outs : List Addr} {H0 : Hp} : RpU X n outs H0 .non "None" := fun A g pins s σ H u bs x sb hg gd I r hb => by
  cases r
  exact ReprIs.none bs hb _ _ _ _ fun tk => ⟨rfl, H, I.tok tk, Ext.rfl'⟩
theorem RpU.bl {n : Nat} {outs : List Addr} {H0 : Hp} {b : Bool} : RpU X n outs H0 (.bl b) (if b then "True" else "False") := fun A g pins s σ H u bs x sb hg gd I r hb => by
  cases r
  exact ReprIs.bool b bs hb _ _ _ _ fun tk => ⟨rfl, H, I.tok tk, Ext.rfl'⟩
theorem RpU.int {n : Nat} {outs : List Addr} {H0 : Hp} {i : Int} (h : i.natAbs.log2 < 1920) : RpU X n outs H0 (.int i) (toString i) := fun A g pins s σ H u bs x sb hg gd I r hb => by
  obtain ⟨t, rfl⟩ := r
  exact ReprIs.int t h bs hb _ _ _ _ fun tk => ⟨rfl, H, I.tok tk, Ext.rfl'⟩
theorem RpU.str {n : Nat} {outs : List Addr} {H0 : Hp} {z : Str} : RpU X n outs H0 (.str z) (reprText z) := fun A g pins s σ H u bs x sb hg gd I r hb => by
  obtain ⟨t, rfl⟩ := r
  exact ReprIs.str z t (by omega) bs hb _ _ _ _ fun tk => ⟨rfl, H, I.tok tk, Ext.rfl'⟩
/-- an own instance, by its own __repr__ -/
theorem RpU.own {k n : Nat} {outs : List Addr} {H0 : Hp} {a C dx : Addr} {fs : List (Str × V)} {sp : Sp} {t : Str} (S : OW.Spc X.prog X.w X.K X.mg X.base k C "__repr__" sp) (ha : H0 a = some (.ins C dx fs)) (na : a ∉ outs)
    (hsp : ∀ H, H a = some (.ins C dx fs) → sp [.ref a] H (fun v H' => v = .str t ∧ Ext H H') E0) (kn : k ≤ n) : RpU X n outs H0 (.ref a) t := fun A g pins s σ H u bs x sb hg gd I r hb => by
  obtain ⟨f, fd, ps, h1, h2, F, hbi⟩ := S.ex
  cases (show u = Value.ref a from r)
  have ea := x a _ ha na
  obtain ⟨mA, O, _⟩ := ins_get I.hok ea
  obtain ⟨od, J, _⟩ := O.look
  have KI := I.kIn
  have e0 : Env0 X.prog X.w X.K X.mg X.base A X.stack s H := by
    have z := I.env0
    exact ⟨sb.fr.trans z.frames, z.mod, z.bs, z.bsz, z.funs, z.frf, z.hok, z.bare⟩
  refine wpAny_pyReprUnder_ref (by omega) ?_
  unfold pyReprObjUnder pyReprObjBy
  refine wpAny_bind (wpAny_cRoomFor sb.room.units0 ?_)
  refine wpAny_bind (wpAny_bind (J.type.here ((PySem.W.looks_findIn KI h1).here ?_)))
  show wpAny _ _ (if (some (Value.ref f)).isNone = true then _ else _) _ _ _
  rw [if_neg (by simp)]
  have called : wpAny (model X.prog X.w) A (call (.ref f) [.ref a]) (fun v s' => ∃ tk, v = .str t tk ∧ ∃ H', Inv X pins σ H' s' ∧ Ext H H') X.xe s := by
    refine wpAny_mono (OW.run_at (E' := X.xe) (vs := [.ref a]) F hbi (sb.room.mono kn) I e0 (.cons rfl .nil) (hsp H ea)) (fun w s' z => ?_) fun _ _ x => x
    obtain ⟨z', H', I', rz, z, e⟩ := z
    rw [z] at rz
    obtain ⟨tk, rfl⟩ := rz
    exact ⟨tk, rfl, H', I', e⟩
  refine wpAny_bind (m := callSpecialIfBoundBy? _ (.ref a) (Str.ofString "__repr__")) ?_
  have fin : wpAny (model X.prog X.w) A (callSpecialIfBoundBy? (fun g first => match reprUnder? g, first with | some twin, [self] => call twin [self, rawInt bs] | _, _ => call g (first ++ [])) (.ref a) (Str.ofString "__repr__"))
      (fun r s' => ∃ tk, r = some (.str t tk) ∧ ∃ H', Inv X pins σ H' s' ∧ Ext H H') X.xe s := by
    simp only [callSpecialIfBoundBy?, bindSpecialIfBound?]
    refine wpAny_holding (wpAny_bind (wpAny_bind (wpAny_bind (J.type.here ((PySem.W.looks_findIn KI h1).here ?_)))))
    refine wpAny_bind (wpAny_askSetting (wpAny_ite ?_))
    have ends : wpAny (model X.prog X.w) A (call (.ref f) ([.ref a] ++ []) >>= fun v => pure (some v)) (fun r s' => ∃ tk, r = some (.str t tk) ∧ ∃ H', Inv X pins σ H' s' ∧ Ext H H') X.xe s :=
      wpAny_bind (wpAny_mono called (fun v s' h' => wpAny_pure (by obtain ⟨tk, rfl, h⟩ := h'; exact ⟨tk, rfl, h⟩)) fun _ _ h' => h')
    split
    · exact wpAny_bind ((PySem.W.bind_fn KI _ (beq_iff_eq.mp h2)).here (wpAny_pure (by exact ends)))
    · exact wpAny_tryCatch (wpAny_bind ((PySem.W.bind_fn KI _ (beq_iff_eq.mp h2)).here (wpAny_pure (by exact ends))))
  refine wpAny_mono fin (fun r s' h' => ?_) fun _ _ x => x
  obtain ⟨tk, rfl, h⟩ := h'
  exact wpAny_bind (wpAny_isInstance (T := "str") (b := true) rfl isSubtype_str_str (wpAny_pure ⟨_, _, rfl, rfl, h⟩))
end
end RPO
set_option Elab.async false
set_option linter.all false
set_option maxRecDepth 100000
set_option maxHeartbeats 4000000
/-! RPL: the containers of RPO: lists, tuples, dicts. -/
namespace RPO
open PySem PySem.Spec PyProof.Rows L2
open Builtin Builtin.List
theorem strs_of : ∀ {ts : List Str} {us : List Value}, Vals (ts.map V.str) us → ∃ done : List (Str × Tok), us = strValues done ∧ done.map (·.1) = ts
  | [], _, .nil => ⟨[], rfl, rfl⟩
  | t :: ts, _, .cons r h => by
    obtain ⟨tk, rfl⟩ := r
    obtain ⟨done, rfl, e⟩ := strs_of h
    exact ⟨(t, tk) :: done, rfl, by simp [e]⟩
theorem sub_loop {X : Cx} {n : Nat} {A : Around} {args : Args} (h : Sub X (n + 1) A) : Sub X n (A.under (.builtin "list.__repr__.loop" args)) := by
  have hd : (A.under (.builtin "list.__repr__.loop" args)).depth ≤ A.depth + 1 := by
    first | exact Nat.le_refl _ | simp [Around.under, Code.weight, Code.isCreation, Code.isGuard, Code.isCaller, Code.frames, Code.isFrame, guardIds]
  have hu := units_under_list_loop A args
  have hf : (A.under (.builtin "list.__repr__.loop" args)).frames = A.frames := by
    have e : (Code.builtin "list.__repr__.loop" args).envs = [] := by first | rfl | simp [Code.envs, Code.isFrame]
    have e2 : (A.under (.builtin "list.__repr__.loop" args)).frames = pushEnvs (Code.envs (.builtin "list.__repr__.loop" args)) A.frames := by first | rfl | simp [Around.under]
    rw [e2, e]
    cases A.frames <;> first | rfl | simp [pushEnvs]
  obtain ⟨⟨h1, h2, h3⟩, h4⟩ := h
  exact ⟨⟨h1, by omega, by rw [hu]; omega⟩, hf.trans h4⟩
section
variable {X : Cx} {n : Nat} {outs : List Addr} {H0 : Hp} {a : Addr} {xs : List V} {ts : List Str}
theorem list_loop {A : Around} {g : List Code} {P : Addr} {bs : Nat} {pins : List (Addr × Obj)} {σ : L2.St} {Hb : Hp} {R : Result → Shared → Prop} (sb : Sub X (n + 1) A) (hg : A.guards = some g) (gd : Gd g outs) (ha : Hb a = some (.lst xs)) (hP : Hb P = none) (xe : Ex outs H0 Hb) (hlen : ts.length = xs.length)
    (hT : ∀ (i : Nat) (x : V), xs[i]? = some x → ∃ t, ts[i]? = some t ∧ RpU X n (a :: outs) H0 x t) (hsz : bs + (listText ts).length ≤ sizeLine)
    (hE : ∀ e s', X.xe e s' → R (.error e) s')
    (fin : ∀ (s' : Shared) (H' : Hp) (u : Tok), Inv X pins σ H' s' → Ext Hb H' → R (.ok (.ret (.str (listText ts) u))) s') :
    ∀ (k i : Nat) (s : Shared) (H : Hp), xs.length - i = k → i ≤ xs.length → Inv X pins σ H s → Ext Hb H → H P = some (.lst ((ts.take i).map V.str)) →
      codeAny (model X.prog X.w) A (.builtin "list.__repr__.loop" ⟨[.ref a, rawInt i, .ref P, rawInt ((bs + piled (ts.take i) : Nat) : Int)], []⟩) R s := by
  have hX : (listText ts).length = (textFrom 0 "[" ts).length + 1 := by
    show (textFrom 0 "[" ts ++ "]").length = _
    rw [strLen_append]; rfl
  have hL := textFrom_len ts 0 "["
  have each : ∀ t ∈ ts, t.length ≤ sizeLine := fun t ht => by
    have := hL.2.1 t ht
    omega
  have many : ts.length ≤ sizeLine := by
    have h1 := hL.1
    rw [if_neg (Nat.lt_irrefl 0)] at h1
    omega
  have hp3 := piled_le_listText ts
  have uu : A.in1.units < cLine := by have := sb.room.un; show A.units + 1 < cLine; omega
  intro k
  induction k with
  | zero =>
    intro i s H hk hi I eb hPi
    have hin : i = ts.length := by omega
    obtain ⟨_, its, m, rv, _, e⟩ := I.lstM (eb _ _ ha)
    obtain ⟨_, ups, c, rp, _, ep⟩ := I.lstM hPi
    have nits : its[i]? = none := by
      have := rv.length
      exact List.getElem?_eq_none (by omega)
    refine codeAny_builtin F.entry_list_repr_loop ?_
    show wpAny _ _ («list.__repr__.loop» ⟨[.ref a, .int i 0, .ref P, .int ((bs + piled (ts.take i) : Nat) : Int) 0], []⟩) _ _ s
    rw [repr_loop_tree]
    refine wpAny_bind (wpAny_listItems e rfl ?_)
    have hnone : its.toArray[((i : Int)).toNat]? = none := by simpa using nits
    simp only [hnone]
    unfold reprEnd
    refine wpAny_bind (wpAny_listItems ep rfl ?_)
    obtain ⟨done, rfl, ed⟩ := strs_of rp
    rw [show (strValues done).toArray.toList = strValues done from by simp, repr_fold]
    refine wpAny_bind (wpAny_pure ?_)
    have hall : done.map (·.1) = ts := by rw [ed, hin, List.take_length]
    rw [hall]
    refine wpAny_bind (wpAny_mkStr (wpAny_pure ?_) (by show (listText ts).length ≤ sizeLine; omega))
    exact fin _ H _ (I.tok _) eb
  | succ k ih =>
    intro i s H hk hi I eb hPi
    have hlt : i < xs.length := by omega
    obtain ⟨t, ht, hrep⟩ := hT i xs[i] (List.getElem?_eq_getElem hlt)
    obtain ⟨_, its, m, rv, lv, e⟩ := I.lstM (eb _ _ ha)
    have hlt2 : i < its.length := by omega
    have rvi : RelV xs[i] its[i] := by
      obtain ⟨u, e1, e2⟩ := rv.get (List.getElem?_eq_getElem hlt)
      rw [List.getElem?_eq_getElem hlt2] at e1
      cases e1
      exact e2
    have hp1 := piled_take_succ ht
    have hp2 := piled_take_le ts (i + 1)
    refine codeAny_builtin F.entry_list_repr_loop ?_
    show wpAny _ _ («list.__repr__.loop» ⟨[.ref a, .int i 0, .ref P, .int ((bs + piled (ts.take i) : Nat) : Int) 0], []⟩) _ _ s
    rw [repr_loop_tree]
    refine wpAny_bind (wpAny_listItems e rfl ?_)
    have hsome : its.toArray[((i : Int)).toNat]? = some its[i] := by simp [hlt2]
    simp only [hsome]
    rw [Int.toNat_natCast]
    refine wpAny_bind (wpAny_holding (wpAny_mono (hrep _ _ pins s σ H its[i] (bs + piled (ts.take i) + 1) ((xe.ext eb).more) (sub_loop sb) (guards_under_guard (isGuard_list_loop _) hg) gd.cons I rvi (by omega)) (fun r s2 h2 => ?_) fun e' s' h' => hE e' s' h'))
    obtain ⟨rfl, H2, I2, e2⟩ := h2
    refine wpAny_bind (wpAny_mkStr ?_ (each r (List.mem_of_getElem? ht)))
    have hP2 := e2 _ _ hPi
    obtain ⟨_, ups, c, rp, _, ep⟩ := I2.lstM hP2
    refine wpAny_bind ?_
    show wpAny _ _ (updateSeq P _) _ _ _
    have lp := rp.length
    rw [List.length_map, List.length_take] at lp
    refine wpAny_updateSeq ep rfl (wpAny_pure ⟨F.quiet_list_repr_loop _, ?_⟩) (by rw [List.size_toArray]; omega) (by rw [Array.size_push, List.size_toArray]; omega)
    have e1' : ((i : Int) + 1) = ((i + 1 : Nat) : Int) := by omega
    have e2' : bs + piled (ts.take i) + (r.length + 2) = bs + piled (ts.take (i + 1)) := by omega
    rw [e1', e2']
    have I3 := I2.lset (its' := ups ++ [.str r s2.toks]) (f := fun x => x.push (.str r s2.toks)) (t' := s2.toks + 1) hP2 ep (by simp) (ys := (ts.take (i + 1)).map V.str) (by
      rw [List.take_add_one, ht, List.map_append]
      exact rp.append (.cons ⟨_, rfl⟩ .nil)) (by rw [List.length_map, List.length_take]; omega)
    exact ih (i + 1) _ _ (by omega) hlt I3 (fun b o hb => by
      rw [upd_ne (fun z => by rw [z, hP] at hb; cases hb)]
      exact e2 _ _ (eb _ _ hb)) upd_same
end
end RPO
set_option Elab.async false
set_option linter.all false
set_option maxRecDepth 100000
set_option maxHeartbeats 4000000
namespace RPO
open PySem PySem.Spec PyProof.Rows L2
open Builtin Builtin.List
/-- things one by one -/
inductive RpAll (X : Cx) (n : Nat) (outs : List Addr) (H0 : Hp) : List V → List Str → Prop
  | nil : RpAll X n outs H0 [] []
  | cons {v : V} {t : Str} {vs : List V} {ts : List Str} : RpU X n outs H0 v t → RpAll X n outs H0 vs ts → RpAll X n outs H0 (v :: vs) (t :: ts)
theorem RpAll.len {X : Cx} {n : Nat} {outs : List Addr} {H0 : Hp} : ∀ {vs : List V} {ts : List Str}, RpAll X n outs H0 vs ts → ts.length = vs.length
  | _, _, .nil => rfl
  | _, _, .cons _ h => by rw [List.length_cons, List.length_cons, h.len]
theorem RpAll.get {X : Cx} {n : Nat} {outs : List Addr} {H0 : Hp} : ∀ {vs : List V} {ts : List Str}, RpAll X n outs H0 vs ts → ∀ (i : Nat) (x : V), vs[i]? = some x → ∃ t, ts[i]? = some t ∧ RpU X n outs H0 x t
  | _, _, .nil, _, _, h => by simp at h
  | _, _, .cons r h, 0, _, e => by
    simp at e
    subst e
    exact ⟨_, rfl, r⟩
  | _, _, .cons r h, i + 1, x, e => by
    obtain ⟨t, e1, e2⟩ := h.get i x (by simpa using e)
    exact ⟨t, by simpa using e1, e2⟩
section
variable {X : Cx} {n : Nat} {outs : List Addr} {H0 : Hp} {a : Addr} {xs : List V} {ts : List Str}
/-- what is asked of the end of a text -/
def Told (X : Cx) (pins : List (Addr × Obj)) (σ : L2.St) (H : Hp) (t : Str) (v : Value) (s' : Shared) : Prop := ∃ tk, v = .str t tk ∧ ∃ H', Inv X pins σ H' s' ∧ Ext H H'
theorem list_at {A : Around} {g : List Code} {bs : Nat} {pins : List (Addr × Obj)} {σ : L2.St} {s : Shared} {H : Hp} {Q : Value → Shared → Prop} (sb : Sub X (n + 1) A) (hg : A.guards = some g) (gd : Gd g outs) (I : Inv X pins σ H s) (ha : H a = some (.lst xs)) (na : a ∉ outs) (xe : Ex outs H0 H) (hx : xs ≠ [])
    (hT : RpAll X n (a :: outs) H0 xs ts) (hsz : bs + (listText ts).length ≤ sizeLine) (fin : ∀ v s', Told X pins σ H (listText ts) v s' → Q v s') :
    wpAny (model X.prog X.w) A.in1 (Builtin.listReprAt bs ⟨[.ref a], []⟩) (fun fin s' => match fin with | .done f => callEnd Q X.xe (.ok f) s' | .again c' => c'.quiet = true ∧ codeAny (model X.prog X.w) A c' (callEnd Q X.xe) s') (fun e s' => callEnd Q X.xe (.error e) s') s := by
  obtain ⟨_, its, m, rv, lv, e⟩ := I.lstM ha
  obtain ⟨y, l, rfl⟩ : ∃ y l, its = y :: l := by
    cases its with
    | nil =>
      have : xs.length = 0 := lv
      exact absurd (List.length_eq_zero_iff.mp this) hx
    | cons y l => exact ⟨y, l, rfl⟩
  refine wpAny_list_repr_head (A := A.in1) hg (fun v rest kw hm => listSameRef_of_ne ((gd.clear na) _ _ _ _ hm)) e rfl ?_
  refine wpAny_bind (m := newList []) (wpAny_newObj_type ?_)
  refine wpAny_pure ⟨F.quiet_list_repr_loop _, ?_⟩
  have I1 := I.lnew (its := []) (ys := []) (t' := s.toks) .nil (Nat.zero_le _)
  have hn := I.fresh
  exact list_loop (n := n) (Hb := H) (R := callEnd Q X.xe) sb hg gd ha hn xe hT.len hT.get hsz (fun _ _ h => h) (fun s' H' u I' e' => fin _ _ ⟨u, rfl, H', I', e'⟩) _ 0 _ _ rfl (Nat.zero_le _) I1 (Ext.upd hn) upd_same
theorem RpU.list (ha : H0 a = some (.lst xs)) (na : a ∉ outs) (hx : xs ≠ []) (hT : RpAll X n (a :: outs) H0 xs ts) : RpU X (n + 1) outs H0 (.ref a) (listText ts) := fun A g pins s σ H u bs x sb hg gd I r hb => by
  cases (show u = Value.ref a from r)
  have ea := x a _ ha na
  obtain ⟨_, its, m, rv, lv, e⟩ := I.lstM ea
  refine wpAny_pyReprUnder_ref (by omega) (wpAny_pyReprObjUnder_twin (twin := "list.__repr__.under") ⟨_, e, rfl⟩ F.slot_list_repr.toG rfl sb.room.units0
    (call_twin_plain F.plain_list_repr_under F.entry_list_repr_under F.check_list_repr_under ⟨_, e, rfl⟩ F.slot_list_repr.toG (F.args_list_repr_1 _) (list_at sb hg gd I ea na x hx hT hb fun v s' h => ?_)))
  obtain ⟨tk, rfl, h⟩ := h
  exact ⟨⟨_, _, rfl⟩, _, _, rfl, rfl, h⟩
theorem RpU.list0 (ha : H0 a = some (.lst [])) (na : a ∉ outs) : RpU X n outs H0 (.ref a) "[]" := fun A g pins s σ H u bs x sb hg gd I r hb => by
  cases (show u = Value.ref a from r)
  have ea := x a _ ha na
  obtain ⟨_, its, m, rv, lv, e⟩ := I.lstM ea
  obtain rfl : its = [] := List.length_eq_zero_iff.mp lv.symm
  exact wpAny_pyReprUnder_ref (by omega) (wpAny_pyReprObjUnder_list_empty ⟨_, e, rfl⟩ sb.room.units0 e rfl ⟨_, _, rfl, rfl, H, I.tok _, Ext.rfl'⟩)
theorem tup_fold {A : Around} {g : List Code} {pins : List (Addr × Obj)} {σ : L2.St} {Hb : Hp} {Q : (Array Str × Nat) → Shared → Prop} (sb : Sub X n A) (hg : A.guards = some g) (gd : Gd g (a :: outs)) (xe : Ex outs H0 Hb) :
    ∀ {vs : List V} {ts : List Str}, RpAll X n (a :: outs) H0 vs ts → ∀ (us : List Value) (acc : Array Str) (m : Nat) (s : Shared) (H : Hp), Vals vs us → m + piled ts ≤ sizeLine → Inv X pins σ H s → Ext Hb H →
      (∀ s' H', Inv X pins σ H' s' → Ext Hb H' → Q ⟨acc ++ ts.toArray, m + piled ts⟩ s') → wpAny (model X.prog X.w) A (forIn us (⟨acc, m⟩ : (Array Str × Nat)) tupBody) Q X.xe s := by
  intro vs ts h
  induction h with
  | nil =>
    intro us acc m s H rv hm I eb fin
    cases rv
    have h0 := fin s H I eb
    simp only [List.forIn_nil]
    exact wpAny_pure (by simpa [piled] using h0)
  | @cons v t vs ts hr hl ih =>
    intro us acc m s H rv hm I eb fin
    cases rv with
    | @cons _ u _ us r rv =>
      rw [piled_cons] at hm
      rw [List.forIn_cons]
      refine wpAny_bind (wpAny_bind (wpAny_mono (hr A g pins s σ H u (m + 1) (xe.ext eb).more sb hg gd I r (by omega)) (fun r' s2 h2 => ?_) fun _ _ x => x))
      obtain ⟨rfl, H2, I2, e2⟩ := h2
      refine wpAny_pure ?_
      refine ih us (acc.push r') (m + (r'.length + 2)) s2 H2 rv (by omega) I2 (eb.trans e2) fun s' H' I' e' => ?_
      have h1 := fin s' H' I' e'
      have e : m + piled (r' :: ts) = m + (r'.length + 2) + piled ts := by rw [piled_cons]; omega
      rw [e] at h1
      simpa using h1
theorem tup_at {A : Around} {g : List Code} {bs : Nat} {pins : List (Addr × Obj)} {σ : L2.St} {s : Shared} {H : Hp} {Q : Value → Shared → Prop} {id : String} {rest : List Value} (hcg : (Code.builtin id ⟨.ref a :: rest, []⟩).isGuard = true) (sb : Sub X n (A.under (.builtin id ⟨.ref a :: rest, []⟩)))
    (hg : A.guards = some g) (gd : Gd g outs) (I : Inv X pins σ H s) (ha : H a = some (.tup xs)) (na : a ∉ outs) (xe : Ex outs H0 H) (hT : RpAll X n (a :: outs) H0 xs ts) (hsz : bs + (tupleText ts).length ≤ sizeLine) (fin : ∀ v s', Told X pins σ H (tupleText ts) v s' → Q v s') :
    wpOwn (model X.prog X.w) A (.builtin id ⟨.ref a :: rest, []⟩) (Builtin.tupleReprAt bs ⟨[.ref a], []⟩) (fun fin s' => match fin with | .done f => callEnd Q X.xe (.ok f) s' | .again c' => c'.quiet = true ∧ codeAny (model X.prog X.w) A c' (callEnd Q X.xe) s') (fun e s' => callEnd Q X.xe (.error e) s') s := by
  obtain ⟨its, rv, ⟨o, ho, hc, m, hd⟩, hz⟩ := I.tuple (SqT.of (K := X.K) ha)
  have hca : Clear g a := gd.clear na
  have hlen : ts.length = its.length := hT.len.trans rv.length
  have hp := piled_le_tupleText ts
  have hsz0 : (tupleText ts).length ≤ sizeLine := by omega
  rw [tuple_repr_tree, tupleReprUnderWay_eq]
  refine wpOwn_bind (wpOwn_stackTailAny hg (tupGuardF_off _) (tupGuardF_pos _) ?_)
  have hn : (g.any fun c => tupGuardF (.ref a) (c, default)) = false := by
    rw [List.any_eq_false]
    intro c hcm
    rw [tupGuardF_of_clear hca c hcm]
    exact Bool.false_ne_true
  rw [hn]
  refine wpOwn_of_wpAny ?_
  show wpAny _ _ (tupleReprRest bs (.ref a)) _ _ s
  unfold tupleReprRest Builtin.Tuple.tupleItemsOf
  refine wpAny_bind (wpAny_bind (wpAny_seqItems ho hd (wpAny_pure ?_)))
  rw [← Array.forIn_toList]
  refine wpAny_bind (tup_fold (Hb := H) sb (guards_under_guard hcg hg) gd.cons xe hT _ _ _ s H (by simpa using rv) (by omega) I Ext.rfl' fun s' H' I' e' => ?_)
  refine wpAny_bind (wpAny_mkStr (wpAny_pure ?_) (by simpa [tupleText, hlen] using hsz0))
  have h1 := fin (.str (tupleText ts) s'.toks) { s' with toks := s'.toks + 1 } ⟨_, rfl, H', I'.tok _, e'⟩
  simpa [tupleText, hlen] using h1
theorem sub_code {A : Around} {id : String} {args : Args} (h : Sub X (n + 1) A) (hw : (Code.builtin id args).weight ≤ 1) (he : (Code.builtin id args).envs = []) (hu : (A.under (.builtin id args)).units = A.units + 1) : Sub X n (A.under (.builtin id args)) := by
  have e2 : (A.under (.builtin id args)).frames = pushEnvs (Code.envs (.builtin id args)) A.frames := by first | rfl | simp [Around.under]
  have hf : (A.under (.builtin id args)).frames = A.frames := by
    rw [e2, he]
    cases A.frames <;> first | rfl | simp [pushEnvs]
  have hd : (A.under (.builtin id args)).depth = A.depth + (Code.builtin id args).weight := by first | rfl | simp [Around.under]
  obtain ⟨⟨h1, h2, h3⟩, h4⟩ := h
  exact ⟨⟨h1, by omega, by rw [hu]; omega⟩, hf.trans h4⟩
theorem w_tup {args : Args} : (Code.builtin "tuple.__repr__" args).weight ≤ 1 := by
  first | exact Nat.le_refl _ | simp [Code.weight, Code.isCreation, Code.isGuard, Code.isCaller, Code.frames, Code.isFrame, guardIds]
theorem w_tupU {args : Args} : (Code.builtin "tuple.__repr__.under" args).weight ≤ 1 := by
  first | exact Nat.le_refl _ | simp [Code.weight, Code.isCreation, Code.isGuard, Code.isCaller, Code.frames, Code.isFrame, guardIds]
theorem e_b {id : String} {args : Args} (h : (Code.builtin id args).isFrame = false := by rfl) : (Code.builtin id args).envs = [] := by simp [Code.envs, h]
theorem RpU.tup (ha : H0 a = some (.tup xs)) (na : a ∉ outs) (hT : RpAll X n (a :: outs) H0 xs ts) : RpU X (n + 1) outs H0 (.ref a) (tupleText ts) := fun A g pins s σ H u bs x sb hg gd I r hb => by
  cases (show u = Value.ref a from r)
  have ea := x a _ ha na
  obtain ⟨its, rv, ⟨o, ho, hc, m, hd⟩, hz⟩ := I.tuple (SqT.of (K := X.K) ea)
  refine wpAny_pyReprUnder_ref (by omega) (wpAny_pyReprObjUnder_twin (twin := "tuple.__repr__.under") ⟨o, ho, hc⟩ F.slot_tuple_repr rfl sb.room.units0
    (call_twin_own (F.quiet_tuple_repr_under _) F.entry_tuple_repr_under F.check_tuple_repr_under ⟨o, ho, hc⟩ F.slot_tuple_repr (F.args_tuple_repr_1 _)
      (tup_at (isGuard_tuple_repr_under _) (sub_code sb w_tupU e_b (units_under_tuple_repr_under _ _)) hg gd I ea na x hT hb fun v s' h => ?_)))
  obtain ⟨tk, rfl, h⟩ := h
  exact ⟨⟨_, _, rfl⟩, _, _, rfl, rfl, h⟩
/-- repr of a tuple, where no repr is under way -/
def rReprT (X : Cx) (n : Nat) : List V → Hp → VK → Prop := fun ys H Q => ∃ (a : Addr) (xs : List V) (ts : List Str), ys = [.ref a] ∧ H a = some (.tup xs) ∧ RpAll X n [a] H xs ts ∧ (tupleText ts).length ≤ sizeLine ∧ ∀ H', Ext H H' → Q (.str (tupleText ts)) H'
theorem call_reprT (hgd : X.A.guards = some []) (hr : Room (n + 2) X.A) : CallR X (.builtin "repr") (rReprT X n) := by
  intro pins s σ H ys us Q I r h
  obtain ⟨a, xs, ts, rfl, ea, hT, hb, q⟩ := h
  obtain ⟨u, rfl, ru⟩ := r.one
  cases (show u = Value.ref a from ru)
  obtain ⟨its, rv, ⟨o, ho, hc, m, hd⟩, hz⟩ := I.tuple (SqT.of (K := X.K) ea)
  have sb : Sub X (n + 1) X.A.in1 := ⟨hr.in1, rfl⟩
  refine call_repr_slot (by have := hr.un; omega) ⟨o, ho, hc⟩ F.slot_tuple_repr ?_
  refine wpAny_call (codeAny_call_builtin_own (Code.quiet_builtin _ (by decide +kernel)) F.entry_tuple_repr (F.slot_tuple_repr.check _ _ _ _ _ _ _ _ ⟨o, ho, hc⟩ (F.args_tuple_repr_1 _)
    (tup_at (outs := []) (H0 := H) (bs := 0) (isGuard_tuple_repr _) (sub_code sb w_tup e_b (units_under_tuple_repr _ _)) hgd Gd.nil I ea (by simp) (Ex.refl _ _) hT (by omega) fun v s' h => ?_)))
  obtain ⟨tk, rfl, H', I', e⟩ := h
  exact ⟨_, _, rfl, .str _, H', I', ⟨_, rfl⟩, q H' e⟩
end
end RPO
set_option Elab.async false
set_option linter.all false
set_option maxRecDepth 100000
set_option maxHeartbeats 4000000
namespace RPO
open PySem PySem.Spec PyProof.Rows L2
open Builtin Builtin.List
/-- what the entries of a dict show as -/
inductive RpEnt (X : Cx) (n : Nat) (outs : List Addr) (H0 : Hp) : List (Key × V) → List Str → Prop
  | nil : RpEnt X n outs H0 [] []
  | cons {k : Key} {v : V} {tk tv : Str} {kvs : List (Key × V)} {ps : List Str} : RpU X n outs H0 (kV k) tk → RpU X n outs H0 v tv → RpEnt X n outs H0 kvs ps → RpEnt X n outs H0 ((k, v) :: kvs) ((tk ++ ": " ++ tv) :: ps)
section
variable {X : Cx} {n : Nat} {outs : List Addr} {H0 : Hp} {a : Addr} {kvs : List (Key × V)} {ps : List Str}
theorem RpEnt.len : ∀ {kvs : List (Key × V)} {ps : List Str}, RpEnt X n outs H0 kvs ps → ps.length = kvs.length
  | _, _, .nil => rfl
  | _, _, .cons _ _ h => by rw [List.length_cons, List.length_cons, h.len]
theorem RpEnt.get : ∀ {kvs : List (Key × V)} {ps : List Str}, RpEnt X n outs H0 kvs ps → ∀ (i : Nat) (e : Key × V), kvs[i]? = some e → ∃ tk tv : Str, ps[i]? = some (tk ++ ": " ++ tv) ∧ RpU X n outs H0 (kV e.1) tk ∧ RpU X n outs H0 e.2 tv
  | _, _, .nil, _, _, h => by simp at h
  | _, _, .cons r1 r2 h, 0, _, e => by
    simp at e
    subst e
    exact ⟨_, _, rfl, r1, r2⟩
  | _, _, .cons _ _ h, i + 1, x, e => by
    obtain ⟨t1, t2, e1, e2⟩ := h.get i x (by simpa using e)
    exact ⟨t1, t2, by simpa using e1, e2⟩
theorem pairs_at {P : Program} {w : World} : ∀ {es : List DictEntry} {vs : List (Key × Value)}, Pairs (mixKind P w) es vs → ∀ (i : Nat) (kv : Key × Value), vs[i]? = some kv → ∃ e, es[i]? = some e ∧ (mixKind P w).is kv.1 e.key = true ∧ e.val = kv.2
  | _, _, .nil, _, _, h => by simp at h
  | _, _, .cons h1 h2 h, 0, _, e => by
    simp at e
    subst e
    exact ⟨_, rfl, h1, h2⟩
  | _, _, .cons _ _ h, i + 1, kv, e => by
    obtain ⟨en, e1, e2⟩ := pairs_at h i kv (by simpa using e)
    exact ⟨en, by simpa using e1, e2⟩
theorem key_rel {k : Key} {v : Value} (h : keyIs k v = true) : RelV (kV k) v := by
  rcases keyIs_shape h with ⟨i, t, rfl, rfl⟩ | ⟨x, t, rfl, rfl⟩
  · exact ⟨_, rfl⟩
  · exact ⟨_, rfl⟩
theorem kv_at : ∀ {ks : List (Key × V)} {va : List (Key × Value)}, KV ks va → ∀ (i : Nat) (e : Key × V), ks[i]? = some e → ∃ u : Key × Value, va[i]? = some u ∧ e.1 = u.1 ∧ RelV e.2 u.2
  | _, _, .nil, _, _, h => by simp at h
  | _, _, .cons r h, 0, _, e => by
    simp at e
    subst e
    exact ⟨_, rfl, r.1, r.2⟩
  | _, _, .cons _ h, i + 1, x, e => by
    obtain ⟨u, e1, e2⟩ := kv_at h i x (by simpa using e)
    exact ⟨u, by simpa using e1, e2⟩
/-- the entries of a locked dict -/
theorem entry_of {pins : List (Addr × Obj)} {σ : L2.St} {s : Shared} {H : Hp} {o : Obj} (I : Inv X pins σ H s) (h : H a = some (.frz o (.dK kvs))) {es : Array DictEntry} {ep : Nat} (hd : o.data = .dict es ep) (i : Nat) (hi : i < kvs.length) :
    ∃ e, es[i]? = some e ∧ RelV (kV kvs[i].1) e.key ∧ RelV kvs[i].2 e.val := by
  obtain ⟨_, hg, _, es', ep', vs, hd', hs, kv, o2, es2, g2, x2, d2, k2, p2, _⟩ := I.frzK h
  rw [hg] at g2
  cases g2
  rw [hd] at d2
  cases d2
  obtain ⟨u, e1, e2, e3⟩ := kv_at kv i kvs[i] (List.getElem?_eq_getElem hi)
  obtain ⟨e, f1, f2, f3⟩ := pairs_at p2 i u e1
  refine ⟨e, by simpa using f1, ?_, by rw [f3]; exact e3⟩
  rw [e2]
  exact key_rel f2
theorem dct_at {A : Around} {g : List Code} {bs : Nat} {pins : List (Addr × Obj)} {σ : L2.St} {s : Shared} {H : Hp} {Q : Value → Shared → Prop} {id : String} {rest : List Value} (hcg : (Code.builtin id ⟨.ref a :: rest, []⟩).isGuard = true) (sb : Sub X n (A.under (.builtin id ⟨.ref a :: rest, []⟩)))
    (hg : A.guards = some g) (gd : Gd g outs) (I : Inv X pins σ H s) (ha : H a = some (.dK kvs)) (na : a ∉ outs) (xe : Ex outs H0 H) (hT : RpEnt X n (a :: outs) H0 kvs ps) (hsz : bs + (dictText ps).length ≤ sizeLine) (fin : ∀ v s', Told X pins σ H (dictText ps) v s' → Q v s') :
    wpOwn (model X.prog X.w) A (.builtin id ⟨.ref a :: rest, []⟩) (Builtin.dictReprAt bs ⟨[.ref a], []⟩) (fun fin s' => match fin with | .done f => callEnd Q X.xe (.ok f) s' | .again c' => c'.quiet = true ∧ codeAny (model X.prog X.w) A c' (callEnd Q X.xe) s') (fun e s' => callEnd Q X.xe (.error e) s') s := by
  have mu : Mut (some (HO.dK kvs)) := trivial
  have nf := I.nofrz ha mu
  obtain ⟨o, I1⟩ := I.lock ha mu
  have e1 : (upd H a (.frz o (.dK kvs))) a = some (.frz o (.dK kvs)) := upd_same
  have x1 : Ex (a :: outs) H0 (upd H a (.frz o (.dK kvs))) := fun b u e nb => by
    rw [upd_ne fun z => nb (by rw [z]; exact List.mem_cons_self)]
    exact xe b u e fun z => nb (List.mem_cons_of_mem _ z)
  have back : ∀ {H' : Hp} {s' : Shared}, Inv X pins σ H' s' → Ext (upd H a (.frz o (.dK kvs))) H' → ∃ H2, Inv X pins σ H2 s' ∧ Ext H H2 := fun {H' s'} I' e' => by
    refine ⟨_, I'.unlock (e' _ _ e1) nf, fun b u e => ?_⟩
    by_cases hb : b = a
    · subst hb
      rw [upd_same, ← e, ha]
    · rw [upd_ne hb]
      refine e' _ _ ?_
      rw [upd_ne hb]
      exact e
  generalize upd H a (.frz o (.dK kvs)) = H1 at I1 e1 x1 back
  obtain ⟨hsys, hget, hex, es, ep, vs, hd, hsize, _, _⟩ := I1.frzK e1
  have got : ∀ {H' : Hp} {s' : Shared}, Inv X pins σ H' s' → Ext H1 H' → s'.heap.get? a = some o := fun I' e' => (I'.frzK (e' _ _ e1)).2.1
  have hTy : s.TypeIs (.ref a) "dict" := ⟨o, hget, hex.1⟩
  have hca : Clear g a := gd.clear na
  have hlen : ps.length = es.size := hT.len.trans hsize.symm
  have hp3 := piled_le_dictText ps
  have hsz0 : (dictText ps).length ≤ sizeLine := by omega
  unfold Builtin.dictReprAt
  refine wpOwn_bind (wpOwn_of_wpAny ?_)
  unfold Builtin.Dict.dictSlotNone
  refine wpAny_bind (wpAny_notOrdered_dict hTy ?_)
  show wpAny _ _ (pure (Value.ref a)) _ _ s
  refine wpAny_pure ?_
  rw [dictReprRunning_eq]
  refine wpOwn_bind (wpOwn_stackTailAny hg (dictGuardF_off _) (dictGuardF_pos _) ?_)
  have hn : (g.any fun c => dictGuardF (.ref a) (c, default)) = false := by
    rw [List.any_eq_false]
    intro c hcm
    rw [dictGuardF_of_clear hca c hcm]
    exact Bool.false_ne_true
  rw [hn]
  refine wpOwn_of_wpAny ?_
  have hg' := guards_under_guard hcg hg
  show wpAny _ _ (Builtin.Dict.addrOf (.ref a) >>= _) _ _ s
  refine wpAny_bind (wpAny_pure ?_)
  show wpAny _ _ (Builtin.Dict.showsAll a >>= _) _ _ s
  unfold Builtin.Dict.showsAll
  rw [if_neg (by rw [hsys]; exact Bool.false_ne_true)]
  refine wpAny_bind (wpAny_pure ?_)
  refine wpAny_bind (wpAny_dictEpoch hget hd ?_)
  refine wpAny_bind (wpAny_dictEntries hget hd ?_)
  refine wpAny_bind ?_
  rw [Std.Legacy.Range.forIn_eq_forIn_range']
  simp only [Std.Legacy.Range.size, Nat.sub_zero, Nat.add_sub_cancel, Nat.div_one]
  refine wpAny_forIn_list _
    (fun rest' r s' => ∃ i H', rest' = List.range' i (es.size - i) ∧ i ≤ es.size ∧ r = (⟨(ps.take i).toArray, bs + piled (ps.take i)⟩ : (Array Str × Nat)) ∧ Inv X pins σ H' s' ∧ Ext H1 H')
    _ ?_ ?_ _ _ ⟨0, H1, by simp, Nat.zero_le _, by simp [piled], I1, Ext.rfl'⟩
  · rintro x rest' _ s' ⟨i, H', hr, hi, rfl, I', e'⟩
    have hlt : i < es.size := by
      rcases Nat.lt_or_ge i es.size with h | h
      · exact h
      · rw [Nat.sub_eq_zero_of_le h] at hr; simp at hr
    obtain ⟨rfl, hrest⟩ : x = i ∧ rest' = List.range' (i + 1) (es.size - (i + 1)) := by
      have e : es.size - i = (es.size - (i + 1)) + 1 := by omega
      rw [e, List.range'_succ] at hr
      injection hr with h1 h2
      exact ⟨h1, h2⟩
    have hx2 : x < kvs.length := by omega
    obtain ⟨tk, tv, hp, rk, rv⟩ := hT.get x kvs[x] (List.getElem?_eq_getElem hx2)
    obtain ⟨en, f1, f2, f3⟩ := entry_of I' (e' _ _ e1) hd x hx2
    have hpl : (tk ++ ": " ++ tv).length = tk.length + 2 + tv.length := by
      rw [strLen_append, strLen_append]; rfl
    have hp1 := piled_take_succ hp
    have hp2 := piled_take_le ps (x + 1)
    rw [hpl] at hp1
    refine wpAny_bind (wpAny_dictEntries (got I' e') hd ?_)
    rw [f1]
    refine wpAny_bind (wpAny_holding (wpAny_bind (wpAny_mono (rk _ _ pins s' σ H' en.key (bs + piled (ps.take x) + 1) (x1.ext e') sb hg' gd.cons I' f2 (by omega)) (fun r2 s2 h2 => ?_) fun _ _ z => z)))
    obtain ⟨rfl, H2, I2, e2⟩ := h2
    refine wpAny_bind (wpAny_mono (rv _ _ pins s2 σ H2 en.val (bs + piled (ps.take x) + (r2.length + 3)) (x1.ext (e'.trans e2)) sb hg' gd.cons I2 f3 (by omega)) (fun r3 s3 h3 => ?_) fun _ _ z => z)
    obtain ⟨rfl, H3, I3, e3⟩ := h3
    have e13 := (e'.trans e2).trans e3
    refine wpAny_pure ?_
    refine wpAny_bind (wpAny_dictEpoch (got I3 e13) hd ?_)
    rw [if_neg (by simp)]
    have g1 : (ps.take x).toArray.push (r2 ++ ": " ++ r3) = (ps.take (x + 1)).toArray := by
      rw [List.take_add_one, hp]
      simp
    have g2 : bs + piled (ps.take x) + (r2.length + r3.length + 4) = bs + piled (ps.take (x + 1)) := by omega
    refine wpAny_pure ⟨x + 1, H3, hrest, hlt, ?_, I3, e13⟩
    rw [g1, g2]
  · rintro _ s' ⟨i, H', hr, hi, rfl, I', e'⟩
    have hin : i = es.size := by
      rcases Nat.lt_or_ge i es.size with h | h
      · have e : es.size - i = (es.size - (i + 1)) + 1 := by omega
        rw [e, List.range'_succ] at hr; exact nomatch hr
      · exact Nat.le_antisymm hi h
    rw [hin, ← hlen, List.take_length]
    refine wpAny_bind (wpAny_mkStr (wpAny_pure ?_) (by simpa [dictText] using hsz0))
    have h1 := fin (.str (dictText ps) s'.toks) { s' with toks := s'.toks + 1 } ⟨_, rfl, back (I'.tok _) e'⟩
    simpa [dictText] using h1
theorem w_dct {args : Args} : (Code.builtin "dict.__repr__" args).weight ≤ 1 := by
  first | exact Nat.le_refl _ | simp [Code.weight, Code.isCreation, Code.isGuard, Code.isCaller, Code.frames, Code.isFrame, guardIds]
theorem w_dctU {args : Args} : (Code.builtin "dict.__repr__.under" args).weight ≤ 1 := by
  first | exact Nat.le_refl _ | simp [Code.weight, Code.isCreation, Code.isGuard, Code.isCaller, Code.frames, Code.isFrame, guardIds]
theorem RpU.dct (ha : H0 a = some (.dK kvs)) (na : a ∉ outs) (hT : RpEnt X n (a :: outs) H0 kvs ps) : RpU X (n + 1) outs H0 (.ref a) (dictText ps) := fun A g pins s σ H u bs x sb hg gd I r hb => by
  cases (show u = Value.ref a from r)
  have ea := x a _ ha na
  have mu : Mut (some (HO.dK kvs)) := trivial
  obtain ⟨o, I1⟩ := I.lock ea mu
  obtain ⟨_, hget, hex, _⟩ := I1.frzK (upd_same : (upd H a (.frz o (.dK kvs))) a = _)
  refine wpAny_pyReprUnder_ref (by omega) (wpAny_pyReprObjUnder_twin (twin := "dict.__repr__.under") ⟨o, hget, hex.1⟩ F.slot_dict_repr rfl sb.room.units0
    (call_twin_own (F.quiet_dict_repr_under _) F.entry_dict_repr_under F.check_dict_repr_under ⟨o, hget, hex.1⟩ F.slot_dict_repr (F.args_dict_repr_1 _)
      (dct_at (isGuard_dict_repr_under _) (sub_code sb w_dctU e_b (units_under_dict_repr_under _ _)) hg gd I ea na x hT hb fun v s' h => ?_)))
  obtain ⟨tk, rfl, h⟩ := h
  exact ⟨⟨_, _, rfl⟩, _, _, rfl, rfl, h⟩
/-- repr of a list, of a dict, where no repr is under way -/
def rReprL (X : Cx) (n : Nat) : List V → Hp → VK → Prop := fun ys H Q => ∃ (a : Addr) (xs : List V) (ts : List Str), ys = [.ref a] ∧ H a = some (.lst xs) ∧ xs ≠ [] ∧ RpAll X n [a] H xs ts ∧ (listText ts).length ≤ sizeLine ∧ ∀ H', Ext H H' → Q (.str (listText ts)) H'
theorem call_reprL (hgd : X.A.guards = some []) (hr : Room (n + 2) X.A) : CallR X (.builtin "repr") (rReprL X n) := by
  intro pins s σ H ys us Q I r h
  obtain ⟨a, xs, ts, rfl, ea, hx, hT, hb, q⟩ := h
  obtain ⟨u, rfl, ru⟩ := r.one
  cases (show u = Value.ref a from ru)
  obtain ⟨_, its, m, rv, lv, e⟩ := I.lstM ea
  have sb : Sub X (n + 1) X.A.in1 := ⟨hr.in1, rfl⟩
  refine call_repr_slot (by have := hr.un; omega) ⟨_, e, rfl⟩ F.slot_list_repr.toG ?_
  refine wpAny_call (codeAny_call_builtin F.slot_list_repr.plain F.entry_list_repr (F.slot_list_repr.check _ _ _ _ _ _ _ _ ⟨_, e, rfl⟩ (F.args_list_repr_1 _)
    (list_at (outs := []) (H0 := H) (bs := 0) sb hgd Gd.nil I ea (by simp) (Ex.refl _ _) hx hT (by omega) fun v s' h => ?_)))
  obtain ⟨tk, rfl, H', I', e⟩ := h
  exact ⟨_, _, rfl, .str _, H', I', ⟨_, rfl⟩, q H' e⟩
def rReprDc (X : Cx) (n : Nat) : List V → Hp → VK → Prop := fun ys H Q => ∃ (a : Addr) (kvs : List (Key × V)) (ps : List Str), ys = [.ref a] ∧ H a = some (.dK kvs) ∧ RpEnt X n [a] H kvs ps ∧ (dictText ps).length ≤ sizeLine ∧ ∀ H', Ext H H' → Q (.str (dictText ps)) H'
theorem call_reprDc (hgd : X.A.guards = some []) (hr : Room (n + 2) X.A) : CallR X (.builtin "repr") (rReprDc X n) := by
  intro pins s σ H ys us Q I r h
  obtain ⟨a, kvs, ps, rfl, ea, hT, hb, q⟩ := h
  obtain ⟨u, rfl, ru⟩ := r.one
  cases (show u = Value.ref a from ru)
  have mu : Mut (some (HO.dK kvs)) := trivial
  obtain ⟨o, I1⟩ := I.lock ea mu
  obtain ⟨_, hget, hex, _⟩ := I1.frzK (upd_same : (upd H a (.frz o (.dK kvs))) a = _)
  have sb : Sub X (n + 1) X.A.in1 := ⟨hr.in1, rfl⟩
  refine call_repr_slot (by have := hr.un; omega) ⟨o, hget, hex.1⟩ F.slot_dict_repr ?_
  refine wpAny_call (codeAny_call_builtin_own (Code.quiet_builtin _ (by decide +kernel)) F.entry_dict_repr (F.slot_dict_repr.check _ _ _ _ _ _ _ _ ⟨o, hget, hex.1⟩ (F.args_dict_repr_1 _)
    (dct_at (outs := []) (H0 := H) (bs := 0) (isGuard_dict_repr _) (sub_code sb w_dct e_b (units_under_dict_repr _ _)) hgd Gd.nil I ea (by simp) (Ex.refl _ _) hT (by omega) fun v s' h => ?_)))
  obtain ⟨tk, rfl, H', I', e⟩ := h
  exact ⟨_, _, rfl, .str _, H', I', ⟨_, rfl⟩, q H' e⟩
end
end RPO
set_option Elab.async false
set_option linter.all false
set_option maxRecDepth 100000
set_option maxHeartbeats 4000000
/-! EQD: a dict beside things of other kinds: never equal; x in a list or tuple of any things, == and != of lists of any things. -/
namespace EQD
open PySem PySem.Spec PyProof.Rows L2
open PySem.SeqAt
abbrev dO (es : Array DictEntry) (ep : Nat) (dd : Option Addr) (sl : Array (Option Value)) : Obj := { cls := .type "dict", dict := dd, data := .dict es ep, slots := sl }

theorem dict_declines_none (l : Addr) (es : Array DictEntry) (ep : Nat) (dd : Option Addr) (sl : Array (Option Value))  :
    Meets (Builtin.«dict.__eq__» ⟨[.ref l, .none], []⟩) (fun _ R s => s.heap.get? l = some (dO es ep dd sl) ∧ R (.ok (.ret .notImplemented)) s) :=
  .of_wp fun prog w A R s h => by obtain ⟨hp, g, d, tk, os⟩ := s; obtain ⟨hl, h⟩ := h; have f1 := F.sub_NoneType_dict; wp_walk using wpAny_loadPart' hl; exact ⟨_, rfl, h⟩
theorem dict_declines_bool (l : Addr) (es : Array DictEntry) (ep : Nat) (dd : Option Addr) (sl : Array (Option Value)) (b : Bool) :
    Meets (Builtin.«dict.__eq__» ⟨[.ref l, .bool b], []⟩) (fun _ R s => s.heap.get? l = some (dO es ep dd sl) ∧ R (.ok (.ret .notImplemented)) s) :=
  .of_wp fun prog w A R s h => by obtain ⟨hp, g, d, tk, os⟩ := s; obtain ⟨hl, h⟩ := h; have f1 := F.sub_bool_dict; wp_walk using wpAny_loadPart' hl; exact ⟨_, rfl, h⟩
theorem dict_declines_int (l : Addr) (es : Array DictEntry) (ep : Nat) (dd : Option Addr) (sl : Array (Option Value)) (b : Int) (u : Tok) :
    Meets (Builtin.«dict.__eq__» ⟨[.ref l, .int b u], []⟩) (fun _ R s => s.heap.get? l = some (dO es ep dd sl) ∧ R (.ok (.ret .notImplemented)) s) :=
  .of_wp fun prog w A R s h => by obtain ⟨hp, g, d, tk, os⟩ := s; obtain ⟨hl, h⟩ := h; have f1 := F.sub_int_dict; wp_walk using wpAny_loadPart' hl; exact ⟨_, rfl, h⟩
theorem dict_declines_str (l : Addr) (es : Array DictEntry) (ep : Nat) (dd : Option Addr) (sl : Array (Option Value)) (b : Str) (u : Tok) :
    Meets (Builtin.«dict.__eq__» ⟨[.ref l, .str b u], []⟩) (fun _ R s => s.heap.get? l = some (dO es ep dd sl) ∧ R (.ok (.ret .notImplemented)) s) :=
  .of_wp fun prog w A R s h => by obtain ⟨hp, g, d, tk, os⟩ := s; obtain ⟨hl, h⟩ := h; have f1 := F.sub_str_dict; wp_walk using wpAny_loadPart' hl; exact ⟨_, rfl, h⟩
theorem bool_declines_dict (l : Addr) (es : Array DictEntry) (ep : Nat) (dd : Option Addr) (sl : Array (Option Value)) (b : Bool) :
    Meets (Builtin.«int.__eq__» ⟨[.bool b, .ref l], []⟩) (fun _ R s => s.heap.get? l = some (dO es ep dd sl) ∧ R (.ok (.ret .notImplemented)) s) :=
  .of_wp fun prog w A R s h => by obtain ⟨hp, g, d, tk, os⟩ := s; obtain ⟨hl, h⟩ := h; wp_walk using wpAny_loadPart' hl, wpAny_load hl; exact ⟨_, rfl, h⟩
theorem int_declines_dict (l : Addr) (es : Array DictEntry) (ep : Nat) (dd : Option Addr) (sl : Array (Option Value)) (b : Int) (u : Tok) :
    Meets (Builtin.«int.__eq__» ⟨[.int b u, .ref l], []⟩) (fun _ R s => s.heap.get? l = some (dO es ep dd sl) ∧ R (.ok (.ret .notImplemented)) s) :=
  .of_wp fun prog w A R s h => by obtain ⟨hp, g, d, tk, os⟩ := s; obtain ⟨hl, h⟩ := h; wp_walk using wpAny_loadPart' hl, wpAny_load hl; exact ⟨_, rfl, h⟩
theorem str_declines_dict (l : Addr) (es : Array DictEntry) (ep : Nat) (dd : Option Addr) (sl : Array (Option Value)) (b : Str) (u : Tok) :
    Meets (Builtin.«str.__eq__» ⟨[.str b u, .ref l], []⟩) (fun _ R s => s.heap.get? l = some (dO es ep dd sl) ∧ R (.ok (.ret .notImplemented)) s) :=
  .of_wp fun prog w A R s h => by obtain ⟨hp, g, d, tk, os⟩ := s; obtain ⟨hl, h⟩ := h; wp_walk using wpAny_loadPart' hl, wpAny_load hl; exact ⟨_, rfl, h⟩
theorem dict_declines_list (l b : Addr) (es : Array DictEntry) (ep : Nat) (dd dd2 : Option Addr) (sl sl2 : Array (Option Value)) (items : Array Value) (n : Nat) :
    Meets (Builtin.«dict.__eq__» ⟨[.ref l, .ref b], []⟩) (fun _ R s => s.heap.get? l = some (dO es ep dd sl) ∧ s.heap.get? b = some { cls := .type "list", dict := dd2, data := .seq items n, slots := sl2 } ∧ R (.ok (.ret .notImplemented)) s) :=
  .of_wp fun prog w A R s h => by obtain ⟨hp, g, d, tk, os⟩ := s; obtain ⟨hl, hb, h⟩ := h; have f1 := F.sub_list_dict; wp_walk using wpAny_loadPart' hl, wpAny_loadPart' hb; exact ⟨_, rfl, h⟩
theorem list_declines_dict (l b : Addr) (es : Array DictEntry) (ep : Nat) (dd dd2 : Option Addr) (sl sl2 : Array (Option Value)) (items : Array Value) (n : Nat) :
    Meets (Builtin.«list.__eq__» ⟨[.ref b, .ref l], []⟩) (fun _ R s => s.heap.get? l = some (dO es ep dd sl) ∧ s.heap.get? b = some { cls := .type "list", dict := dd2, data := .seq items n, slots := sl2 } ∧ R (.ok (.ret .notImplemented)) s) :=
  .of_wp fun prog w A R s h => by obtain ⟨hp, g, d, tk, os⟩ := s; obtain ⟨hl, hb, h⟩ := h; have f1 := F.sub_dict_list; wp_walk using wpAny_loadPart' hl, wpAny_loadPart' hb; exact ⟨_, rfl, h⟩
theorem dict_declines_tuple (l b : Addr) (es : Array DictEntry) (ep : Nat) (dd dd2 : Option Addr) (sl sl2 : Array (Option Value)) (items : Array Value) (n : Nat) :
    Meets (Builtin.«dict.__eq__» ⟨[.ref l, .ref b], []⟩) (fun _ R s => s.heap.get? l = some (dO es ep dd sl) ∧ s.heap.get? b = some { cls := .type "tuple", dict := dd2, data := .seq items n, slots := sl2 } ∧ R (.ok (.ret .notImplemented)) s) :=
  .of_wp fun prog w A R s h => by obtain ⟨hp, g, d, tk, os⟩ := s; obtain ⟨hl, hb, h⟩ := h; have f1 := F.sub_tuple_dict; wp_walk using wpAny_loadPart' hl, wpAny_loadPart' hb; exact ⟨_, rfl, h⟩
theorem tuple_declines_dict (l b : Addr) (es : Array DictEntry) (ep : Nat) (dd dd2 : Option Addr) (sl sl2 : Array (Option Value)) (items : Array Value) (n : Nat) :
    Meets (Builtin.«tuple.__eq__» ⟨[.ref b, .ref l], []⟩) (fun _ R s => s.heap.get? l = some (dO es ep dd sl) ∧ s.heap.get? b = some { cls := .type "tuple", dict := dd2, data := .seq items n, slots := sl2 } ∧ R (.ok (.ret .notImplemented)) s) :=
  .of_wp fun prog w A R s h => by obtain ⟨hp, g, d, tk, os⟩ := s; obtain ⟨hl, hb, h⟩ := h; have f1 := F.sub_dict_tuple; wp_walk using wpAny_loadPart' hl, wpAny_loadPart' hb; exact ⟨_, rfl, h⟩
/-- a dict stands at l -/
def IsDct (h : Heap) (l : Addr) : Prop := ∃ (o : Obj) (es : Array DictEntry) (ep : Nat), h.get? l = some o ∧ o.cls = .type "dict" ∧ o.data = .dict es ep
section
variable {A : Around} {s : Shared}
theorem RcAt_dict_none {l : Addr}  (hl : IsDct s.heap l) (hu : A.units < cLine) : RcAt A s (.ref l) .none false := fun prog w E Q h => by
  obtain ⟨⟨cls, dd, data, sl⟩, es, ep, ho, hc, hd⟩ := id hl
  simp only at hc hd
  subst hc hd
  exact rc_eq_decline_or (k := false) ⟨_, ho, rfl⟩ rfl (by decide) F.sub_NoneType_dict F.slot_dict_eq F.slot_NoneType_eq_refl
    (fun _ hq => call_meets F.slot_dict_eq ⟨_, ho, rfl⟩ F.entry_dict_eq (F.args_dict_eq_2 _ _) (dict_declines_none l es ep dd sl ) ⟨ho, hq⟩)
    (fun _ hq => call_gives F.slot_NoneType_eq_refl rfl F.entry_NoneType_eq (F.args_NoneType_eq_2 _ _) (NoneType___eq___none_ref_0 l) hq)
    (fun _ hq => wpAny_of_eq (rfl : isSame (.ref l) .none = pure false) hq) (.inr hu) h
theorem RcAt_none_dict {l : Addr}  (hl : IsDct s.heap l) (hu : A.units < cLine) : RcAt A s .none (.ref l) false := fun prog w E Q h => by
  obtain ⟨⟨cls, dd, data, sl⟩, es, ep, ho, hc, hd⟩ := id hl
  simp only at hc hd
  subst hc hd
  exact rc_eq_decline_or (k := false) rfl ⟨_, ho, rfl⟩ (by decide) F.sub_dict_NoneType F.slot_NoneType_eq F.slot_dict_eq_refl
    (fun _ hq => call_gives F.slot_NoneType_eq rfl F.entry_NoneType_eq (F.args_NoneType_eq_2 _ _) (NoneType___eq___none_ref_0 l) hq)
    (fun _ hq => call_meets F.slot_dict_eq_refl ⟨_, ho, rfl⟩ F.entry_dict_eq (F.args_dict_eq_2 _ _) (dict_declines_none l es ep dd sl ) ⟨ho, hq⟩)
    (fun _ hq => wpAny_of_eq (rfl : isSame .none (.ref l) = pure false) hq) (.inr hu) h
theorem EqAt_dict_none {l : Addr}  (hl : IsDct s.heap l) (hu : A.units < cLine) : EqAt A s (.ref l) .none false := fun prog w E Q h => by
  unfold eqBool
  refine wpAny_holding ?_
  refine wpAny_ite_split (fun hab => absurd (eq_of_beq hab) nofun) (fun _ => ?_)
  exact wpAny_bind (RcAt_dict_none  hl hu prog w E _ (wpAny_truthy_bool h))
theorem EqAt_none_dict {l : Addr}  (hl : IsDct s.heap l) (hu : A.units < cLine) : EqAt A s .none (.ref l) false := fun prog w E Q h => by
  unfold eqBool
  refine wpAny_holding ?_
  refine wpAny_ite_split (fun hab => absurd (eq_of_beq hab) nofun) (fun _ => ?_)
  exact wpAny_bind (RcAt_none_dict  hl hu prog w E _ (wpAny_truthy_bool h))
theorem RcAt_dict_bool {l : Addr} (b : Bool) (hl : IsDct s.heap l) (hu : A.units < cLine) : RcAt A s (.ref l) (.bool b) false := fun prog w E Q h => by
  obtain ⟨⟨cls, dd, data, sl⟩, es, ep, ho, hc, hd⟩ := id hl
  simp only at hc hd
  subst hc hd
  exact rc_eq_decline_or (k := false) ⟨_, ho, rfl⟩ rfl (by decide) F.sub_bool_dict F.slot_dict_eq F.slot_bool_eq_refl
    (fun _ hq => call_meets F.slot_dict_eq ⟨_, ho, rfl⟩ F.entry_dict_eq (F.args_dict_eq_2 _ _) (dict_declines_bool l es ep dd sl b) ⟨ho, hq⟩)
    (fun _ hq => call_meets F.slot_bool_eq_refl rfl F.entry_int_eq (F.args_int_eq_2 _ _) (bool_declines_dict l es ep dd sl b) ⟨ho, hq⟩)
    (fun _ hq => wpAny_of_eq (rfl : isSame (.ref l) (.bool b) = pure false) hq) (.inr hu) h
theorem RcAt_bool_dict {l : Addr} (b : Bool) (hl : IsDct s.heap l) (hu : A.units < cLine) : RcAt A s (.bool b) (.ref l) false := fun prog w E Q h => by
  obtain ⟨⟨cls, dd, data, sl⟩, es, ep, ho, hc, hd⟩ := id hl
  simp only at hc hd
  subst hc hd
  exact rc_eq_decline_or (k := false) rfl ⟨_, ho, rfl⟩ (by decide) F.sub_dict_bool F.slot_bool_eq F.slot_dict_eq_refl
    (fun _ hq => call_meets F.slot_bool_eq rfl F.entry_int_eq (F.args_int_eq_2 _ _) (bool_declines_dict l es ep dd sl b) ⟨ho, hq⟩)
    (fun _ hq => call_meets F.slot_dict_eq_refl ⟨_, ho, rfl⟩ F.entry_dict_eq (F.args_dict_eq_2 _ _) (dict_declines_bool l es ep dd sl b) ⟨ho, hq⟩)
    (fun _ hq => wpAny_of_eq (rfl : isSame (.bool b) (.ref l) = pure false) hq) (.inr hu) h
theorem EqAt_dict_bool {l : Addr} (b : Bool) (hl : IsDct s.heap l) (hu : A.units < cLine) : EqAt A s (.ref l) (.bool b) false := fun prog w E Q h => by
  unfold eqBool
  refine wpAny_holding ?_
  refine wpAny_ite_split (fun hab => absurd (eq_of_beq hab) nofun) (fun _ => ?_)
  exact wpAny_bind (RcAt_dict_bool b hl hu prog w E _ (wpAny_truthy_bool h))
theorem EqAt_bool_dict {l : Addr} (b : Bool) (hl : IsDct s.heap l) (hu : A.units < cLine) : EqAt A s (.bool b) (.ref l) false := fun prog w E Q h => by
  unfold eqBool
  refine wpAny_holding ?_
  refine wpAny_ite_split (fun hab => absurd (eq_of_beq hab) nofun) (fun _ => ?_)
  exact wpAny_bind (RcAt_bool_dict b hl hu prog w E _ (wpAny_truthy_bool h))
theorem RcAt_dict_int {l : Addr} (b : Int) (u : Tok) (hl : IsDct s.heap l) (hu : A.units < cLine) : RcAt A s (.ref l) (.int b u) false := fun prog w E Q h => by
  obtain ⟨⟨cls, dd, data, sl⟩, es, ep, ho, hc, hd⟩ := id hl
  simp only at hc hd
  subst hc hd
  exact rc_eq_decline_or (k := false) ⟨_, ho, rfl⟩ (typeIs_int s b u) (by decide) F.sub_int_dict F.slot_dict_eq F.slot_int_eq_refl
    (fun _ hq => call_meets F.slot_dict_eq ⟨_, ho, rfl⟩ F.entry_dict_eq (F.args_dict_eq_2 _ _) (dict_declines_int l es ep dd sl b u) ⟨ho, hq⟩)
    (fun _ hq => call_meets F.slot_int_eq_refl (typeIs_int s b u) F.entry_int_eq (F.args_int_eq_2 _ _) (int_declines_dict l es ep dd sl b u) ⟨ho, hq⟩)
    (fun _ hq => wpAny_of_eq (rfl : isSame (.ref l) (.int b u) = pure false) hq) (.inr hu) h
theorem RcAt_int_dict {l : Addr} (b : Int) (u : Tok) (hl : IsDct s.heap l) (hu : A.units < cLine) : RcAt A s (.int b u) (.ref l) false := fun prog w E Q h => by
  obtain ⟨⟨cls, dd, data, sl⟩, es, ep, ho, hc, hd⟩ := id hl
  simp only at hc hd
  subst hc hd
  exact rc_eq_decline_or (k := false) (typeIs_int s b u) ⟨_, ho, rfl⟩ (by decide) F.sub_dict_int F.slot_int_eq F.slot_dict_eq_refl
    (fun _ hq => call_meets F.slot_int_eq (typeIs_int s b u) F.entry_int_eq (F.args_int_eq_2 _ _) (int_declines_dict l es ep dd sl b u) ⟨ho, hq⟩)
    (fun _ hq => call_meets F.slot_dict_eq_refl ⟨_, ho, rfl⟩ F.entry_dict_eq (F.args_dict_eq_2 _ _) (dict_declines_int l es ep dd sl b u) ⟨ho, hq⟩)
    (fun _ hq => wpAny_of_eq (rfl : isSame (.int b u) (.ref l) = pure false) hq) (.inr hu) h
theorem EqAt_dict_int {l : Addr} (b : Int) (u : Tok) (hl : IsDct s.heap l) (hu : A.units < cLine) : EqAt A s (.ref l) (.int b u) false := fun prog w E Q h => by
  unfold eqBool
  refine wpAny_holding ?_
  refine wpAny_ite_split (fun hab => absurd (eq_of_beq hab) nofun) (fun _ => ?_)
  exact wpAny_bind (RcAt_dict_int b u hl hu prog w E _ (wpAny_truthy_bool h))
theorem EqAt_int_dict {l : Addr} (b : Int) (u : Tok) (hl : IsDct s.heap l) (hu : A.units < cLine) : EqAt A s (.int b u) (.ref l) false := fun prog w E Q h => by
  unfold eqBool
  refine wpAny_holding ?_
  refine wpAny_ite_split (fun hab => absurd (eq_of_beq hab) nofun) (fun _ => ?_)
  exact wpAny_bind (RcAt_int_dict b u hl hu prog w E _ (wpAny_truthy_bool h))
theorem RcAt_dict_str {l : Addr} (b : Str) (u : Tok) (hl : IsDct s.heap l) (hu : A.units < cLine) : RcAt A s (.ref l) (.str b u) false := fun prog w E Q h => by
  obtain ⟨⟨cls, dd, data, sl⟩, es, ep, ho, hc, hd⟩ := id hl
  simp only at hc hd
  subst hc hd
  exact rc_eq_decline_or (k := false) ⟨_, ho, rfl⟩ (typeIs_str s b u) (by decide) F.sub_str_dict F.slot_dict_eq F.slot_str_eq_refl
    (fun _ hq => call_meets F.slot_dict_eq ⟨_, ho, rfl⟩ F.entry_dict_eq (F.args_dict_eq_2 _ _) (dict_declines_str l es ep dd sl b u) ⟨ho, hq⟩)
    (fun _ hq => call_meets F.slot_str_eq_refl (typeIs_str s b u) F.entry_str_eq (F.args_str_eq_2 _ _) (str_declines_dict l es ep dd sl b u) ⟨ho, hq⟩)
    (fun _ hq => wpAny_of_eq (rfl : isSame (.ref l) (.str b u) = pure false) hq) (.inr hu) h
theorem RcAt_str_dict {l : Addr} (b : Str) (u : Tok) (hl : IsDct s.heap l) (hu : A.units < cLine) : RcAt A s (.str b u) (.ref l) false := fun prog w E Q h => by
  obtain ⟨⟨cls, dd, data, sl⟩, es, ep, ho, hc, hd⟩ := id hl
  simp only at hc hd
  subst hc hd
  exact rc_eq_decline_or (k := false) (typeIs_str s b u) ⟨_, ho, rfl⟩ (by decide) F.sub_dict_str F.slot_str_eq F.slot_dict_eq_refl
    (fun _ hq => call_meets F.slot_str_eq (typeIs_str s b u) F.entry_str_eq (F.args_str_eq_2 _ _) (str_declines_dict l es ep dd sl b u) ⟨ho, hq⟩)
    (fun _ hq => call_meets F.slot_dict_eq_refl ⟨_, ho, rfl⟩ F.entry_dict_eq (F.args_dict_eq_2 _ _) (dict_declines_str l es ep dd sl b u) ⟨ho, hq⟩)
    (fun _ hq => wpAny_of_eq (rfl : isSame (.str b u) (.ref l) = pure false) hq) (.inr hu) h
theorem EqAt_dict_str {l : Addr} (b : Str) (u : Tok) (hl : IsDct s.heap l) (hu : A.units < cLine) : EqAt A s (.ref l) (.str b u) false := fun prog w E Q h => by
  unfold eqBool
  refine wpAny_holding ?_
  refine wpAny_ite_split (fun hab => absurd (eq_of_beq hab) nofun) (fun _ => ?_)
  exact wpAny_bind (RcAt_dict_str b u hl hu prog w E _ (wpAny_truthy_bool h))
theorem EqAt_str_dict {l : Addr} (b : Str) (u : Tok) (hl : IsDct s.heap l) (hu : A.units < cLine) : EqAt A s (.str b u) (.ref l) false := fun prog w E Q h => by
  unfold eqBool
  refine wpAny_holding ?_
  refine wpAny_ite_split (fun hab => absurd (eq_of_beq hab) nofun) (fun _ => ?_)
  exact wpAny_bind (RcAt_str_dict b u hl hu prog w E _ (wpAny_truthy_bool h))
theorem ne_dict_list {l b : Addr} {items : Array Value} (hl : IsDct s.heap l) (hb : s.heap.IsList b items) : l ≠ b := fun e => by
  subst e
  obtain ⟨o, _, _, ho, hc, _⟩ := hl
  obtain ⟨o2, ho2, hc2, _⟩ := hb
  rw [ho] at ho2
  cases ho2
  rw [hc] at hc2
  exact absurd hc2 (by simp)
theorem RcAt_dict_list {l b : Addr} {items : Array Value} (hl : IsDct s.heap l) (hb : s.heap.IsList b items) (hu : A.units < cLine) : RcAt A s (.ref l) (.ref b) false := fun prog w E Q h => by
  have hne := ne_dict_list hl hb
  obtain ⟨⟨cls, dd, data, sl⟩, es, ep, ho, hc, hd⟩ := id hl
  obtain ⟨⟨cls2, dd2, data2, sl2⟩, ho2, hc2, n2, hd2⟩ := id hb
  simp only at hc hd hc2 hd2
  subst hc hd hc2 hd2
  exact (rc_eq_decline_or (k := false) ⟨_, ho, rfl⟩ ⟨_, ho2, rfl⟩ (by decide) F.sub_list_dict F.slot_dict_eq F.slot_list_eq_refl
    (fun _ hq => call_meets F.slot_dict_eq ⟨_, ho, rfl⟩ F.entry_dict_eq (F.args_dict_eq_2 _ _) (dict_declines_list l b es ep dd dd2 sl sl2 items n2) ⟨ho, ho2, hq⟩)
    (fun _ hq => call_meets F.slot_list_eq_refl ⟨_, ho2, rfl⟩ F.entry_list_eq (F.args_list_eq_2 _ _) (list_declines_dict l b es ep dd dd2 sl sl2 items n2) ⟨ho, ho2, hq⟩)
    (fun _ hq => wpAny_isSame_ref_other hne ho ho2 (by simp) hq) (.inr hu) h)
theorem RcAt_list_dict {l b : Addr} {items : Array Value} (hl : IsDct s.heap l) (hb : s.heap.IsList b items) (hu : A.units < cLine) : RcAt A s (.ref b) (.ref l) false := fun prog w E Q h => by
  have hne := (ne_dict_list hl hb).symm
  obtain ⟨⟨cls, dd, data, sl⟩, es, ep, ho, hc, hd⟩ := id hl
  obtain ⟨⟨cls2, dd2, data2, sl2⟩, ho2, hc2, n2, hd2⟩ := id hb
  simp only at hc hd hc2 hd2
  subst hc hd hc2 hd2
  exact (rc_eq_decline_or (k := false) ⟨_, ho2, rfl⟩ ⟨_, ho, rfl⟩ (by decide) F.sub_dict_list F.slot_list_eq F.slot_dict_eq_refl
    (fun _ hq => call_meets F.slot_list_eq ⟨_, ho2, rfl⟩ F.entry_list_eq (F.args_list_eq_2 _ _) (list_declines_dict l b es ep dd dd2 sl sl2 items n2) ⟨ho, ho2, hq⟩)
    (fun _ hq => call_meets F.slot_dict_eq_refl ⟨_, ho, rfl⟩ F.entry_dict_eq (F.args_dict_eq_2 _ _) (dict_declines_list l b es ep dd dd2 sl sl2 items n2) ⟨ho, ho2, hq⟩)
    (fun _ hq => wpAny_isSame_ref_other' hne ho2 ho (by simp) hq) (.inr hu) h)
theorem EqAt_dict_list {l b : Addr} {items : Array Value} (hl : IsDct s.heap l) (hb : s.heap.IsList b items) (hu : A.units < cLine) : EqAt A s (.ref l) (.ref b) false := .of_refs (ne_dict_list hl hb) (RcAt_dict_list hl hb hu)
theorem EqAt_list_dict {l b : Addr} {items : Array Value} (hl : IsDct s.heap l) (hb : s.heap.IsList b items) (hu : A.units < cLine) : EqAt A s (.ref b) (.ref l) false := .of_refs (ne_dict_list hl hb).symm (RcAt_list_dict hl hb hu)
theorem ne_dict_tuple {l b : Addr} {items : Array Value} (hl : IsDct s.heap l) (hb : s.heap.IsTuple b items) : l ≠ b := fun e => by
  subst e
  obtain ⟨o, _, _, ho, hc, _⟩ := hl
  obtain ⟨o2, ho2, hc2, _⟩ := hb
  rw [ho] at ho2
  cases ho2
  rw [hc] at hc2
  exact absurd hc2 (by simp)
theorem RcAt_dict_tuple {l b : Addr} {items : Array Value} (hl : IsDct s.heap l) (hb : s.heap.IsTuple b items) (hu : A.units < cLine) : RcAt A s (.ref l) (.ref b) false := fun prog w E Q h => by
  have hne := ne_dict_tuple hl hb
  obtain ⟨⟨cls, dd, data, sl⟩, es, ep, ho, hc, hd⟩ := id hl
  obtain ⟨⟨cls2, dd2, data2, sl2⟩, ho2, hc2, n2, hd2⟩ := id hb
  simp only at hc hd hc2 hd2
  subst hc hd hc2 hd2
  exact (rc_eq_decline_or (k := false) ⟨_, ho, rfl⟩ ⟨_, ho2, rfl⟩ (by decide) F.sub_tuple_dict F.slot_dict_eq F.slot_tuple_eq_refl
    (fun _ hq => call_meets F.slot_dict_eq ⟨_, ho, rfl⟩ F.entry_dict_eq (F.args_dict_eq_2 _ _) (dict_declines_tuple l b es ep dd dd2 sl sl2 items n2) ⟨ho, ho2, hq⟩)
    (fun _ hq => call_meets F.slot_tuple_eq_refl ⟨_, ho2, rfl⟩ F.entry_tuple_eq (F.args_tuple_eq_2 _ _) (tuple_declines_dict l b es ep dd dd2 sl sl2 items n2) ⟨ho, ho2, hq⟩)
    (fun _ hq => wpAny_isSame_ref_other hne ho ho2 (by simp) hq) (.inr hu) h)
theorem RcAt_tuple_dict {l b : Addr} {items : Array Value} (hl : IsDct s.heap l) (hb : s.heap.IsTuple b items) (hu : A.units < cLine) : RcAt A s (.ref b) (.ref l) false := fun prog w E Q h => by
  have hne := (ne_dict_tuple hl hb).symm
  obtain ⟨⟨cls, dd, data, sl⟩, es, ep, ho, hc, hd⟩ := id hl
  obtain ⟨⟨cls2, dd2, data2, sl2⟩, ho2, hc2, n2, hd2⟩ := id hb
  simp only at hc hd hc2 hd2
  subst hc hd hc2 hd2
  exact (rc_eq_decline_or (k := false) ⟨_, ho2, rfl⟩ ⟨_, ho, rfl⟩ (by decide) F.sub_dict_tuple F.slot_tuple_eq F.slot_dict_eq_refl
    (fun _ hq => call_meets F.slot_tuple_eq ⟨_, ho2, rfl⟩ F.entry_tuple_eq (F.args_tuple_eq_2 _ _) (tuple_declines_dict l b es ep dd dd2 sl sl2 items n2) ⟨ho, ho2, hq⟩)
    (fun _ hq => call_meets F.slot_dict_eq_refl ⟨_, ho, rfl⟩ F.entry_dict_eq (F.args_dict_eq_2 _ _) (dict_declines_tuple l b es ep dd dd2 sl sl2 items n2) ⟨ho, ho2, hq⟩)
    (fun _ hq => wpAny_isSame_ref_other' hne ho2 ho (by simp) hq) (.inr hu) h)
theorem EqAt_dict_tuple {l b : Addr} {items : Array Value} (hl : IsDct s.heap l) (hb : s.heap.IsTuple b items) (hu : A.units < cLine) : EqAt A s (.ref l) (.ref b) false := .of_refs (ne_dict_tuple hl hb) (RcAt_dict_tuple hl hb hu)
theorem EqAt_tuple_dict {l b : Addr} {items : Array Value} (hl : IsDct s.heap l) (hb : s.heap.IsTuple b items) (hu : A.units < cLine) : EqAt A s (.ref b) (.ref l) false := .of_refs (ne_dict_tuple hl hb).symm (RcAt_tuple_dict hl hb hu)
end
end EQD
set_option Elab.async false
set_option linter.all false
set_option maxRecDepth 100000
set_option maxHeartbeats 4000000
/-! EQB: things of any kind compared one by one: x in a list or tuple, == and != of lists. -/
namespace EQB
open PySem PySem.Spec PyProof.Rows L2
open EQD
theorem relV_inj {x y : V} {u : Value} (h : RelV x u) (h' : RelV y u) : x = y := by
  cases x <;> cases y <;> simp only [L2.RelV] at h h' <;> grind
section
variable {X : Cx}
/-- y == x tells b, and changes nothing -/
def EqB (X : Cx) (y x : V) (H : Hp) (b : Bool) : Prop := ∀ (pins : List (Addr × Obj)) (σ : L2.St) (s : Shared) (v u : Value) (A : Around), Inv X pins σ H s → RelV y v → RelV x u → A.units + 64 < cLine → SeqAt.EqAt A s v u b
theorem EqB.dp {y x : V} {H : Hp} {d e : PyData} (hy : Dp X.K H y d) (hx : Dp X.K H x e) (sd : SeqAt.shaped d = true) (se : SeqAt.shaped e = true) : EqB X y x H (PyData.eqv d e) := fun pins σ s v u A I ry rx hu => by
  obtain ⟨as, r1⟩ := Dp.reads I d y v hy ry
  obtain ⟨bs, r2⟩ := Dp.reads I e x u hx rx
  exact SeqAt.eqAt_reads d e A s v u as bs r1 r2 (SeqAt.canLay_of_shaped sd) (SeqAt.canLay_of_shaped se) (SeqAt.room_of_shaped sd hu)
theorem isDct {pins : List (Addr × Obj)} {σ : L2.St} {s : Shared} {H : Hp} {a : Addr} {kvs : List (Key × V)} (I : Inv X pins σ H s) (h : H a = some (.dK kvs)) : IsDct s.heap a := by
  obtain ⟨_, _, _, _, o, es, ep, e, x, d, _⟩ := I.hok a _ h
  exact ⟨o, es, ep, e, x.1, d⟩
/-- a dict is no data else -/
theorem EqB.dctR {y : V} {a : Addr} {H : Hp} {d : PyData} {kvs : List (Key × V)} (hy : Dp X.K H y d) (h : H a = some (.dK kvs)) : EqB X y (.ref a) H false := fun pins σ s v u A I ry rx hu => by
  have D := isDct I h
  have hu0 : A.units < cLine := by omega
  cases (show u = Value.ref a from rx)
  cases hy with
  | non => cases ry; exact EqAt_none_dict D hu0
  | bl b => cases ry; exact EqAt_bool_dict b D hu0
  | int i => obtain ⟨t, rfl⟩ := ry; exact EqAt_int_dict i t D hu0
  | str z => obtain ⟨t, rfl⟩ := ry; exact EqAt_str_dict z t D hu0
  | lst hs _ =>
    cases ry
    obtain ⟨its, _, ⟨o, n, ho, hc, _, hd⟩, _⟩ := I.list hs
    exact EqAt_list_dict D ⟨o, ho, hc, n, hd⟩ hu0
  | tup hs _ =>
    cases ry
    obtain ⟨its, _, ⟨o, ho, hc, n, hd⟩, _⟩ := I.tuple hs
    exact EqAt_tuple_dict D ⟨o, ho, hc, n, hd⟩ hu0
theorem EqB.dctL {x : V} {a : Addr} {H : Hp} {d : PyData} {kvs : List (Key × V)} (hx : Dp X.K H x d) (h : H a = some (.dK kvs)) : EqB X (.ref a) x H false := fun pins σ s v u A I ry rx hu => by
  have D := isDct I h
  have hu0 : A.units < cLine := by omega
  cases (show v = Value.ref a from ry)
  cases hx with
  | non => cases rx; exact EqAt_dict_none D hu0
  | bl b => cases rx; exact EqAt_dict_bool b D hu0
  | int i => obtain ⟨t, rfl⟩ := rx; exact EqAt_dict_int i t D hu0
  | str z => obtain ⟨t, rfl⟩ := rx; exact EqAt_dict_str z t D hu0
  | lst hs _ =>
    cases rx
    obtain ⟨its, _, ⟨o, n, ho, hc, _, hd⟩, _⟩ := I.list hs
    exact EqAt_dict_list D ⟨o, ho, hc, n, hd⟩ hu0
  | tup hs _ =>
    cases rx
    obtain ⟨its, _, ⟨o, ho, hc, n, hd⟩, _⟩ := I.tuple hs
    exact EqAt_dict_tuple D ⟨o, ho, hc, n, hd⟩ hu0
/-- x in a list or a tuple -/
def rInB (X : Cx) (neg : Bool) : R2 := fun x y H Q => ∃ (p : Addr) (ys : List V) (e : V → Bool), y = .ref p ∧ (SqL X.K H p ys ∨ SqT X.K H p ys) ∧ (∀ z ∈ ys, EqB X z x H (e z)) ∧ Q (.bl (if neg = true then !ys.any e else ys.any e)) H
open Classical in
noncomputable def eOf (ys : List V) (e : V → Bool) (u : Value) : Bool := if h : ∃ z, z ∈ ys ∧ RelV z u then e h.choose else false
theorem eOf_eq {ys : List V} {e : V → Bool} {z : V} {u : Value} (hz : z ∈ ys) (r : RelV z u) : eOf ys e u = e z := by
  have h : ∃ z, z ∈ ys ∧ RelV z u := ⟨z, hz, r⟩
  unfold eOf
  rw [dif_pos h, relV_inj h.choose_spec.2 r]
theorem any_eOf {ws : List V} {e : V → Bool} : ∀ {ys : List V} {its : List Value}, (∀ z ∈ ys, z ∈ ws) → Vals ys its → its.any (eOf ws e) = ys.any e
  | [], _, _, .nil => rfl
  | z :: ys, _, hs, .cons r t => by
    rw [List.any_cons, List.any_cons, eOf_eq (hs z List.mem_cons_self) r, any_eOf (fun x hx => hs x (List.mem_cons_of_mem _ hx)) t]
theorem vals_mem {ys : List V} {its : List Value} (r : Vals ys its) {u : Value} (hu : u ∈ its) : ∃ z, z ∈ ys ∧ RelV z u := by
  induction r with
  | nil => cases hu
  | cons r t ih =>
    rcases List.mem_cons.mp hu with rfl | hu
    · exact ⟨_, List.mem_cons_self, r⟩
    · obtain ⟨z, hz, q⟩ := ih hu
      exact ⟨z, List.mem_cons_of_mem _ hz, q⟩
theorem op_inB (hu : X.A.units + 65 < cLine) : OpR X (compareOp .In) (rInB X false) := by
  intro pins s σ H x y v u Q I rx ry h
  obtain ⟨p, ys, e, rfl, hs, he, q⟩ := h
  cases (show u = Value.ref p from ry)
  have go : ∀ {its : List Value}, Vals ys its → (∀ w, w ∈ its.toArray → SeqAt.EqAt X.A.in1 s w v (eOf ys e w)) := fun {its} r w hw => by
    obtain ⟨z, hz, rz⟩ := vals_mem r (by simpa using hw)
    rw [eOf_eq hz rz]
    exact he z hz pins σ s w v X.A.in1 I rz rx (by show X.A.units + 1 + 64 < cLine; omega)
  rcases hs with hs | hs
  · obtain ⟨its, r, ⟨o, n, ho, hc, _, hd⟩, _⟩ := I.list hs
    refine SeqAt.in_listAt (eOf ys e) ⟨o, ho, hc, n, hd⟩ (go r) ⟨.bl _, H, I, rfl, ?_⟩
    rw [List.any_toArray, any_eOf (fun _ h => h) r]
    exact q
  · obtain ⟨its, r, ⟨o, ho, hc, n, hd⟩, _⟩ := I.tuple hs
    refine SeqAt.in_tupleAt (eOf ys e) ⟨o, ho, hc, n, hd⟩ (go r) ⟨.bl _, H, I, rfl, ?_⟩
    rw [List.any_toArray, any_eOf (fun _ h => h) r]
    exact q
theorem op_notInB (hu : X.A.units + 65 < cLine) : OpR X (compareOp .NotIn) (rInB X true) := by
  intro pins s σ H x y v u Q I rx ry h
  obtain ⟨p, ys, e, rfl, hs, he, q⟩ := h
  cases (show u = Value.ref p from ry)
  have go : ∀ {its : List Value}, Vals ys its → (∀ w, w ∈ its.toArray → SeqAt.EqAt X.A.in1 s w v (eOf ys e w)) := fun {its} r w hw => by
    obtain ⟨z, hz, rz⟩ := vals_mem r (by simpa using hw)
    rw [eOf_eq hz rz]
    exact he z hz pins σ s w v X.A.in1 I rz rx (by show X.A.units + 1 + 64 < cLine; omega)
  rcases hs with hs | hs
  · obtain ⟨its, r, ⟨o, n, ho, hc, _, hd⟩, _⟩ := I.list hs
    refine SeqAt.notIn_listAt (eOf ys e) ⟨o, ho, hc, n, hd⟩ (go r) ⟨.bl _, H, I, rfl, ?_⟩
    rw [List.any_toArray, any_eOf (fun _ h => h) r]
    exact q
  · obtain ⟨its, r, ⟨o, ho, hc, n, hd⟩, _⟩ := I.tuple hs
    refine SeqAt.notIn_tupleAt (eOf ys e) ⟨o, ho, hc, n, hd⟩ (go r) ⟨.bl _, H, I, rfl, ?_⟩
    rw [List.any_toArray, any_eOf (fun _ h => h) r]
    exact q
/-- two lists: of unlike lengths, or compared item by item -/
inductive EqL (X : Cx) (H : Hp) : List V → List V → Bool → Prop
  | len {xs ys : List V} : xs.length ≠ ys.length → EqL X H xs ys false
  | all {xs ys : List V} {e : Nat → Bool} : xs.length = ys.length → (∀ i x y, xs[i]? = some x → ys[i]? = some y → EqB X x y H (e i)) → EqL X H xs ys ((List.range xs.length).all e)
/-- == and != of two lists -/
def rLsB (X : Cx) (neg : Bool) : R2 := fun x y H Q => ∃ (p q : Addr) (xs ys : List V) (b : Bool), x = .ref p ∧ y = .ref q ∧ p ≠ q ∧ SqL X.K H p xs ∧ SqL X.K H q ys ∧ EqL X H xs ys b ∧ Q (.bl (if neg = true then !b else b)) H
theorem items {pins : List (Addr × Obj)} {σ : L2.St} {s : Shared} {H : Hp} {xs ys : List V} {e : Nat → Bool} {its js : List Value} {A : Around} (I : Inv X pins σ H s) (r1 : Vals xs its) (r2 : Vals ys js) (hu : A.units + 64 < cLine) (he : ∀ i x y, xs[i]? = some x → ys[i]? = some y → EqB X x y H (e i)) :
    ∀ j (h1 : j < its.toArray.size) (h2 : j < js.toArray.size), SeqAt.EqAt A s its.toArray[j] js.toArray[j] (e j) := fun j h1 h2 => by
  have l1 := r1.length
  have l2 := r2.length
  have h1' : j < xs.length := by rw [l1]; simpa using h1
  have h2' : j < ys.length := by rw [l2]; simpa using h2
  obtain ⟨u1, e1, q1⟩ := r1.get (List.getElem?_eq_getElem h1')
  obtain ⟨u2, e2, q2⟩ := r2.get (List.getElem?_eq_getElem h2')
  have f1 : its.toArray[j] = u1 := by
    have := (List.getElem?_eq_some_iff.mp e1).2
    simpa using this
  have f2 : js.toArray[j] = u2 := by
    have := (List.getElem?_eq_some_iff.mp e2).2
    simpa using this
  rw [f1, f2]
  exact he j _ _ (List.getElem?_eq_getElem h1') (List.getElem?_eq_getElem h2') pins σ s u1 u2 A I q1 q2 hu
theorem op_eqL (hu : X.A.units + 65 < cLine) : OpR X (compareOp .Eq) (rLsB X false) := by
  intro pins s σ H x y v u Q I rx ry h
  obtain ⟨p, q, xs, ys, b, rfl, rfl, pq, hp, hq, eb, k⟩ := h
  cases (show v = Value.ref p from rx)
  cases (show u = Value.ref q from ry)
  obtain ⟨its, r1, ⟨o, n, ho, hc, _, hd⟩, _⟩ := I.list hp
  obtain ⟨js, r2, ⟨o2, n2, ho2, hc2, _, hd2⟩, _⟩ := I.list hq
  have L1 : s.heap.IsList p its.toArray := ⟨o, ho, hc, n, hd⟩
  have L2' : s.heap.IsList q js.toArray := ⟨o2, ho2, hc2, n2, hd2⟩
  have l1 := r1.length
  have l2 := r2.length
  show wpAny _ _ (richCompare .Eq (.ref p) (.ref q)) _ _ _
  cases eb with
  | len hne => exact SeqAt.RcAt.lists_lengths L1 L2' (by simp; omega) (by omega) _ _ _ _ ⟨.bl _, H, I, rfl, k⟩
  | @all e hl he =>
    have hz : its.toArray.size = js.toArray.size := by simp; omega
    refine SeqAt.RcAt.lists L1 L2' hz (by omega) (items (A := X.A.in1) I r1 r2 (by show X.A.units + 1 + 64 < cLine; omega) he) _ _ _ _ ⟨.bl _, H, I, rfl, ?_⟩
    have : its.toArray.size = xs.length := by simp; omega
    rw [this]
    exact k
theorem op_neL (hu : X.A.units + 65 < cLine) : OpR X (compareOp .NotEq) (rLsB X true) := by
  intro pins s σ H x y v u Q I rx ry h
  obtain ⟨p, q, xs, ys, b, rfl, rfl, pq, hp, hq, eb, k⟩ := h
  cases (show v = Value.ref p from rx)
  cases (show u = Value.ref q from ry)
  obtain ⟨its, r1, ⟨o, n, ho, hc, _, hd⟩, _⟩ := I.list hp
  obtain ⟨js, r2, ⟨o2, n2, ho2, hc2, _, hd2⟩, _⟩ := I.list hq
  have L1 : s.heap.IsList p its.toArray := ⟨o, ho, hc, n, hd⟩
  have L2' : s.heap.IsList q js.toArray := ⟨o2, ho2, hc2, n2, hd2⟩
  have l1 := r1.length
  have l2 := r2.length
  show wpAny _ _ (richCompare .NotEq (.ref p) (.ref q)) _ _ _
  cases eb with
  | len hne => exact SeqAt.RcNeAt.lists_lengths L1 L2' (by simp; omega) (by omega) _ _ _ _ ⟨.bl _, H, I, rfl, k⟩
  | @all e hl he =>
    have hz : its.toArray.size = js.toArray.size := by simp; omega
    refine SeqAt.RcNeAt.lists L1 L2' hz (by omega) (items (A := X.A.in1) I r1 r2 (by show X.A.units + 1 + 64 < cLine; omega) he) _ _ _ _ ⟨.bl _, H, I, rfl, ?_⟩
    have : its.toArray.size = xs.length := by simp; omega
    rw [this]
    exact k
end
end EQB
set_option Elab.async false
set_option linter.all false
set_option maxRecDepth 100000
set_option maxHeartbeats 4000000
/-! THI: THG with the type of each thing, and the text that it is: things of many kinds (None, a bool, a number, a text, lists, tuples, dicts), each with its repr's text. -/
namespace THI
open PySem PySem.Spec PyProof.Rows L2
open Builtin Builtin.List
/-- is it a whole number, a bool, or else -/
inductive Kn where
  | whole (i : Int)
  | flag (b : Bool)
  | text (s : Str)
  | non
  | lst
  | tup
  | dct
def Kn.tyn : Kn → String
  | .whole _ => "int"
  | .flag _ => "bool"
  | .text _ => "str"
  | .non => "NoneType"
  | .lst => "list"
  | .tup => "tuple"
  | .dct => "dict"
def Kn.eqI : Kn → Int → Bool
  | .whole j, i => decide (i = j)
  | .flag b, i => decide (i = if b then 1 else 0)
  | _, _ => false
def Kn.isInt : Kn → Bool
  | .whole _ => true
  | .flag _ => true
  | _ => false
def Kn.isFlag : Kn → Bool
  | .flag _ => true
  | _ => false
def Kn.isStr : Kn → Bool
  | .text _ => true
  | _ => false
def Kn.isLst : Kn → Bool
  | .lst => true
  | _ => false
def Kn.isTup : Kn → Bool
  | .tup => true
  | _ => false
theorem Kn.kInt {K : PySem.W.Frag} (k : Kn) : PySem.W.kitOne K (.type k.tyn) (.type "int") = some k.isInt :=
  match k with
  | .whole i => (kit_ty (by decide +kernel) : PySem.W.kitOne K (.type "int") (.type "int") = some true)
  | .flag b => (kit_ty (by decide +kernel) : PySem.W.kitOne K (.type "bool") (.type "int") = some true)
  | .text s => (kit_ty (by decide +kernel) : PySem.W.kitOne K (.type "str") (.type "int") = some false)
  | .non => (kit_ty (by decide +kernel) : PySem.W.kitOne K (.type "NoneType") (.type "int") = some false)
  | .lst => (kit_ty (by decide +kernel) : PySem.W.kitOne K (.type "list") (.type "int") = some false)
  | .tup => (kit_ty (by decide +kernel) : PySem.W.kitOne K (.type "tuple") (.type "int") = some false)
  | .dct => (kit_ty (by decide +kernel) : PySem.W.kitOne K (.type "dict") (.type "int") = some false)
theorem Kn.kFlag {K : PySem.W.Frag} (k : Kn) : PySem.W.kitOne K (.type k.tyn) (.type "bool") = some k.isFlag :=
  match k with
  | .whole i => (kit_ty (by decide +kernel) : PySem.W.kitOne K (.type "int") (.type "bool") = some false)
  | .flag b => (kit_ty (by decide +kernel) : PySem.W.kitOne K (.type "bool") (.type "bool") = some true)
  | .text s => (kit_ty (by decide +kernel) : PySem.W.kitOne K (.type "str") (.type "bool") = some false)
  | .non => (kit_ty (by decide +kernel) : PySem.W.kitOne K (.type "NoneType") (.type "bool") = some false)
  | .lst => (kit_ty (by decide +kernel) : PySem.W.kitOne K (.type "list") (.type "bool") = some false)
  | .tup => (kit_ty (by decide +kernel) : PySem.W.kitOne K (.type "tuple") (.type "bool") = some false)
  | .dct => (kit_ty (by decide +kernel) : PySem.W.kitOne K (.type "dict") (.type "bool") = some false)
theorem Kn.kStr {K : PySem.W.Frag} (k : Kn) : PySem.W.kitOne K (.type k.tyn) (.type "str") = some k.isStr :=
  match k with
  | .whole i => (kit_ty (by decide +kernel) : PySem.W.kitOne K (.type "int") (.type "str") = some false)
  | .flag b => (kit_ty (by decide +kernel) : PySem.W.kitOne K (.type "bool") (.type "str") = some false)
  | .text s => (kit_ty (by decide +kernel) : PySem.W.kitOne K (.type "str") (.type "str") = some true)
  | .non => (kit_ty (by decide +kernel) : PySem.W.kitOne K (.type "NoneType") (.type "str") = some false)
  | .lst => (kit_ty (by decide +kernel) : PySem.W.kitOne K (.type "list") (.type "str") = some false)
  | .tup => (kit_ty (by decide +kernel) : PySem.W.kitOne K (.type "tuple") (.type "str") = some false)
  | .dct => (kit_ty (by decide +kernel) : PySem.W.kitOne K (.type "dict") (.type "str") = some false)
theorem Kn.kLst {K : PySem.W.Frag} (k : Kn) : PySem.W.kitOne K (.type k.tyn) (.type "list") = some k.isLst :=
  match k with
  | .whole i => (kit_ty (by decide +kernel) : PySem.W.kitOne K (.type "int") (.type "list") = some false)
  | .flag b => (kit_ty (by decide +kernel) : PySem.W.kitOne K (.type "bool") (.type "list") = some false)
  | .text s => (kit_ty (by decide +kernel) : PySem.W.kitOne K (.type "str") (.type "list") = some false)
  | .non => (kit_ty (by decide +kernel) : PySem.W.kitOne K (.type "NoneType") (.type "list") = some false)
  | .lst => (kit_ty (by decide +kernel) : PySem.W.kitOne K (.type "list") (.type "list") = some true)
  | .tup => (kit_ty (by decide +kernel) : PySem.W.kitOne K (.type "tuple") (.type "list") = some false)
  | .dct => (kit_ty (by decide +kernel) : PySem.W.kitOne K (.type "dict") (.type "list") = some false)
theorem Kn.kTup {K : PySem.W.Frag} (k : Kn) : PySem.W.kitOne K (.type k.tyn) (.type "tuple") = some k.isTup :=
  match k with
  | .whole i => (kit_ty (by decide +kernel) : PySem.W.kitOne K (.type "int") (.type "tuple") = some false)
  | .flag b => (kit_ty (by decide +kernel) : PySem.W.kitOne K (.type "bool") (.type "tuple") = some false)
  | .text s => (kit_ty (by decide +kernel) : PySem.W.kitOne K (.type "str") (.type "tuple") = some false)
  | .non => (kit_ty (by decide +kernel) : PySem.W.kitOne K (.type "NoneType") (.type "tuple") = some false)
  | .lst => (kit_ty (by decide +kernel) : PySem.W.kitOne K (.type "list") (.type "tuple") = some false)
  | .tup => (kit_ty (by decide +kernel) : PySem.W.kitOne K (.type "tuple") (.type "tuple") = some true)
  | .dct => (kit_ty (by decide +kernel) : PySem.W.kitOne K (.type "dict") (.type "tuple") = some false)
/-- all but tables stay -/
def SN (H H' : Hp) : Prop := ∀ b o, H b = some o → (∀ ps, o ≠ .tbl ps) → H' b = some o
theorem SN.of {H H' : Hp} (s : Same H H') : SN H H' := fun b o e _ => s b o e
theorem SN.up {H0 H H' : Hp} (s : Same H0 H) (s1 : SN H H') : SN H0 H' := fun b o e n => s1 b o (s b o e) n
theorem SN.trans {H0 H H' : Hp} (s : SN H0 H) (s1 : SN H H') : SN H0 H' := fun b o e n => s1 b o (s b o e n) n
/-- no cell but a table's -/
def NT (H : Hp) (a : Addr) : Prop := ∀ v, H a = some v → ∃ ps, v = .tbl ps
theorem NT.of {H : Hp} {a : Addr} (h : H a = none) : NT H a := fun v e => by
  rw [h] at e
  cases e
theorem NT.up {H H' : Hp} {a : Addr} (s : SN H H') (h : NT H' a) : NT H a := fun v e => Classical.byContradiction fun n => n (h v (s a v e fun ps z => n ⟨ps, z⟩))
/-- data, with its repr's text -/
structure Dt (H : Hp) (x : V) (y : PyData) (t : Str) (n : Nat) : Prop where
  dpN : ∀ K H1, SN H H1 → Dp K H1 x y
  rpN : ∀ X outs H1, SN H H1 → (∀ o ∈ outs, NT H o) → RPO.RpU X n outs H1 x t
inductive DtAll (H : Hp) : List V → List PyData → List Str → Nat → Prop
  | nil {n : Nat} : DtAll H [] [] [] n
  | cons {x : V} {y : PyData} {t : Str} {xs : List V} {ys : List PyData} {ts : List Str} {n : Nat} : Dt H x y t n → DtAll H xs ys ts n → DtAll H (x :: xs) (y :: ys) (t :: ts) n
theorem none_up {H H' : Hp} {o : Addr} (s : Same H H') (h : H' o = none) : H o = none := by
  cases e : H o with
  | none => rfl
  | some z =>
    rw [s _ _ e] at h
    cases h
theorem Dt.same {H H' : Hp} {x : V} {y : PyData} {t : Str} {n : Nat} (h : Dt H x y t n) (s : Same H H') : Dt H' x y t n :=
  ⟨fun K H1 s1 => h.dpN K H1 (SN.up s s1), fun X outs H1 s1 ho => h.rpN X outs H1 (SN.up s s1) fun o q => NT.up (SN.of s) (ho o q)⟩
theorem Dt.mono {H : Hp} {x : V} {y : PyData} {t : Str} {n m : Nat} (h : Dt H x y t n) (nm : n ≤ m) : Dt H x y t m :=
  ⟨h.dpN, fun X outs H1 s1 ho => (h.rpN X outs H1 s1 ho).mono nm⟩
theorem DtAll.dp {H H1 : Hp} {K : PySem.W.Frag} (s : SN H H1) : ∀ {xs : List V} {ys : List PyData} {ts : List Str} {n : Nat}, DtAll H xs ys ts n → DpAll K H1 xs ys
  | _, _, _, _, .nil => .nil
  | _, _, _, _, .cons a b => .cons (a.dpN _ _ s) (DtAll.dp s b)
theorem DtAll.rp {H H1 : Hp} {X : Cx} {outs : List Addr} (s : SN H H1) (ho : ∀ o ∈ outs, NT H o) : ∀ {xs : List V} {ys : List PyData} {ts : List Str} {n : Nat}, DtAll H xs ys ts n → RPO.RpAll X n outs H1 xs ts
  | _, _, _, _, .nil => .nil
  | _, _, _, _, .cons a b => .cons (a.rpN _ _ _ s ho) (DtAll.rp s ho b)
/-- nothing is there -/
def N0 : Hp := fun _ => none
theorem s0 (H : Hp) : Same N0 H := fun _ _ e => nomatch e
theorem Dt.non {n : Nat} : Dt N0 .non .none "None" n := ⟨fun _ _ _ => .non, fun _ _ _ _ _ => .non⟩
theorem Dt.bl {n : Nat} (b : Bool) : Dt N0 (.bl b) (.bool b) (if b then "True" else "False") n := ⟨fun _ _ _ => .bl b, fun _ _ _ _ _ => .bl⟩
theorem Dt.int {n : Nat} {i : Int} (h : i.natAbs.log2 < 1920) : Dt N0 (.int i) (.int i) (toString i) n := ⟨fun _ _ _ => .int i, fun _ _ _ _ _ => .int h⟩
theorem Dt.str {n : Nat} (z : Str) : Dt N0 (.str z) (.str z) (reprText z) n := ⟨fun _ _ _ => .str z, fun _ _ _ _ _ => .str⟩
section
variable {H0 H : Hp} {a : Addr} {xs : List V} {ys : List PyData} {ts : List Str} {n : Nat}
theorem out_of {H : Hp} {a : Addr} {o : HO} {outs : List Addr} (h : H a = some o) (nt : ∀ ps, o ≠ .tbl ps) (ho : ∀ o ∈ outs, NT H o) : a ∉ outs := fun z => by
  obtain ⟨ps, e⟩ := ho a z _ h
  exact nt ps e
theorem SN.tup {H1 : Hp} (s : SN H H1) (h : H a = some (.tup xs)) : H1 a = some (.tup xs) := s _ _ h fun _ z => nomatch z
theorem SN.lst {H1 : Hp} (s : SN H H1) (h : H a = some (.lst xs)) : H1 a = some (.lst xs) := s _ _ h fun _ z => nomatch z
theorem SN.dK {H1 : Hp} {kvs : List (Key × V)} (s : SN H H1) (h : H a = some (.dK kvs)) : H1 a = some (.dK kvs) := s _ _ h fun _ z => nomatch z
theorem Dt.tup (h : H a = some (.tup xs)) (hs : DtAll H0 xs ys ts n) (s : Same H0 H) (z : H0 a = none) : Dt H (.ref a) (.tuple ys) (tupleText ts) (n + 1) :=
  ⟨fun K H1 s1 => .tup (SqT.of (s1.tup h)) (hs.dp (SN.up s s1)), fun X outs H1 s1 ho => .tup (s1.tup h) (out_of h (fun _ z => nomatch z) ho) (hs.rp (SN.up s s1) fun o q => by
    rcases List.mem_cons.mp q with rfl | q
    · exact NT.of z
    · exact NT.up (SN.of s) (ho o q))⟩
theorem Dt.list (h : H a = some (.lst xs)) (hx : xs ≠ []) (hs : DtAll H0 xs ys ts n) (s : Same H0 H) (z : H0 a = none) : Dt H (.ref a) (.list ys) (listText ts) (n + 1) :=
  ⟨fun K H1 s1 => .lst (SqL.of (s1.lst h)) (hs.dp (SN.up s s1)), fun X outs H1 s1 ho => .list (s1.lst h) (out_of h (fun _ z => nomatch z) ho) hx (hs.rp (SN.up s s1) fun o q => by
    rcases List.mem_cons.mp q with rfl | q
    · exact NT.of z
    · exact NT.up (SN.of s) (ho o q))⟩
theorem Dt.list0 (h : H a = some (.lst [])) : Dt H (.ref a) (.list []) "[]" n :=
  ⟨fun K H1 s1 => .lst (SqL.of (s1.lst h)) .nil, fun X outs H1 s1 ho => .list0 (s1.lst h) (out_of h (fun _ z => nomatch z) ho)⟩
end
/-- a thing -/
structure Thg (H : Hp) (x : V) (k : Kn) (t : Str) (n : Nat) : Prop where
  eqN : ∀ X H1, SN H H1 → ∀ i : Int, EQB.EqB X (.int i) x H1 (k.eqI i)
  rpN : ∀ X outs H1, SN H H1 → (∀ o ∈ outs, NT H o) → RPO.RpU X n outs H1 x t
  tyN : ∀ K H1, SN H H1 → TyX K H1 x (.type k.tyn)
  val : ∀ i, k = .whole i → x = .int i
  flg : ∀ b, k = .flag b → x = .bl b
  txt : ∀ s, k = .text s → x = .str s
  len : t.length ≤ 100
section
variable {H H' : Hp} {x : V} {k : Kn} {t : Str} {n : Nat}
theorem Thg.eq (h : Thg H x k t n) (X : Cx) (H1 : Hp) (s : Same H H1) (i : Int) : EQB.EqB X (.int i) x H1 (k.eqI i) := h.eqN X H1 (SN.of s) i
theorem Thg.rp (h : Thg H x k t n) (X : Cx) (outs : List Addr) (H1 : Hp) (s : Same H H1) (ho : ∀ o ∈ outs, H o = none) : RPO.RpU X n outs H1 x t := h.rpN X outs H1 (SN.of s) fun o q => NT.of (ho o q)
theorem Thg.ty (h : Thg H x k t n) (K : PySem.W.Frag) (H1 : Hp) (s : Same H H1) : ∃ ty : String, TyX K H1 x (.type ty) ∧ PySem.W.kitOne K (.type ty) (.type "int") = some k.isInt ∧ PySem.W.kitOne K (.type ty) (.type "bool") = some k.isFlag := ⟨k.tyn, h.tyN K H1 (SN.of s), k.kInt, k.kFlag⟩
theorem Thg.same (h : Thg H x k t n) (s : Same H H') : Thg H' x k t n :=
  ⟨fun X H1 s1 => h.eqN X H1 (SN.up s s1), fun X outs H1 s1 ho => h.rpN X outs H1 (SN.up s s1) fun o q => NT.up (SN.of s) (ho o q), fun K H1 s1 => h.tyN K H1 (SN.up s s1), h.val, h.flg, h.txt, h.len⟩
theorem Thg.mono {m : Nat} (h : Thg H x k t n) (nm : n ≤ m) : Thg H x k t m := ⟨h.eqN, fun X outs H1 s1 ho => (h.rpN X outs H1 s1 ho).mono nm, h.tyN, h.val, h.flg, h.txt, h.len⟩
theorem Thg.of {y : PyData} (d : Dt H x y t n) (sh : SeqAt.shaped y = true) (e : ∀ i : Int, PyData.eqv (.int i) y = k.eqI i) (ty : ∀ K H1, SN H H1 → TyX K H1 x (.type k.tyn))
    (val : ∀ i, k = .whole i → x = .int i) (flg : ∀ b, k = .flag b → x = .bl b) (txt : ∀ s, k = .text s → x = .str s) (len : t.length ≤ 100) : Thg H x k t n :=
  ⟨fun X H1 s i => by
    rw [← e i]
    exact EQB.EqB.dp (.int i) (d.dpN _ _ s) rfl sh, d.rpN, ty, val, flg, txt, len⟩
theorem Thg.int {i : Int} (h : i.natAbs.log2 < 1920) (l : ((toString i : String) : Str).length ≤ 100) : Thg N0 (.int i) (.whole i) (toString i) n :=
  .of (Dt.int h) rfl (fun j => by rw [Bool.eq_iff_iff]; simp [PyData.eqv, Kn.eqI]) (fun K H1 _ => .base (.int i)) (fun j e => by cases e; rfl) (fun b e => by cases e) (fun s e => by cases e) l
theorem Thg.bl (b : Bool) : Thg N0 (.bl b) (.flag b) (if b then "True" else "False") n :=
  .of (Dt.bl b) rfl (fun j => by rw [Bool.eq_iff_iff]; cases b <;> simp [PyData.eqv, Kn.eqI]) (fun K H1 _ => .base (.bl b)) (fun j e => by cases e) (fun c e => by cases e; rfl) (fun s e => by cases e) (by cases b <;> decide)
theorem Thg.non : Thg N0 .non .non "None" n :=
  .of Dt.non rfl (fun j => by simp [PyData.eqv, Kn.eqI]) (fun K H1 _ => .base .non) (fun j e => by cases e) (fun b e => by cases e) (fun s e => by cases e) (by decide)
theorem Thg.str (z : Str) (ok : PyData.strOk z = true) (l : (reprText z).length ≤ 100) : Thg N0 (.str z) (.text z) (reprText z) n :=
  .of (Dt.str z) (by simp [SeqAt.shaped, PyData.canLay0, PyData.depth, ok]) (fun j => by simp [PyData.eqv, Kn.eqI]) (fun K H1 _ => .base (.str z)) (fun j e => by cases e) (fun b e => by cases e) (fun s e => by cases e; rfl) l
theorem Thg.lst {a : Addr} {xs : List V} {ys : List PyData} (h : H a = some (.lst xs)) (d : Dt H (.ref a) (.list ys) t n) (sh : SeqAt.shaped (.list ys) = true) (l : t.length ≤ 100) : Thg H (.ref a) .lst t n :=
  .of d sh (fun j => by simp [PyData.eqv, Kn.eqI]) (fun K H1 s => .base (.lst (s.lst h))) (fun j e => by cases e) (fun b e => by cases e) (fun s e => by cases e) l
theorem Thg.tup {a : Addr} {xs : List V} {ys : List PyData} (h : H a = some (.tup xs)) (d : Dt H (.ref a) (.tuple ys) t n) (sh : SeqAt.shaped (.tuple ys) = true) (l : t.length ≤ 100) : Thg H (.ref a) .tup t n :=
  .of d sh (fun j => by simp [PyData.eqv, Kn.eqI]) (fun K H1 s => .base (.tup (s.tup h))) (fun j e => by cases e) (fun b e => by cases e) (fun s e => by cases e) l
theorem Thg.dct {a : Addr} {kvs : List (Key × V)} {ps : List Str} (h : H a = some (.dK kvs)) (es : ∀ X outs H1, RPO.RpEnt X n (a :: outs) H1 kvs ps) (l : (dictText ps).length ≤ 100) : Thg H (.ref a) .dct (dictText ps) (n + 1) :=
  ⟨fun X H1 s i => EQB.EqB.dctR (.int i) (s.dK h), fun X outs H1 s ho => .dct (s.dK h) (out_of h (fun _ z => nomatch z) ho) (es X outs H1), fun K H1 s => .base (.dK (s.dK h)), fun j e => (by cases e), fun b e => (by cases e), fun s e => (by cases e), l⟩
end
open Classical in
/-- all but some cells -/
noncomputable def out (q : Addr → Prop) (H : Hp) : Hp := fun a => if q a then none else H a
section
variable {q : Addr → Prop} {H H' : Hp} {a : Addr}
theorem out_le : Same (out q H) H := fun a o e => by
  unfold out at e
  by_cases c : q a
  · rw [if_pos c] at e
    cases e
  · rw [if_neg c] at e
    exact e
theorem out_not {o : HO} (e : out q H a = some o) : ¬ q a := fun c => by
  unfold out at e
  rw [if_pos c] at e
  cases e
theorem out_at {o : HO} (e : H a = some o) (n : ¬ q a) : out q H a = some o := by
  unfold out
  rw [if_neg n]
  exact e
theorem out_none (e : H a = none) : out q H a = none := by
  unfold out
  rw [e, ite_self]
theorem out_kp (k : ∀ b o, H b = some o → ¬ q b → H' b = some o) : Same (out q H) (out q H') := fun a o e => out_at (k a o (out_le a o e) (out_not e)) (out_not e)
theorem out_same (s : Same H H') : Same (out q H) (out q H') := out_kp fun b o e _ => s b o e
theorem out_ne (e : H a = none) (n : ∀ b, q b → H b ≠ none) : ¬ q a := fun z => n a z e
theorem same_some (s : Same H H') (n : ∀ b, q b → H b ≠ none) : ∀ b, q b → H' b ≠ none := fun b c z => n b c (none_up s z)
end
/-- x in a list or a tuple, within a comprehension too -/
def rInA (K : PySem.W.Frag) (neg : Bool) : R2 := fun x y H Q => ∃ (p : Addr) (ys : List V) (e : V → Bool), y = .ref p ∧ (SqL K H p ys ∨ SqT K H p ys) ∧ (∀ X : Cx, X.K = K → ∀ z ∈ ys, EQB.EqB X z x H (e z)) ∧ Q (.bl (if neg = true then !(ys.any e) else ys.any e)) H
theorem op_inA {X : Cx} {K : PySem.W.Frag} (hX : X.K = K) (hu : X.A.units + 65 < cLine) : OpR X (compareOp .In) (rInA K false) := fun pins s σ H x y v u Q I rx ry ⟨p, ys, e, ey, hs, he, q⟩ => by
  subst hX
  exact EQB.op_inB hu pins s σ H x y v u Q I rx ry ⟨p, ys, e, ey, hs, fun z hz => he X rfl z hz, q⟩
theorem op_notInA {X : Cx} {K : PySem.W.Frag} (hX : X.K = K) (hu : X.A.units + 65 < cLine) : OpR X (compareOp .NotIn) (rInA K true) := fun pins s σ H x y v u Q I rx ry ⟨p, ys, e, ey, hs, he, q⟩ => by
  subst hX
  exact EQB.op_notInB hu pins s σ H x y v u Q I rx ry ⟨p, ys, e, ey, hs, fun z hz => he X rfl z hz, q⟩
end THI
set_option Elab.async false
set_option linter.all false
set_option maxRecDepth 100000
set_option maxHeartbeats 4000000
/-! TXL: how long the texts of containers are; lists and tuples of texts, shown. -/
namespace TXL
open PySem PySem.Spec PyProof.Rows L2
open SX (S)
open RPO
open THI (SN)
theorem rt_len {z : List Nat} (h : NM.ok z) : (reprText (S z)).length ≤ 133 := by
  have ok : PyData.strOk (S z) = true := by
    unfold PyData.strOk
    rw [← Array.all_toList, List.all_eq_true]
    intro c hc
    have := h.2.2 c hc
    exact decide_eq_true (by omega)
  have hc : (S z).cps.toList.all (fun c => decide (c < 16 ^ 8)) = true := by
    rw [List.all_eq_true]
    intro c hc
    have := h.2.2 c hc
    exact decide_eq_true (by omega)
  have h1 := PyData.shown_le 13 (by decide) (.str (S z)) (by simp only [PyData.leavesShort]; exact hc)
  have e : (PyData.str (S z)).shown = reprText (S z) := by simp only [PyData.shown]
  have w1 : (PyData.str (S z)).weight = z.length := by simp only [PyData.weight]; rfl
  have := h.2.1
  rw [e] at h1
  omega
theorem piled_le {ts : List Str} {n : Nat} (h : ∀ t ∈ ts, t.length ≤ n) : piled ts ≤ (n + 2) * ts.length := by
  induction ts with
  | nil => exact Nat.zero_le _
  | cons t ts ih =>
    rw [piled_cons, List.length_cons, Nat.mul_add]
    have := h t List.mem_cons_self
    have := ih fun x hx => h x (List.mem_cons_of_mem _ hx)
    omega
theorem join_le (ts : List Str) : (Str.join ", " ts).length ≤ piled ts := by
  by_cases h : ts = []
  · subst h
    decide
  · have := join_length_add ts h
    omega
theorem tt_le (ts : List Str) : (tupleText ts).length ≤ piled ts + 3 := by
  unfold tupleText
  rw [PySem.strLen_append, PySem.strLen_append]
  have e1 : ((("(" : String) : Str)).length = 1 := rfl
  have e3 : (((if ts.length == 1 then ",)" else ")" : String) : Str)).length ≤ 2 := by split <;> decide
  rw [e1]
  have := join_le ts
  omega
theorem lt_le (ts : List Str) : (listText ts).length ≤ piled ts + 2 := by
  unfold listText
  rw [PySem.strLen_append]
  have e2 : ((("]" : String) : Str)).length = 1 := rfl
  have e1 : ((("[" : String) : Str)).length = 1 := rfl
  have h := textFrom_len_le ts 0 "["
  have hp : piled ts = (ts.map (·.length)).sum + 2 * ts.length := by
    clear h
    induction ts with
    | nil => rfl
    | cons t ts ih => rw [piled_cons, ih, List.map_cons, List.sum_cons, List.length_cons]; omega
  rw [e1] at h
  rw [e2]
  omega
/-- a list's text -/
def ltx (ts : List Str) : Str := if ts = [] then "[]" else listText ts
theorem ltx_le (ts : List Str) : (ltx ts).length ≤ piled ts + 2 := by
  unfold ltx
  split
  · exact Nat.le_trans (by decide : (("[]" : String) : Str).length ≤ 2) (Nat.le_add_left _ _)
  · exact lt_le ts
theorem tt_n {ts : List Str} {n m : Nat} (h : ∀ t ∈ ts, t.length ≤ n) (l : ts.length ≤ m) : (tupleText ts).length ≤ (n + 2) * m + 3 := by
  have h1 := tt_le ts
  have h2 := piled_le h
  have h3 : (n + 2) * ts.length ≤ (n + 2) * m := Nat.mul_le_mul_left _ l
  omega
theorem ltx_n {ts : List Str} {n m : Nat} (h : ∀ t ∈ ts, t.length ≤ n) (l : ts.length ≤ m) : (ltx ts).length ≤ (n + 2) * m + 2 := by
  have h1 := ltx_le ts
  have h2 := piled_le h
  have h3 : (n + 2) * ts.length ≤ (n + 2) * m := Nat.mul_le_mul_left _ l
  omega
section
variable {X : Cx} {n : Nat}
theorem rp_all {α : Type} {outs : List Addr} {H : Hp} {g : α → V} {t : α → Str} : ∀ {l : List α}, (∀ x ∈ l, RpU X n outs H (g x) (t x)) → RpAll X n outs H (l.map g) (l.map t)
  | [], _ => .nil
  | x :: l, h => .cons (h x List.mem_cons_self) (rp_all fun y hy => h y (List.mem_cons_of_mem _ hy))
theorem rp_strs {outs : List Addr} {H : Hp} (F : List Str) : RpAll X n outs H (F.map V.str) (F.map reprText) := rp_all fun _ _ => .str
theorem rp_list {outs : List Addr} {H : Hp} {a : Addr} {xs : List V} {ts : List Str} (ha : H a = some (.lst xs)) (na : a ∉ outs) (h : RpAll X n (a :: outs) H xs ts) : RpU X (n + 1) outs H (.ref a) (ltx ts) := by
  unfold ltx
  have ln := h.len
  by_cases e : ts = []
  · rw [if_pos e]
    rw [e] at ln
    have : xs = [] := List.length_eq_zero_iff.mp ln.symm
    rw [this] at ha
    exact RpU.list0 ha na
  · rw [if_neg e]
    exact RpU.list ha na (fun z => e (by rw [z] at ln; exact List.length_eq_zero_iff.mp ln)) h
end
end TXL
set_option Elab.async false
set_option linter.all false
set_option maxRecDepth 100000
set_option maxHeartbeats 4000000
/-! RPN: repr's text of a name: the name between two strokes. -/
namespace RPN
open PySem PySem.Spec PyProof.Rows L2
open Builtin Builtin.Str
open SX (S)
theorem char_ok : ∀ c, c < 123 → 97 ≤ c → reprChar 39 c = [c] := by decide +kernel
theorem fold_ok : ∀ (l : List Nat) (acc : List Nat), (∀ c ∈ l, 97 ≤ c ∧ c ≤ 122) → l.foldl (fun (out : Array Nat) c => out ++ (reprChar 39 c).toArray) acc.toArray = (acc ++ l).toArray
  | [], acc, _ => by simp
  | c :: l, acc, h => by
    have hc := h c List.mem_cons_self
    rw [List.foldl_cons, char_ok c (by omega) hc.1]
    have e : acc.toArray ++ [c].toArray = (acc ++ [c]).toArray := by simp
    rw [e, fold_ok l (acc ++ [c]) fun d hd => h d (List.mem_cons_of_mem _ hd)]
    simp
theorem quote_ok {l : List Nat} (h : ∀ c ∈ l, 97 ≤ c ∧ c ≤ 122) : reprQuote (S l) = 39 := by
  have h39 : (39 : Nat) ∉ l := fun z => by have := h 39 z; omega
  unfold reprQuote
  simp [S, h39]
theorem repr_nm {l : List Nat} (ok : NM.ok l) : reprText (S l) = S (39 :: (l ++ [39])) := by
  unfold reprText
  rw [quote_ok ok.2.2]
  show (⟨((S l).cps.foldl (fun out c => out ++ (reprChar 39 c).toArray) #[39]).push 39⟩ : PySem.Str) = _
  rw [← Array.foldl_toList]
  have e := fold_ok (S l).cps.toList [39] ok.2.2
  rw [show (#[39] : Array Nat) = [39].toArray from rfl, e]
  simp [S]
end RPN
set_option Elab.async false
set_option linter.all false
set_option maxRecDepth 100000
set_option maxHeartbeats 4000000
/-! IJ: repr of plain data (whole numbers, names, lists, tuples of two and more) tells them apart. -/
namespace IJ
open PySem PySem.Spec PyProof.Rows L2
open SX (S)
mutual
def Pl : PyData → Prop
  | .int i => (TX.intL i).length ≤ 4300
  | .str x => ∃ l, x = S l ∧ NM.ok l
  | .list xs => PlA xs
  | .tuple xs => 2 ≤ xs.length ∧ PlA xs
  | _ => False
def PlA : List PyData → Prop
  | [] => True
  | x :: xs => Pl x ∧ PlA xs
end
mutual
def tx : PyData → List Nat
  | .int i => TX.intL i
  | .str x => 39 :: (x.cps.toList ++ [39])
  | .list xs => 91 :: txB 93 xs
  | .tuple xs => 40 :: txB 41 xs
  | _ => []
def txB (cl : Nat) : List PyData → List Nat
  | [] => [cl]
  | x :: xs => tx x ++ txR cl xs
def txR (cl : Nat) : List PyData → List Nat
  | [] => [cl]
  | x :: xs => 44 :: 32 :: (tx x ++ txR cl xs)
end
/-- what may stand behind -/
def Nd (u : List Nat) : Prop := u = [] ∨ ∃ c r, u = c :: r ∧ (c = 44 ∨ c = 41 ∨ c = 93)
theorem nd_R {cl : Nat} (h : cl = 41 ∨ cl = 93) (u : List Nat) : ∀ xs : List PyData, Nd (txR cl xs ++ u)
  | [] => .inr ⟨cl, u, by simp [txR], h.elim (fun e => .inr (.inl e)) fun e => .inr (.inr e)⟩
  | x :: xs => .inr ⟨44, _, by simp only [txR, List.cons_append]; rfl, .inl rfl⟩
/-! ### whole numbers -/
def dg (c : Nat) : Bool := decide (c = 45 ∨ (48 ≤ c ∧ c ≤ 57))
theorem numL_dg (n : Nat) : ∀ c ∈ TL.numL n, dg c = true := fun c hc => by
  by_cases h : 48 ≤ c ∧ c ≤ 57
  · exact decide_eq_true (.inr h)
  · exact absurd hc (TL.numL_free (by omega))
theorem numL_ne (n : Nat) : TL.numL n ≠ [] := fun z => by
  rcases Nat.eq_zero_or_pos n with rfl | h
  · rw [TX.numL_zero] at z
    cases z
  · obtain ⟨c, l, e, _⟩ := TX.numL_head n h
    rw [e] at z
    cases z
theorem intL_dg (i : Int) : ∀ c ∈ TX.intL i, dg c = true := fun c hc => by
  unfold TX.intL at hc
  split at hc
  · rcases List.mem_cons.mp hc with rfl | hc
    · rfl
    · exact numL_dg _ c hc
  · exact numL_dg _ c hc
theorem nd_dg {u : List Nat} (h : Nd u) : u.takeWhile dg = [] := by
  rcases h with rfl | ⟨c, r, rfl, h⟩
  · rfl
  · rcases h with rfl | rfl | rfl <;> rfl
theorem take_dg : ∀ {l u : List Nat}, (∀ c ∈ l, dg c = true) → u.takeWhile dg = [] → (l ++ u).takeWhile dg = l
  | [], u, _, h => h
  | c :: l, u, hl, h => by
    rw [List.cons_append, List.takeWhile_cons_of_pos (hl c List.mem_cons_self), take_dg (fun d hd => hl d (List.mem_cons_of_mem _ hd)) h]
theorem intL_inj {i j : Int} (hi : (TX.intL i).length ≤ 4300) (h : TX.intL i = TX.intL j) : i = j := by
  have a := TX.int_int hi
  have b := TX.int_int (i := j) (by rw [← h]; exact hi)
  rw [h, b] at a
  exact (Option.some.inj a).symm
theorem pf_int {i j : Int} {u v : List Nat} (hi : (TX.intL j).length ≤ 4300) (hu : Nd u) (hv : Nd v) (e : TX.intL i ++ u = TX.intL j ++ v) : i = j ∧ u = v := by
  have h1 := take_dg (intL_dg i) (nd_dg hu)
  have h2 := take_dg (intL_dg j) (nd_dg hv)
  rw [e, h2] at h1
  refine ⟨(intL_inj hi h1).symm, ?_⟩
  rw [h1] at e
  exact List.append_cancel_left e
/-! ### names -/
theorem pf_nm {l m : List Nat} {u v : List Nat} (hl : ∀ c ∈ l, c ≠ 39) (hm : ∀ c ∈ m, c ≠ 39) (e : l ++ (39 :: u) = m ++ (39 :: v)) : l = m ∧ u = v := by
  induction l generalizing m with
  | nil =>
    cases m with
    | nil => exact ⟨rfl, by simpa using e⟩
    | cons d m =>
      simp only [List.nil_append, List.cons_append, List.cons.injEq] at e
      exact absurd e.1.symm (hm d List.mem_cons_self)
  | cons c l ih =>
    cases m with
    | nil =>
      simp only [List.nil_append, List.cons_append, List.cons.injEq] at e
      exact absurd e.1 (hl c List.mem_cons_self)
    | cons d m =>
      simp only [List.cons_append, List.cons.injEq] at e
      obtain ⟨a, b⟩ := ih (fun x hx => hl x (List.mem_cons_of_mem _ hx)) (fun x hx => hm x (List.mem_cons_of_mem _ hx)) e.2
      exact ⟨by rw [e.1, a], b⟩
theorem ok39 {l : List Nat} (h : NM.ok l) : ∀ c ∈ l, c ≠ 39 := fun c hc z => by have := h.2.2 c hc; omega
/-! ### the first sign -/
def fst (d : PyData) : Nat := ((tx d).head?).getD 0
theorem intL_head (i : Int) : ∃ c r, TX.intL i = c :: r ∧ dg c = true := by
  cases h : TX.intL i with
  | nil =>
    unfold TX.intL at h
    split at h
    · cases h
    · exact absurd h (numL_ne _)
  | cons c r => exact ⟨c, r, rfl, intL_dg i c (by rw [h]; exact List.mem_cons_self)⟩
/-- the kinds by their first signs -/
theorem pf_kind {d : PyData} (h : Pl d) : ∃ c r, tx d = c :: r ∧ ((∃ i, d = .int i) ∧ dg c = true ∨ (∃ x, d = .str x) ∧ c = 39 ∨ (∃ xs, d = .list xs) ∧ c = 91 ∨ (∃ xs, d = .tuple xs) ∧ c = 40) := by
  cases d with
  | int i =>
    obtain ⟨c, r, e, g⟩ := intL_head i
    exact ⟨c, r, by simpa only [tx] using e, .inl ⟨⟨i, rfl⟩, g⟩⟩
  | str x => exact ⟨39, x.cps.toList ++ [39], by simp only [tx], .inr (.inl ⟨⟨x, rfl⟩, rfl⟩)⟩
  | list xs => exact ⟨91, txB 93 xs, by simp only [tx], .inr (.inr (.inl ⟨⟨xs, rfl⟩, rfl⟩))⟩
  | tuple xs => exact ⟨40, txB 41 xs, by simp only [tx], .inr (.inr (.inr ⟨⟨xs, rfl⟩, rfl⟩))⟩
  | none => exact absurd h (by simp [Pl])
  | bool b => exact absurd h (by simp [Pl])
  | dict k => exact absurd h (by simp [Pl])
mutual
theorem pf : ∀ (d e : PyData) (u v : List Nat), Pl d → Pl e → Nd u → Nd v → tx d ++ u = tx e ++ v → d = e ∧ u = v
  | .int i, e, u, v, hd, he, hu, hv, q => by
    obtain ⟨c, r, e1, k⟩ := pf_kind he
    obtain ⟨c0, r0, e0, g0⟩ := intL_head i
    have e0' : tx (.int i) = c0 :: r0 := by simpa only [tx] using e0
    have q2 := q
    rw [e1, e0'] at q2
    simp only [List.cons_append, List.cons.injEq] at q2
    rcases k with ⟨⟨j, rfl⟩, _⟩ | ⟨_, h2⟩ | ⟨_, h2⟩ | ⟨_, h2⟩
    · simp only [tx] at q
      obtain ⟨a, b⟩ := pf_int (by simpa only [Pl] using he) hu hv q
      exact ⟨by rw [a], b⟩
    · rw [q2.1, h2] at g0; exact absurd g0 (by decide)
    · rw [q2.1, h2] at g0; exact absurd g0 (by decide)
    · rw [q2.1, h2] at g0; exact absurd g0 (by decide)
  | .str x, e, u, v, hd, he, hu, hv, q => by
    obtain ⟨c, r, e1, k⟩ := pf_kind he
    have q2 := q
    rw [e1] at q2
    simp only [tx, List.cons_append, List.cons.injEq] at q2
    rcases k with ⟨_, h2⟩ | ⟨⟨y, rfl⟩, _⟩ | ⟨_, h2⟩ | ⟨_, h2⟩
    · rw [← q2.1] at h2; exact absurd h2 (by decide)
    · simp only [Pl] at hd he
      obtain ⟨l, rfl, ok⟩ := hd
      obtain ⟨m, rfl, ok2⟩ := he
      simp only [tx, List.cons_append, List.cons.injEq, true_and, List.append_assoc, List.nil_append] at q
      obtain ⟨a, b⟩ := pf_nm (ok39 ok) (ok39 ok2) q
      exact ⟨by rw [a], b⟩
    · rw [← q2.1] at h2; exact absurd h2 (by decide)
    · rw [← q2.1] at h2; exact absurd h2 (by decide)
  | .list xs, e, u, v, hd, he, hu, hv, q => by
    obtain ⟨c, r, e1, k⟩ := pf_kind he
    have q2 := q
    rw [e1] at q2
    simp only [tx, List.cons_append, List.cons.injEq] at q2
    rcases k with ⟨_, h2⟩ | ⟨_, h2⟩ | ⟨⟨ys, rfl⟩, _⟩ | ⟨_, h2⟩
    · rw [← q2.1] at h2; exact absurd h2 (by decide)
    · rw [← q2.1] at h2; exact absurd h2 (by decide)
    · simp only [Pl] at hd he
      simp only [tx, List.cons_append, List.cons.injEq, true_and] at q
      obtain ⟨a, b⟩ := pfB 93 (.inr rfl) xs ys u v hd he q
      exact ⟨by rw [a], b⟩
    · rw [← q2.1] at h2; exact absurd h2 (by decide)
  | .tuple xs, e, u, v, hd, he, hu, hv, q => by
    obtain ⟨c, r, e1, k⟩ := pf_kind he
    have q2 := q
    rw [e1] at q2
    simp only [tx, List.cons_append, List.cons.injEq] at q2
    rcases k with ⟨_, h2⟩ | ⟨_, h2⟩ | ⟨_, h2⟩ | ⟨⟨ys, rfl⟩, _⟩
    · rw [← q2.1] at h2; exact absurd h2 (by decide)
    · rw [← q2.1] at h2; exact absurd h2 (by decide)
    · rw [← q2.1] at h2; exact absurd h2 (by decide)
    · simp only [Pl] at hd he
      simp only [tx, List.cons_append, List.cons.injEq, true_and] at q
      obtain ⟨a, b⟩ := pfB 41 (.inl rfl) xs ys u v hd.2 he.2 q
      exact ⟨by rw [a], b⟩
  | .none, e, u, v, hd, he, hu, hv, q => absurd hd (by simp [Pl])
  | .bool _, e, u, v, hd, he, hu, hv, q => absurd hd (by simp [Pl])
  | .dict _, e, u, v, hd, he, hu, hv, q => absurd hd (by simp [Pl])
theorem pfB (cl : Nat) (hc : cl = 41 ∨ cl = 93) : ∀ (xs ys : List PyData) (u v : List Nat), PlA xs → PlA ys → txB cl xs ++ u = txB cl ys ++ v → xs = ys ∧ u = v
  | [], [], u, v, _, _, q => by
    simp only [txB, List.cons_append, List.nil_append, List.cons.injEq, true_and] at q
    exact ⟨rfl, q⟩
  | [], y :: ys, u, v, _, hy, q => by
    simp only [PlA] at hy
    obtain ⟨c, r, e1, k⟩ := pf_kind hy.1
    simp only [txB, e1, List.cons_append, List.nil_append, List.cons.injEq] at q
    have q1 := q.1
    rcases hc with rfl | rfl <;> rcases k with ⟨_, h2⟩ | ⟨_, h2⟩ | ⟨_, h2⟩ | ⟨_, h2⟩ <;> first | (rw [← q1] at h2; exact absurd h2 (by decide)) | skip
  | x :: xs, [], u, v, hx, _, q => by
    simp only [PlA] at hx
    obtain ⟨c, r, e1, k⟩ := pf_kind hx.1
    simp only [txB, e1, List.cons_append, List.nil_append, List.cons.injEq] at q
    have q1 := q.1
    rcases hc with rfl | rfl <;> rcases k with ⟨_, h2⟩ | ⟨_, h2⟩ | ⟨_, h2⟩ | ⟨_, h2⟩ <;> first | (rw [q1] at h2; exact absurd h2 (by decide)) | skip
  | x :: xs, y :: ys, u, v, hx, hy, q => by
    simp only [PlA] at hx hy
    simp only [txB, List.append_assoc] at q
    obtain ⟨a, b⟩ := pf x y _ _ hx.1 hy.1 (nd_R hc u xs) (nd_R hc v ys) q
    obtain ⟨a2, b2⟩ := pfR cl hc xs ys u v hx.2 hy.2 b
    exact ⟨by rw [a, a2], b2⟩
theorem pfR (cl : Nat) (hc : cl = 41 ∨ cl = 93) : ∀ (xs ys : List PyData) (u v : List Nat), PlA xs → PlA ys → txR cl xs ++ u = txR cl ys ++ v → xs = ys ∧ u = v
  | [], [], u, v, _, _, q => by
    simp only [txR, List.cons_append, List.nil_append, List.cons.injEq, true_and] at q
    exact ⟨rfl, q⟩
  | [], y :: ys, u, v, _, hy, q => by
    simp only [txR, List.cons_append, List.nil_append, List.cons.injEq] at q
    have q1 := q.1
    rcases hc with rfl | rfl <;> exact absurd q1 (by decide)
  | x :: xs, [], u, v, hx, _, q => by
    simp only [txR, List.cons_append, List.nil_append, List.cons.injEq] at q
    have q1 := q.1
    rcases hc with rfl | rfl <;> exact absurd q1 (by decide)
  | x :: xs, y :: ys, u, v, hx, hy, q => by
    simp only [PlA] at hx hy
    simp only [txR, List.cons_append, List.cons.injEq, true_and, List.append_assoc] at q
    obtain ⟨a, b⟩ := pf x y _ _ hx.1 hy.1 (nd_R hc u xs) (nd_R hc v ys) q
    obtain ⟨a2, b2⟩ := pfR cl hc xs ys u v hx.2 hy.2 b
    exact ⟨by rw [a, a2], b2⟩
end
/-! ### the text -/
def jn : PyData → List PyData → List Nat
  | x, [] => tx x
  | x, y :: ys => tx x ++ (44 :: 32 :: jn y ys)
theorem jn_R (cl : Nat) : ∀ (x : PyData) (xs : List PyData), jn x xs ++ [cl] = tx x ++ txR cl xs
  | x, [] => by simp only [jn, txR]
  | x, y :: ys => by simp only [jn, txR, List.append_assoc, List.cons_append, jn_R cl y ys]
theorem join_R : ∀ (x : PyData) (xs : List PyData), (∀ d ∈ x :: xs, d.shown = S (tx d)) → Str.join ", " ((x :: xs).map PyData.shown) = S (jn x xs)
  | x, [], h => h x List.mem_cons_self
  | x, y :: ys, h => by
    have hx := h x List.mem_cons_self
    have ih := join_R y ys fun d hd => h d (List.mem_cons_of_mem _ hd)
    rw [List.map_cons] at ih
    rw [List.map_cons, List.map_cons, join_cons_cons, hx, ih]
    have c2 : (", " : Str) = S [44, 32] := by decide +kernel
    rw [c2, SX.S_cat, SX.S_cat]
    simp only [jn, List.append_assoc, List.cons_append, List.nil_append]
theorem all_map : ∀ xs : List PyData, PyData.shownAll xs = xs.map PyData.shown
  | [] => by simp only [PyData.shownAll, List.map_nil]
  | x :: xs => by simp only [PyData.shownAll, List.map_cons, all_map xs]
theorem text_R : ∀ (xs : List PyData) (k : Nat) (a : List Nat), 0 < k → (∀ d ∈ xs, d.shown = S (tx d)) → textFrom k (S a) (xs.map PyData.shown) ++ ("]" : Str) = S (a ++ txR 93 xs)
  | [], k, a, _, _ => by
    have c2 : ("]" : Str) = S [93] := by decide +kernel
    show S a ++ ("]" : Str) = _
    rw [c2, SX.S_cat]
    simp only [txR]
  | x :: xs, k, a, hk, h => by
    have hx := h x List.mem_cons_self
    rw [List.map_cons, hx]
    show textFrom (k + 1) (S a ++ Str.ofString (if k > 0 then ", " else "") ++ S (tx x)) (xs.map PyData.shown) ++ ("]" : Str) = _
    rw [if_pos hk]
    have c2 : Str.ofString ", " = S [44, 32] := by decide +kernel
    have e1 : S a ++ S [44, 32] ++ S (tx x) = S (a ++ [44, 32] ++ tx x) := by rw [SX.S_cat, SX.S_cat]
    rw [c2, e1, text_R xs (k + 1) _ (by omega) fun d hd => h d (List.mem_cons_of_mem _ hd)]
    simp only [txR, List.append_assoc, List.cons_append, List.nil_append]
mutual
theorem shown_tx : ∀ d : PyData, Pl d → d.shown = S (tx d)
  | .int i, _ => by
    simp only [PyData.shown, tx]
    exact TX.tl_int i
  | .str x, h => by
    simp only [Pl] at h
    obtain ⟨l, rfl, ok⟩ := h
    simp only [PyData.shown, tx]
    exact RPN.repr_nm ok
  | .list [], _ => by
    simp only [PyData.shown, PyData.shownAll, tx, txB]
    decide +kernel
  | .list (x :: xs), h => by
    simp only [Pl] at h
    have sh := shown_all (x :: xs) h
    have hx := sh x List.mem_cons_self
    have hxs := fun d hd => sh d (List.mem_cons_of_mem _ hd)
    simp only [PyData.shown, tx, txB]
    rw [all_map, List.map_cons, hx]
    show textFrom 1 (("[" : Str) ++ Str.ofString "" ++ S (tx x)) (xs.map PyData.shown) ++ "]" = _
    have c1 : ("[" : Str) = S [91] := by decide +kernel
    have e1 : S [91] ++ S [] ++ S (tx x) = S ([91] ++ [] ++ tx x) := by rw [SX.S_cat, SX.S_cat]
    rw [c1, TX.empty_S, e1, text_R xs 1 _ (by decide) hxs]
    simp only [List.append_nil, List.cons_append, List.nil_append]
  | .tuple [], h => by simp [Pl] at h
  | .tuple [x], h => by simp [Pl] at h
  | .tuple (x :: y :: xs), h => by
    simp only [Pl] at h
    have e := join_R x (y :: xs) (shown_all (x :: y :: xs) h.2)
    simp only [PyData.shown, tx, txB]
    rw [all_map]
    unfold tupleText
    rw [e]
    have c1 : ("(" : Str) = S [40] := by decide +kernel
    have c2 : (if ((x :: y :: xs).map PyData.shown).length == 1 then ",)" else ")" : String) = ")" := by rw [List.length_map]; rfl
    rw [c2]
    have c3 : Str.ofString ")" = S [41] := by decide +kernel
    show (("(" : Str) ++ S (jn x (y :: xs))) ++ Str.ofString ")" = _
    rw [c1, c3, SX.S_cat, SX.S_cat, List.append_assoc, jn_R]
    rfl
  | .none, h => absurd h (by simp [Pl])
  | .bool _, h => absurd h (by simp [Pl])
  | .dict _, h => absurd h (by simp [Pl])
theorem shown_all : ∀ xs : List PyData, PlA xs → ∀ d ∈ xs, d.shown = S (tx d)
  | [], _ => fun d hd => nomatch hd
  | x :: xs, h => fun d hd => by
    simp only [PlA] at h
    rcases List.mem_cons.mp hd with e | hd
    · rw [e]
      exact shown_tx x h.1
    · exact shown_all xs h.2 d hd
end
theorem S_inj {a b : List Nat} (h : S a = S b) : a = b := by
  have := congrArg (fun s : Str => s.cps.toList) h
  simpa [S] using this
/-- one text, one data -/
theorem shown_inj {d e : PyData} (hd : Pl d) (he : Pl e) (h : d.shown = e.shown) : d = e := by
  rw [shown_tx d hd, shown_tx e he] at h
  have h := S_inj h
  exact (pf d e [] [] hd he (.inl rfl) (.inl rfl) (by rw [h])).1
/-! ### == -/
mutual
def Pe : PyData → Prop
  | .int _ => True
  | .str _ => True
  | .list xs => PeA xs
  | .tuple xs => PeA xs
  | _ => False
def PeA : List PyData → Prop
  | [] => True
  | x :: xs => Pe x ∧ PeA xs
end
mutual
theorem Pl.pe : ∀ d : PyData, Pl d → Pe d
  | .int _, _ => by simp only [Pe]
  | .str _, _ => by simp only [Pe]
  | .list xs, h => by simp only [Pl] at h; simp only [Pe]; exact PlA.pe xs h
  | .tuple xs, h => by simp only [Pl] at h; simp only [Pe]; exact PlA.pe xs h.2
  | .none, h => absurd h (by simp [Pl])
  | .bool _, h => absurd h (by simp [Pl])
  | .dict _, h => absurd h (by simp [Pl])
theorem PlA.pe : ∀ xs : List PyData, PlA xs → PeA xs
  | [], _ => by simp only [PeA]
  | x :: xs, h => by simp only [PlA] at h; simp only [PeA]; exact ⟨Pl.pe x h.1, PlA.pe xs h.2⟩
end
theorem PeA.of : ∀ {xs : List PyData}, (∀ x ∈ xs, Pe x) → PeA xs
  | [], _ => by simp only [PeA]
  | x :: xs, h => by simp only [PeA]; exact ⟨h x List.mem_cons_self, PeA.of fun y hy => h y (List.mem_cons_of_mem _ hy)⟩
theorem PlA.of : ∀ {xs : List PyData}, (∀ x ∈ xs, Pl x) → PlA xs
  | [], _ => by simp only [PlA]
  | x :: xs, h => by simp only [PlA]; exact ⟨h x List.mem_cons_self, PlA.of fun y hy => h y (List.mem_cons_of_mem _ hy)⟩
mutual
theorem eqv_iff : ∀ d e : PyData, Pe d → Pe e → (PyData.eqv d e = true ↔ d = e)
  | .int i, e, _, he => by
    cases e <;> simp [PyData.eqv, Pe] at *
  | .str x, e, _, he => by
    cases e <;> simp [PyData.eqv, Pe] at *
  | .list xs, e, hd, he => by
    cases e with
    | list ys =>
      simp only [Pe] at hd he
      simp only [PyData.eqv, eqvA_iff xs ys hd he, PyData.list.injEq]
    | _ => simp [PyData.eqv, Pe] at *
  | .tuple xs, e, hd, he => by
    cases e with
    | tuple ys =>
      simp only [Pe] at hd he
      simp only [PyData.eqv, eqvA_iff xs ys hd he, PyData.tuple.injEq]
    | _ => simp [PyData.eqv, Pe] at *
  | .none, _, h, _ => absurd h (by simp [Pe])
  | .bool _, _, h, _ => absurd h (by simp [Pe])
  | .dict _, _, h, _ => absurd h (by simp [Pe])
theorem eqvA_iff : ∀ xs ys : List PyData, PeA xs → PeA ys → (PyData.eqvAll xs ys = true ↔ xs = ys)
  | [], [], _, _ => by simp [PyData.eqvAll]
  | [], _ :: _, _, _ => by simp [PyData.eqvAll]
  | _ :: _, [], _, _ => by simp [PyData.eqvAll]
  | x :: xs, y :: ys, hx, hy => by
    simp only [PeA] at hx hy
    simp only [PyData.eqvAll, Bool.and_eq_true, eqv_iff x y hx.1 hy.1, eqvA_iff xs ys hx.2 hy.2, List.cons.injEq]
end
end IJ
set_option Elab.async false
set_option linter.all false
set_option maxRecDepth 100000
set_option maxHeartbeats 4000000
/-! OWQ1: what Python's own kinds tell when they are asked == or != with an instance of an own class: nothing. -/
namespace OWQ
open PySem PySem.Spec PyProof.Rows L2
open PySem.SeqAt PySem.MeetsSeq
open AutoSeq1 (wpAny_loadPart')
abbrev iO (C dx : Addr) : Obj := PySem.W.instObj C dx
/-- b is no T -/
abbrev NoT (s : Shared) (b : Addr) (T : String) : Prop := ∀ M : Model, PySem.W.Looks M s.heap (isInstance (.ref b) (.type T)) false
theorem none_eq (b C dx : Addr) : Meets (Builtin.«NoneType.__eq__» ⟨[.none, .ref b], []⟩) (fun _ R s => s.heap.get? b = some (iO C dx) ∧ R (.ok (.ret .notImplemented)) s) :=
  .of_wp fun prog w A R s h => by obtain ⟨hp, g, d, tk, os⟩ := s; obtain ⟨hl, h⟩ := h; wp_walk; exact ⟨_, rfl, h⟩
theorem none_ne (b C dx : Addr) : Meets (Builtin.«NoneType.__ne__» ⟨[.none, .ref b], []⟩) (fun _ R s => s.heap.get? b = some (iO C dx) ∧ R (.ok (.ret .notImplemented)) s) :=
  .of_wp fun prog w A R s h => by obtain ⟨hp, g, d, tk, os⟩ := s; obtain ⟨hl, h⟩ := h; wp_walk; exact ⟨_, rfl, h⟩
theorem bool_eq (b C dx : Addr) (k : Bool) : Meets (Builtin.«int.__eq__» ⟨[.bool k, .ref b], []⟩) (fun _ R s => s.heap.get? b = some (iO C dx) ∧ R (.ok (.ret .notImplemented)) s) :=
  .of_wp fun prog w A R s h => by obtain ⟨hp, g, d, tk, os⟩ := s; obtain ⟨hl, h⟩ := h; wp_walk using wpAny_loadPart' hl, wpAny_load hl; exact ⟨_, rfl, h⟩
theorem bool_ne (b C dx : Addr) (k : Bool) : Meets (Builtin.«int.__ne__» ⟨[.bool k, .ref b], []⟩) (fun _ R s => s.heap.get? b = some (iO C dx) ∧ R (.ok (.ret .notImplemented)) s) :=
  .of_wp fun prog w A R s h => by obtain ⟨hp, g, d, tk, os⟩ := s; obtain ⟨hl, h⟩ := h; wp_walk using wpAny_loadPart' hl, wpAny_load hl; exact ⟨_, rfl, h⟩
theorem int_eq (b C dx : Addr) (k : Int) (u : Tok) : Meets (Builtin.«int.__eq__» ⟨[.int k u, .ref b], []⟩) (fun _ R s => s.heap.get? b = some (iO C dx) ∧ R (.ok (.ret .notImplemented)) s) :=
  .of_wp fun prog w A R s h => by obtain ⟨hp, g, d, tk, os⟩ := s; obtain ⟨hl, h⟩ := h; wp_walk using wpAny_loadPart' hl, wpAny_load hl; exact ⟨_, rfl, h⟩
theorem int_ne (b C dx : Addr) (k : Int) (u : Tok) : Meets (Builtin.«int.__ne__» ⟨[.int k u, .ref b], []⟩) (fun _ R s => s.heap.get? b = some (iO C dx) ∧ R (.ok (.ret .notImplemented)) s) :=
  .of_wp fun prog w A R s h => by obtain ⟨hp, g, d, tk, os⟩ := s; obtain ⟨hl, h⟩ := h; wp_walk using wpAny_loadPart' hl, wpAny_load hl; exact ⟨_, rfl, h⟩
theorem str_eq (b C dx : Addr) (k : Str) (u : Tok) : Meets (Builtin.«str.__eq__» ⟨[.str k u, .ref b], []⟩) (fun _ R s => s.heap.get? b = some (iO C dx) ∧ R (.ok (.ret .notImplemented)) s) :=
  .of_wp fun prog w A R s h => by obtain ⟨hp, g, d, tk, os⟩ := s; obtain ⟨hl, h⟩ := h; wp_walk using wpAny_loadPart' hl, wpAny_load hl; exact ⟨_, rfl, h⟩
theorem str_ne (b C dx : Addr) (k : Str) (u : Tok) : Meets (Builtin.«str.__ne__» ⟨[.str k u, .ref b], []⟩) (fun _ R s => s.heap.get? b = some (iO C dx) ∧ R (.ok (.ret .notImplemented)) s) :=
  .of_wp fun prog w A R s h => by obtain ⟨hp, g, d, tk, os⟩ := s; obtain ⟨hl, h⟩ := h; wp_walk using wpAny_loadPart' hl, wpAny_load hl; exact ⟨_, rfl, h⟩
theorem list_eq (l b : Addr) : Meets (Builtin.«list.__eq__» ⟨[.ref l, .ref b], []⟩) (fun _ R s => NoT s b "list" ∧ R (.ok (.ret .notImplemented)) s) :=
  .of_wp fun prog w A R s h => by
    obtain ⟨hI, h⟩ := h
    have hh : ∀ {A' : Around} {Q : Bool → Shared → Prop} {E : Value → Shared → Prop}, Q false s → wpAny (model prog w) A' (isInstance (.ref b) (.type "list")) Q E s := fun q => (hI _).here q
    obtain ⟨hp, g, d, tk, os⟩ := s
    wp_walk using hh
    exact ⟨_, rfl, h⟩
theorem list_ne (l b : Addr) : Meets (Builtin.«list.__ne__» ⟨[.ref l, .ref b], []⟩) (fun _ R s => NoT s b "list" ∧ R (.ok (.ret .notImplemented)) s) :=
  .of_wp fun prog w A R s h => by
    obtain ⟨hI, h⟩ := h
    have hh : ∀ {A' : Around} {Q : Bool → Shared → Prop} {E : Value → Shared → Prop}, Q false s → wpAny (model prog w) A' (isInstance (.ref b) (.type "list")) Q E s := fun q => (hI _).here q
    obtain ⟨hp, g, d, tk, os⟩ := s
    wp_walk using hh
    exact ⟨_, rfl, h⟩
theorem tuple_eq (l b : Addr) : Meets (Builtin.«tuple.__eq__» ⟨[.ref l, .ref b], []⟩) (fun _ R s => NoT s b "tuple" ∧ R (.ok (.ret .notImplemented)) s) :=
  .of_wp fun prog w A R s h => by
    obtain ⟨hI, h⟩ := h
    have hh : ∀ {A' : Around} {Q : Bool → Shared → Prop} {E : Value → Shared → Prop}, Q false s → wpAny (model prog w) A' (isInstance (.ref b) (.type "tuple")) Q E s := fun q => (hI _).here q
    obtain ⟨hp, g, d, tk, os⟩ := s
    wp_walk using hh
    exact ⟨_, rfl, h⟩
theorem tuple_ne (l b : Addr) : Meets (Builtin.«tuple.__ne__» ⟨[.ref l, .ref b], []⟩) (fun _ R s => NoT s b "tuple" ∧ R (.ok (.ret .notImplemented)) s) :=
  .of_wp fun prog w A R s h => by
    obtain ⟨hI, h⟩ := h
    have hh : ∀ {A' : Around} {Q : Bool → Shared → Prop} {E : Value → Shared → Prop}, Q false s → wpAny (model prog w) A' (isInstance (.ref b) (.type "tuple")) Q E s := fun q => (hI _).here q
    obtain ⟨hp, g, d, tk, os⟩ := s
    wp_walk using hh
    exact ⟨_, rfl, h⟩
theorem dict_eq (l b : Addr) (es : Array DictEntry) (ep : Nat) (dd : Option Addr) (sl : Array (Option Value)) : Meets (Builtin.«dict.__eq__» ⟨[.ref l, .ref b], []⟩) (fun _ R s => s.heap.get? l = some (EQD.dO es ep dd sl) ∧ NoT s b "dict" ∧ R (.ok (.ret .notImplemented)) s) :=
  .of_wp fun prog w A R s h => by
    obtain ⟨hl, hI, h⟩ := h
    have hh : ∀ {A' : Around} {Q : Bool → Shared → Prop} {E : Value → Shared → Prop}, Q false s → wpAny (model prog w) A' (isInstance (.ref b) (.type "dict")) Q E s := fun q => (hI _).here q
    obtain ⟨hp, g, d, tk, os⟩ := s
    wp_walk using hh, wpAny_loadPart' hl
    exact ⟨_, rfl, h⟩
theorem dict_ne (l b : Addr) (es : Array DictEntry) (ep : Nat) (dd : Option Addr) (sl : Array (Option Value)) : Meets (Builtin.«dict.__ne__» ⟨[.ref l, .ref b], []⟩) (fun _ R s => s.heap.get? l = some (EQD.dO es ep dd sl) ∧ NoT s b "dict" ∧ R (.ok (.ret .notImplemented)) s) :=
  .of_wp fun prog w A R s h => by
    obtain ⟨hl, hI, h⟩ := h
    have hh : ∀ {A' : Around} {Q : Bool → Shared → Prop} {E : Value → Shared → Prop}, Q false s → wpAny (model prog w) A' (isInstance (.ref b) (.type "dict")) Q E s := fun q => (hI _).here q
    obtain ⟨hp, g, d, tk, os⟩ := s
    wp_walk using hh, wpAny_loadPart' hl
    exact ⟨_, rfl, h⟩
end OWQ
set_option Elab.async false
set_option linter.all false
set_option maxRecDepth 100000
set_option maxHeartbeats 4000000
/-! INO: x in xs, xs a list of instances of an own class with an own __eq__, x one of them. -/
namespace INO
open PySem PySem.Spec PyProof.Rows L2
open PySem.MeetsSeq
section
variable {X : Cx} {n k : Nat} {C : Addr} {sp : Sp}
theorem eqB (S : OW.Spc X.prog X.w X.K X.mg X.base k C "__eq__" sp) {A : Around} (sb : Sub X n A) (kn : k ≤ n) {pins : List (Addr × Obj)} {s : Shared} {σ : L2.St} {H : Hp} {a b da db : Addr} {fa fb : List (Str × V)} (I : Inv X pins σ H s)
    (hb : H b = some (.ins C db fb)) (ha : H a = some (.ins C da fa)) (hsp : sp [.ref b, .ref a] H (fun v H' => ∃ z, v = .bl z ∧ Ext H H') E0) :
    wpAny (model X.prog X.w) A (eqBool (.ref b) (.ref a)) (fun r s' => (b = a → r = true) ∧ ∃ H', Inv X pins σ H' s' ∧ Ext H H') X.xe s := by
  by_cases hne : b = a
  · subst hne
    unfold eqBool
    refine wpAny_holding ?_
    refine wpAny_ite_split (fun _ => ?_) (fun h => absurd (beq_self_eq_true _) h)
    wp_walk
    exact ⟨fun _ => rfl, H, I, Ext.rfl'⟩
  · obtain ⟨f, fd, ps, h1, h2, F, hbi⟩ := S.ex
    obtain ⟨mA, O, _⟩ := ins_get I.hok hb
    obtain ⟨od, J, _⟩ := O.look
    obtain ⟨mB, O', _⟩ := ins_get I.hok ha
    obtain ⟨od', J', _⟩ := O'.look
    obtain ⟨m, hF⟩ := I.fr
    have e0 : Env0 X.prog X.w X.K X.mg X.base A X.stack s H := by
      have z := I.env0
      exact ⟨sb.fr.trans z.frames, z.mod, z.bs, z.bsz, z.funs, z.frf, z.hok, z.bare⟩
    refine GQ.eqBool_refG hne ?_
    refine PySem.W.cmp_K (op := .Eq) (tb := .ref C) sb.room.units0 hF I.ok.mod.kin J J'.type OW.same_first h1 h2 ?_
    refine wpAny_mono (OW.run_at (E' := X.xe) (vs := [.ref b, .ref a]) F hbi (sb.room.mono kn) I e0 (.cons rfl (.cons rfl .nil)) hsp) (fun w s' z => ?_) fun _ _ x => x
    obtain ⟨z', H', I', rz, z, rfl, e⟩ := z
    cases (show w = Value.bool z from rz)
    exact ⟨z, rfl, fun h => absurd h hne, H', I', e⟩
/-- what is asked of the list -/
def Own (C : Addr) (sp : Sp) (H : Hp) (l a : Addr) (bs : List Addr) : Prop := H l = some (.lst (bs.map V.ref)) ∧ a ∈ bs ∧ (∀ b ∈ bs, ∃ d fs, H b = some (.ins C d fs)) ∧ ∀ H', Ext H H' → ∀ b ∈ bs, sp [.ref b, .ref a] H' (fun v H'' => ∃ z, v = .bl z ∧ Ext H' H'') E0
theorem loop (S : OW.Spc X.prog X.w X.K X.mg X.base k C "__eq__" sp) {A : Around} (sb : Sub X n A.in1) (kn : k ≤ n) {pins : List (Addr × Obj)} {σ : L2.St} {H0 : Hp} {l a : Addr} {bs : List Addr} {R : Result → Shared → Prop} (h0 : Own C sp H0 l a bs)
    (hE : ∀ e s', X.xe e s' → R (.error e) s') (fin : ∀ (s' : Shared) (H' : Hp), Inv X pins σ H' s' → Ext H0 H' → R (.ok (.ret (.bool true))) s') {j : Nat} (hj : bs[j]? = some a) :
    ∀ (m i : Nat) (s : Shared) (H : Hp), j - i = m → i ≤ j → Inv X pins σ H s → Ext H0 H →
      wpAny (model X.prog X.w) A.in1 (Builtin.«list.__contains__.loop» ⟨[.ref l, .ref a, rawInt i], []⟩) (fun fin s' => match fin with | .done f => R (.ok f) s' | .again c' => c'.quiet = true ∧ codeAny (model X.prog X.w) A c' R s') (fun e s' => R (.error e) s') s := by
  have hjl : j < bs.length := (List.getElem?_eq_some_iff.mp hj).1
  obtain ⟨hl, ham, hin, hsp⟩ := h0
  intro m
  induction m with
  | zero =>
    intro i s H hm hi I ex
    have hij : i = j := by omega
    subst hij
    obtain ⟨_, its, c, rv, _, e⟩ := I.lstM (ex _ _ hl)
    obtain ⟨u, e1, e2⟩ := rv.get (show (bs.map V.ref)[i]? = some (.ref a) by rw [List.getElem?_map, hj]; rfl)
    cases (show u = Value.ref a from e2)
    have hs : its.toArray[((i : Nat) : Int).toNat]? = some (.ref a) := by simpa using e1
    obtain ⟨d, fs, hb⟩ := hin a ham
    unfold Builtin.«list.__contains__.loop»
    refine wpAny_bind (wpAny_listItems e rfl ?_)
    rw [hs]
    dsimp only
    refine wpAny_bind (wpAny_mono (eqB S sb kn I (ex _ _ hb) (ex _ _ hb) (hsp H ex a ham)) (fun r s' h => ?_) fun e' s' h' => hE e' s' h')
    obtain ⟨hr, H', I', ex'⟩ := h
    rw [hr rfl]
    wp_walk
    exact fin s' H' I' (ex.trans ex')
  | succ m ih =>
    intro i s H hm hi I ex
    have hib : i < bs.length := by omega
    obtain ⟨_, its, c, rv, _, e⟩ := I.lstM (ex _ _ hl)
    obtain ⟨u, e1, e2⟩ := rv.get (show (bs.map V.ref)[i]? = some (.ref bs[i]) by rw [List.getElem?_map, List.getElem?_eq_getElem hib]; rfl)
    cases (show u = Value.ref bs[i] from e2)
    have hs : its.toArray[((i : Nat) : Int).toNat]? = some (.ref bs[i]) := by simpa using e1
    have hbm := List.getElem_mem hib
    obtain ⟨d, fs, hb⟩ := hin bs[i] hbm
    obtain ⟨da, fa, ha⟩ := hin a ham
    unfold Builtin.«list.__contains__.loop»
    refine wpAny_bind (wpAny_listItems e rfl ?_)
    rw [hs]
    dsimp only
    refine wpAny_bind (wpAny_mono (eqB S sb kn I (ex _ _ hb) (ex _ _ ha) (hsp H ex bs[i] hbm)) (fun r s' h => ?_) fun e' s' h' => hE e' s' h')
    obtain ⟨hr, H', I', ex'⟩ := h
    cases r with
    | true =>
      wp_walk
      exact fin s' H' I' (ex.trans ex')
    | false =>
      have hc : ((i : Int) + 1) = ((i + 1 : Nat) : Int) := by push_cast; rfl
      wp_walk
      rw [hc]
      exact ⟨plainId_quiet plain_contains_loop _, codeAny_builtin entry_contains_loop (by
        rw [Around.under_plainId plain_contains_loop _]
        exact ih (i + 1) s' H' (by omega) (by omega) I' (ex.trans ex'))⟩
def rInO (C : Addr) (sp : Sp) : R2 := fun x y H Q => ∃ (l a : Addr) (bs : List Addr), x = .ref a ∧ y = .ref l ∧ Own C sp H l a bs ∧ ∀ H', Ext H H' → Q (.bl true) H'
theorem op_inO (S : OW.Spc X.prog X.w X.K X.mg X.base k C "__eq__" sp) (hr : Room (k + 1) X.A) : OpR X (compareOp .In) (rInO C sp) := by
  intro pins s σ H x y v u Q I rx ry h
  obtain ⟨l, a, bs, rfl, rfl, h0, q⟩ := h
  cases (show v = Value.ref a from rx)
  cases (show u = Value.ref l from ry)
  obtain ⟨_, its, c, rv, _, e⟩ := I.lstM h0.1
  obtain ⟨j, hjl, hj⟩ := List.getElem_of_mem h0.2.1
  have sb : Sub X k X.A.in1 := ⟨hr.in1, rfl⟩
  show wpAny _ X.A (do return Value.bool (← contains (.ref l) (.ref a))) _ _ s
  have hT : s.TypeIs (.ref l) "list" := ⟨_, e, rfl⟩
  refine wpAny_bind (wpAny_contains_slot hT PySem.F.slot_list_contains (wpAny_mono (call_meetsIn (Q := fun v s2 => v = Value.bool true ∧ ∃ H2, Inv X pins σ H2 s2 ∧ Ext H H2) (B := Builtin.«list.__contains__») (S := fun A R s' => A = X.A ∧ s' = s ∧ (∀ e s', X.xe e s' → R (.error e) s') ∧ ∀ (s' : Shared) (H' : Hp), Inv X pins σ H' s' → Ext H H' → R (.ok (.ret (.bool true))) s')
    PySem.F.slot_list_contains hT PySem.F.entry_list_contains (PySem.F.args_list_contains_2 _ _) ?_ ⟨rfl, rfl, fun e s' z => z, fun s' H' I' ex => ?_⟩) (fun v s' hv => ?_) fun _ _ e => e))
  case refine_1 =>
    intro A R s' hS
    obtain ⟨rfl, rfl, hE, fin⟩ := hS
    unfold Builtin.«list.__contains__»
    wp_walk
    exact ⟨plainId_quiet plain_contains_loop _, codeAny_builtin entry_contains_loop (by
      rw [Around.under_plainId plain_contains_loop _]
      exact loop S sb (Nat.le_refl _) h0 hE fin (j := j) (List.getElem?_eq_some_iff.mpr ⟨hjl, hj⟩) _ 0 s' H rfl (Nat.zero_le _) I Ext.rfl')⟩
  case refine_2 => exact ⟨rfl, H', I', ex⟩
  case refine_3 =>
    obtain ⟨rfl, H', I', ex⟩ := hv
    exact wpAny_truthy_bool (wpAny_pure ⟨.bl true, H', I', rfl, q H' ex⟩)
end
end INO
set_option Elab.async false
set_option linter.all false
set_option maxRecDepth 100000
set_option maxHeartbeats 4000000
/-! OWQ: ==, != and in of instances of an own class with an own __eq__, beside things of any kind, both ways. -/
namespace OWQ
open PySem PySem.Spec PyProof.Rows L2
open PySem.SeqAt PySem.MeetsSeq
abbrev ts7 : List String := ["NoneType", "bool", "int", "str", "list", "tuple", "dict"]
/-- what is asked of the class -/
structure OwnC (K : PySem.W.Frag) (C : Addr) : Prop where
  no : ∀ T ∈ ts7, PySem.W.mroIn K C (.type T) = some false
  ne : PySem.W.findIn K (.ref C) "__ne__" = some (some (.builtin "object.__ne__"))
  ob : PySem.W.mroIn K C (.type "object") = some true
def ocB (K : PySem.W.Frag) (C : Addr) : Bool := ts7.all (fun T => decide (PySem.W.mroIn K C (.type T) = some false)) && (He.eqO (PySem.W.findIn K (.ref C) "__ne__") (some (some (.builtin "object.__ne__"))) && decide (PySem.W.mroIn K C (.type "object") = some true))
theorem ocB_ok {K : PySem.W.Frag} {C : Addr} (h : ocB K C = true) : OwnC K C := by
  unfold ocB at h
  simp only [Bool.and_eq_true] at h
  exact ⟨fun T hT => of_decide_eq_true (List.all_eq_true.mp h.1 T hT), He.eqO_ok h.2.1, of_decide_eq_true h.2.2⟩
/-- things of Python's own kinds -/
inductive TK (K : PySem.W.Frag) (H : Hp) : V → Prop
  | non : TK K H .non
  | bl {b : Bool} : TK K H (.bl b)
  | int {i : Int} : TK K H (.int i)
  | str {z : Str} : TK K H (.str z)
  | lst {a : Addr} {xs : List V} : SqL K H a xs → TK K H (.ref a)
  | tup {a : Addr} {xs : List V} : SqT K H a xs → TK K H (.ref a)
  | dct {a : Addr} {kvs : List (Key × V)} : H a = some (.dK kvs) → TK K H (.ref a)
theorem TK.ext {K : PySem.W.Frag} {H H' : Hp} {x : V} (h : TK K H x) (e : Ext H H') : TK K H' x := by
  cases h with
  | non => exact .non
  | bl => exact .bl
  | int => exact .int
  | str => exact .str
  | lst h => exact .lst (SqL.ext h e)
  | tup h => exact .tup (SqT.ext h e)
  | dct h => exact .dct (e _ _ h)
section
variable {X : Cx} {pins : List (Addr × Obj)} {σ : L2.St} {H : Hp} {s : Shared} {C a b dx : Addr} {fs : List (Str × V)}
theorem at_own (I : Inv X pins σ H s) (e : H a = some (.ins C dx fs)) : ∃ od, s.heap.get? a = some (iO C dx) ∧ PySem.W.InstAt s.heap a (iO C dx) C od := by
  obtain ⟨mA, O, _⟩ := ins_get I.hok e
  obtain ⟨od, J, _⟩ := O.look
  exact ⟨od, O.obj, J⟩
theorem noT (I : Inv X pins σ H s) (oc : OwnC X.K C) (e : H a = some (.ins C dx fs)) {T : String} (hT : T ∈ ts7) : NoT s a T := fun M => by
  obtain ⟨od, _, J⟩ := at_own I e
  exact J.type.andThen (PySem.W.looks_mroIn I.kIn (oc.no T hT))
/-- a thing of Python's own: its type, its slots, that it tells nothing -/
theorem TK.decl {x : V} {u : Value} (t : TK X.K H x) (oc : OwnC X.K C) (I : Inv X pins σ H s) (r : RelV x u) (eb : H b = some (.ins C dx fs)) : ∃ T ide idn, T ∈ ts7 ∧ s.TypeIs u T ∧ (u == .ref b) = false ∧ Slot T "__eq__" ide ∧ Slot T "__ne__" idn ∧
    (∀ (A : Around) (E Q' : Value → Shared → Prop), Q' .notImplemented s → wpAny (model X.prog X.w) A (call (.builtin ide) [u, .ref b]) Q' E s) ∧ (∀ (A : Around) (E Q' : Value → Shared → Prop), Q' .notImplemented s → wpAny (model X.prog X.w) A (call (.builtin idn) [u, .ref b]) Q' E s) := by
  obtain ⟨od, ho, J⟩ := at_own I eb
  have ne : ∀ {l : Addr} {o : Obj}, s.heap.get? l = some o → o.cls ≠ .ref C → (Value.ref l == Value.ref b) = false := fun {l o} e n => by
    by_cases h : l = b
    · subst h
      rw [ho] at e
      cases e
      exact absurd rfl n
    · exact beq_eq_false_iff_ne.mpr fun z => h (by injection z)
  cases t with
  | non =>
    cases r
    exact ⟨"NoneType", _, _, by simp, rfl, rfl, PySem.F.slot_NoneType_eq, PySem.F.slot_NoneType_ne, fun A E Q' q => call_meets PySem.F.slot_NoneType_eq rfl PySem.F.entry_NoneType_eq (PySem.F.args_NoneType_eq_2 _ _) (none_eq b C dx) ⟨ho, q⟩,
      fun A E Q' q => call_meets PySem.F.slot_NoneType_ne rfl PySem.F.entry_NoneType_ne (PySem.F.args_NoneType_ne_2 _ _) (none_ne b C dx) ⟨ho, q⟩⟩
  | bl =>
    cases r
    exact ⟨"bool", _, _, by simp, rfl, rfl, PySem.F.slot_bool_eq, PySem.F.slot_bool_ne, fun A E Q' q => call_meets PySem.F.slot_bool_eq rfl PySem.F.entry_int_eq (PySem.F.args_int_eq_2 _ _) (bool_eq b C dx _) ⟨ho, q⟩,
      fun A E Q' q => call_meets PySem.F.slot_bool_ne rfl PySem.F.entry_int_ne (PySem.F.args_int_ne_2 _ _) (bool_ne b C dx _) ⟨ho, q⟩⟩
  | int =>
    obtain ⟨t, rfl⟩ := r
    exact ⟨"int", _, _, by simp, rfl, rfl, PySem.F.slot_int_eq, PySem.F.slot_int_ne, fun A E Q' q => call_meets PySem.F.slot_int_eq rfl PySem.F.entry_int_eq (PySem.F.args_int_eq_2 _ _) (int_eq b C dx _ _) ⟨ho, q⟩,
      fun A E Q' q => call_meets PySem.F.slot_int_ne rfl PySem.F.entry_int_ne (PySem.F.args_int_ne_2 _ _) (int_ne b C dx _ _) ⟨ho, q⟩⟩
  | str =>
    obtain ⟨t, rfl⟩ := r
    exact ⟨"str", _, _, by simp, rfl, rfl, PySem.F.slot_str_eq, PySem.F.slot_str_ne, fun A E Q' q => call_meets PySem.F.slot_str_eq rfl PySem.F.entry_str_eq (PySem.F.args_str_eq_2 _ _) (str_eq b C dx _ _) ⟨ho, q⟩,
      fun A E Q' q => call_meets PySem.F.slot_str_ne rfl PySem.F.entry_str_ne (PySem.F.args_str_ne_2 _ _) (str_ne b C dx _ _) ⟨ho, q⟩⟩
  | @lst l xs hs =>
    cases r
    obtain ⟨its, _, ⟨o, n, hl, hc, _, hd⟩, _⟩ := I.list hs
    have tl : s.TypeIs (.ref l) "list" := ⟨o, hl, hc⟩
    have nn := noT I oc eb (T := "list") (by simp)
    exact ⟨"list", _, _, by simp, tl, ne hl (by rw [hc]; simp), PySem.F.slot_list_eq, PySem.F.slot_list_ne, fun A E Q' q => call_meets PySem.F.slot_list_eq tl PySem.F.entry_list_eq (PySem.F.args_list_eq_2 _ _) (list_eq l b) ⟨nn, q⟩,
      fun A E Q' q => call_meets PySem.F.slot_list_ne tl PySem.F.entry_list_ne (PySem.F.args_list_ne_2 _ _) (list_ne l b) ⟨nn, q⟩⟩
  | @tup l xs hs =>
    cases r
    obtain ⟨its, _, ⟨o, hl, hc, n, hd⟩, _⟩ := I.tuple hs
    have tl : s.TypeIs (.ref l) "tuple" := ⟨o, hl, hc⟩
    have nn := noT I oc eb (T := "tuple") (by simp)
    exact ⟨"tuple", _, _, by simp, tl, ne hl (by rw [hc]; simp), PySem.F.slot_tuple_eq, PySem.F.slot_tuple_ne, fun A E Q' q => call_meets PySem.F.slot_tuple_eq tl PySem.F.entry_tuple_eq (PySem.F.args_tuple_eq_2 _ _) (tuple_eq l b) ⟨nn, q⟩,
      fun A E Q' q => call_meets PySem.F.slot_tuple_ne tl PySem.F.entry_tuple_ne (PySem.F.args_tuple_ne_2 _ _) (tuple_ne l b) ⟨nn, q⟩⟩
  | @dct l kvs hd =>
    cases r
    have D := EQB.isDct I hd
    obtain ⟨⟨cls, dd, data, sl⟩, es, ep, hl, hc, hdd⟩ := id D
    simp only at hc hdd
    subst hc hdd
    have tl : s.TypeIs (.ref l) "dict" := ⟨_, hl, rfl⟩
    have nn := noT I oc eb (T := "dict") (by simp)
    exact ⟨"dict", _, _, by simp, tl, ne hl (by simp), PySem.F.slot_dict_eq, PySem.F.slot_dict_ne, fun A E Q' q => call_meets PySem.F.slot_dict_eq tl PySem.F.entry_dict_eq (PySem.F.args_dict_eq_2 _ _) (dict_eq l b es ep dd sl) ⟨hl, nn, q⟩,
      fun A E Q' q => call_meets PySem.F.slot_dict_ne tl PySem.F.entry_dict_ne (PySem.F.args_dict_ne_2 _ _) (dict_ne l b es ep dd sl) ⟨hl, nn, q⟩⟩
/-! ### the own class's own turn -/
variable {k : Nat} {sp : Sp} {y : V} {u : Value} {A : Around} {r : Bool}
/-- its __eq__, asked -/
theorem try_eq (S : OW.Spc X.prog X.w X.K X.mg X.base k C "__eq__" sp) (sb : Sub X k A) (I : Inv X pins σ H s) (ea : H a = some (.ins C dx fs)) (ru : RelV y u) (hsp : sp [.ref a, y] H (fun v H' => v = .bl r ∧ Ext H H') E0) :
    wpAny (model X.prog X.w) A (tryCompare (.ref a) "__eq__" u) (fun z s' => z = some (.bool r) ∧ ∃ H', Inv X pins σ H' s' ∧ Ext H H') X.xe s := by
  obtain ⟨f, fd, ps, h1, h2, F, hbi⟩ := S.ex
  obtain ⟨od, _, J⟩ := at_own I ea
  have e0 : Env0 X.prog X.w X.K X.mg X.base A X.stack s H := by
    have z := I.env0
    exact ⟨sb.fr.trans z.frames, z.mod, z.bs, z.bsz, z.funs, z.frf, z.hok, z.bare⟩
  unfold tryCompare
  refine wpAny_bind (PySem.W.ifBound_K I.kIn J h1 h2 (wpAny_mono (OW.run_at (E' := X.xe) (vs := [.ref a, y]) F hbi sb.room I e0 (.cons rfl (.cons ru .nil)) hsp) (fun w s' z => ?_) fun _ _ x => x))
  obtain ⟨z', H', I', rz, rfl, e⟩ := z
  cases (show w = Value.bool r from rz)
  exact wpAny_pure ⟨rfl, H', I', e⟩
open Builtin in
/-- its __ne__ (object's), asked -/
theorem try_ne (S : OW.Spc X.prog X.w X.K X.mg X.base k C "__eq__" sp) (oc : OwnC X.K C) (sb : Sub X (k + 1) A) (I : Inv X pins σ H s) (ea : H a = some (.ins C dx fs)) (ru : RelV y u) (hsp : sp [.ref a, y] H (fun v H' => v = .bl r ∧ Ext H H') E0) :
    wpAny (model X.prog X.w) A (tryCompare (.ref a) "__ne__" u) (fun z s' => z = some (.bool (!r)) ∧ ∃ H', Inv X pins σ H' s' ∧ Ext H H') X.xe s := by
  obtain ⟨f, fd, ps, h1, h2, F, hbi⟩ := S.ex
  obtain ⟨od, _, J⟩ := at_own I ea
  have KI := I.kIn
  have e0 : Env0 X.prog X.w X.K X.mg X.base A.in1 X.stack s H := by
    have z := I.env0
    exact ⟨sb.in1.fr.trans z.frames, z.mod, z.bs, z.bsz, z.funs, z.frf, z.hok, z.bare⟩
  have callEq : wpAny (model X.prog X.w) A.in1 (call (.ref f) [.ref a, u]) (fun v s' => v = .bool r ∧ ∃ H', Inv X pins σ H' s' ∧ Ext H H') X.xe s := by
    refine wpAny_mono (OW.run_at (E' := X.xe) (vs := [.ref a, y]) F hbi sb.in1.room I e0 (.cons rfl (.cons ru .nil)) hsp) (fun w s' z => ?_) fun _ _ x => x
    obtain ⟨z', H', I', rz, rfl, e⟩ := z
    exact ⟨rz, H', I', e⟩
  have slot := PySem.F.cmp_object.ne
  have sub : PySem.W.Looks (model X.prog X.w) s.heap (isInstance (.ref a) (.type "object")) true := J.type.andThen (PySem.W.looks_mroIn KI oc.ob)
  have uu : A.in1.units < cLine := sb.in1.room.units0
  have body : wpAny (model X.prog X.w) A.in1 (Builtin.«object.__ne__» ⟨[.ref a, u], []⟩) (fun fin s' => match fin with | .done f => (match f with | .ret v => v = .bool (!r) ∧ ∃ H', Inv X pins σ H' s' ∧ Ext H H' | _ => False) | .again _ => False) X.xe s := by
    unfold Builtin.«object.__ne__»
    repeat (first
      | with_reducible refine wpAny_cRoomFor uu ?_
      | (refine wpAny_bind (m := callSpecialIfBound? (.ref a) (Str.ofString "__eq__") [u]) (PySem.W.ifBound_K KI J h1 h2 (wpAny_mono callEq (fun r' s' hr => by
          obtain ⟨rfl, hq⟩ := hr
          repeat (first | exact ⟨rfl, hq⟩ | exact wpAny_pure ⟨rfl, hq⟩ | (refine wpAny_bind (m := truthy (.bool _)) (wpAny_truthy_bool ?_)) | wp_step)) fun _ _ e => e)))
      | wp_step)
  have callNe : wpAny (model X.prog X.w) A (call (.builtin "object.__ne__") [.ref a, u]) (fun v s' => v = .bool (!r) ∧ ∃ H', Inv X pins σ H' s' ∧ Ext H H') X.xe s := by
    refine wpAny_call (codeAny_call_builtin slot.plain PySem.F.cmpEntry_ne (PySem.W.check_slot PySem.F.cmpKind_ne PySem.F.cmpSplit_ne sub (PySem.F.cmpArgs_ne _ _) ?_))
    refine wpAny_mono body (fun fin s' z => ?_) fun _ _ x => x
    cases fin with
    | done fl =>
      cases fl with
      | ret v => exact z
      | next => exact z.elim
      | brk => exact z.elim
      | cont => exact z.elim
    | again c => exact z.elim
  have fin : wpAny (model X.prog X.w) A (call (.builtin "object.__ne__") ([.ref a] ++ [u]) >>= fun v => pure (some v)) (fun z s' => z = some (.bool (!r)) ∧ ∃ H', Inv X pins σ H' s' ∧ Ext H H') X.xe s :=
    wpAny_bind (wpAny_mono callNe (fun v s' h' => wpAny_pure ⟨by rw [h'.1], h'.2⟩) fun _ _ h' => h')
  have bound : wpAny (model X.prog X.w) A (callSpecialIfBound? (.ref a) "__ne__" [u]) (fun z s' => z = some (.bool (!r)) ∧ ∃ H', Inv X pins σ H' s' ∧ Ext H H') X.xe s := by
    simp only [callSpecialIfBound?, bindSpecialIfBound?]
    refine wpAny_holding (wpAny_bind (wpAny_bind (wpAny_bind (J.type.here ((PySem.W.looks_findIn KI oc.ne).here ?_)))))
    simp only [slot.bind]
    refine wpAny_bind (wpAny_askSetting (wpAny_ite ?_))
    split
    · exact wpAny_bind (wpAny_pure (wpAny_pure fin))
    · exact wpAny_tryCatch (wpAny_bind (wpAny_pure (wpAny_pure fin)))
  unfold tryCompare
  refine wpAny_bind (wpAny_mono bound (fun z s' h => ?_) fun _ _ h => h)
  obtain ⟨rfl, hq⟩ := h
  exact wpAny_pure ⟨rfl, hq⟩
end
end OWQ
set_option Elab.async false
set_option linter.all false
set_option maxRecDepth 100000
set_option maxHeartbeats 4000000
/-! OWQ2: the comparisons themselves: Cm X n x y H r says that x and y compare (==, !=, within a container) with r. -/
namespace OWQ
open PySem PySem.Spec PyProof.Rows L2
open PySem.SeqAt PySem.MeetsSeq
section
variable {X : Cx} {n k : Nat} {x y : V} {H : Hp} {r : Bool}
def CmQ (X : Cx) (n : Nat) (x y : V) (H : Hp) (r : Bool) : Prop := ∀ (A : Around) (pins : List (Addr × Obj)) (s : Shared) (σ : L2.St) (H1 : Hp) (u v : Value), Sub X n A → Inv X pins σ H1 s → Ext H H1 → RelV x u → RelV y v →
  wpAny (model X.prog X.w) A (richCompare .Eq u v) (fun z s' => z = .bool r ∧ ∃ H', Inv X pins σ H' s' ∧ Ext H1 H') X.xe s
def CmN (X : Cx) (n : Nat) (x y : V) (H : Hp) (r : Bool) : Prop := ∀ (A : Around) (pins : List (Addr × Obj)) (s : Shared) (σ : L2.St) (H1 : Hp) (u v : Value), Sub X n A → Inv X pins σ H1 s → Ext H H1 → RelV x u → RelV y v →
  wpAny (model X.prog X.w) A (richCompare .NotEq u v) (fun z s' => z = .bool (!r) ∧ ∃ H', Inv X pins σ H' s' ∧ Ext H1 H') X.xe s
def CmE (X : Cx) (n : Nat) (x y : V) (H : Hp) (r : Bool) : Prop := ∀ (A : Around) (pins : List (Addr × Obj)) (s : Shared) (σ : L2.St) (H1 : Hp) (u v : Value), Sub X n A → Inv X pins σ H1 s → Ext H H1 → RelV x u → RelV y v →
  wpAny (model X.prog X.w) A (eqBool u v) (fun z s' => z = r ∧ ∃ H', Inv X pins σ H' s' ∧ Ext H1 H') X.xe s
/-- x and y compare with r -/
structure Cm (X : Cx) (n : Nat) (x y : V) (H : Hp) (r : Bool) : Prop where
  eq : CmQ X n x y H r
  ne : CmN X n x y H r
  bq : CmE X n x y H r
theorem Cm.ext {H' : Hp} (c : Cm X n x y H r) (e : Ext H H') : Cm X n x y H' r :=
  ⟨fun A pins s σ H1 u v sb I e1 => c.eq A pins s σ H1 u v sb I (e.trans e1), fun A pins s σ H1 u v sb I e1 => c.ne A pins s σ H1 u v sb I (e.trans e1), fun A pins s σ H1 u v sb I e1 => c.bq A pins s σ H1 u v sb I (e.trans e1)⟩
theorem typeIs_looks {M : Model} {s : Shared} {u : Value} {T : String} (h : s.TypeIs u T) : PySem.W.Looks M s.heap (typeOf u) (.type T) := fun A Q E s' k q => by
  refine wpAny_typeOf ?_ q
  cases u with
  | ref a => obtain ⟨o, ho, hc⟩ := h; exact ⟨o, k _ _ ho, hc⟩
  | _ => exact h
theorem CmE.of (q : CmQ X n x y H r) (hx : (∃ a, x = .ref a) ∨ ∃ a, y = .ref a) (hs : ∀ (pins : List (Addr × Obj)) (s : Shared) (σ : L2.St) (H1 : Hp) (u v : Value), Inv X pins σ H1 s → Ext H H1 → RelV x u → RelV y v → (u == v) = true → r = true) : CmE X n x y H r := by
  intro A pins s σ H1 u v sb I e rx ry
  unfold eqBool
  refine wpAny_holding ?_
  refine wpAny_ite_split (fun h => ?_) (fun _ => ?_)
  · have hr := hs pins s σ H1 u v I e rx ry h
    subst hr
    wp_walk
    exact ⟨rfl, H1, I, Ext.rfl'⟩
  · split
    · rename_i heq
      exfalso
      rcases hx with ⟨a, rfl⟩ | ⟨a, rfl⟩
      · cases rx
        cases (Prod.mk.inj heq).1
      · cases ry
        cases (Prod.mk.inj heq).2
    · refine wpAny_bind (wpAny_mono (q A pins s σ H1 u v sb I e rx ry) (fun z s' h => ?_) fun _ _ h => h)
      obtain ⟨rfl, h⟩ := h
      exact wpAny_truthy_bool ⟨rfl, h⟩
variable {C a b dx db : Addr} {fs gs : List (Str × V)} {sp : Sp}
/-- what the own __eq__ is asked, with the answer r -/
def Ask (sp : Sp) (H : Hp) (a : Addr) (y : V) (r : Bool) : Prop := ∀ H1, Ext H H1 → sp [.ref a, y] H1 (fun v H' => v = .bl r ∧ Ext H1 H') E0
theorem ty_back {A : Around} {pins : List (Addr × Obj)} {s : Shared} {σ : L2.St} {H1 : Hp} (I : Inv X pins σ H1 s) (e : H1 b = some (.ins C db gs)) : ∃ od, PySem.W.InstAt s.heap b (iO C db) C od := by
  obtain ⟨od, _, J⟩ := at_own I e
  exact ⟨od, J⟩
open Builtin in
/-- the own one first: its turn decides -/
theorem front {op : CmpOp} {A : Around} {pins : List (Addr × Obj)} {s : Shared} {σ : L2.St} {H1 : Hp} {u tb : Value} {w : Value} (hop : op = .Eq ∨ op = .NotEq) (sb : Sub X n A) (I : Inv X pins σ H1 s) (ea : H1 a = some (.ins C dx fs)) (hb : PySem.W.Looks (model X.prog X.w) s.heap (typeOf u) tb) (hn : PySem.W.notFirst X.K C tb = true)
    (one : wpAny (model X.prog X.w) A (tryCompare (.ref a) (cmpInfo op).2.1 u) (fun z s' => z = some w ∧ ∃ H', Inv X pins σ H' s' ∧ Ext H1 H') X.xe s) :
    wpAny (model X.prog X.w) A (richCompare op (.ref a) u) (fun z s' => z = w ∧ ∃ H', Inv X pins σ H' s' ∧ Ext H1 H') X.xe s := by
  obtain ⟨od, J⟩ := ty_back (A := A) I ea
  have one' : wpAny (model X.prog X.w) A (tryCompare (.ref a) (cmpInfo op).2.1 u) (fun z s' => ∃ v, z = some v ∧ v = w ∧ ∃ H', Inv X pins σ H' s' ∧ Ext H1 H') X.xe s := wpAny_mono one (fun z s' h => ⟨w, h.1, rfl, h.2⟩) fun _ _ h => h
  unfold richCompare
  simp only [oneThing_ref]
  refine wpAny_holding (wpAny_bind (wpAny_cRoomFor sb.room.units0 ?_))
  refine wpAny_bind (J.type.here (wpAny_bind (hb.here ?_)))
  split
  · rename_i q
    have e : PySem.W.subIn X.K tb (.ref C) = some false := by
      rcases Bool.or_eq_true_iff.mp hn with e | e
      · rw [beq_iff_eq.mp e] at q; simp at q
      · exact beq_iff_eq.mp e
    refine wpAny_bind ((PySem.W.looks_subIn I.kIn e).here ?_)
    simp only [Bool.false_eq_true, if_false]
    refine wpAny_bind (wpAny_mono one' (fun r s' z => ?_) fun _ _ e => e)
    obtain ⟨v, rfl, hq⟩ := z
    exact wpAny_pure hq
  · refine wpAny_bind (wpAny_pure ?_)
    simp only [Bool.false_eq_true, if_false]
    refine wpAny_bind (wpAny_mono one' (fun r s' z => ?_) fun _ _ e => e)
    obtain ⟨v, rfl, hq⟩ := z
    exact wpAny_pure hq
/-- the own one behind a thing that tells nothing -/
theorem back {op : CmpOp} {A : Around} {pins : List (Addr × Obj)} {s : Shared} {σ : L2.St} {H1 : Hp} {u : Value} {w : Value} {T id : String} (sb : Sub X n A) (I : Inv X pins σ H1 s) (eb : H1 b = some (.ins C db gs)) (hT : PySem.W.mroIn X.K C (.type T) = some false) (tu : s.TypeIs u T) (slot : Slot T (cmpInfo op).2.1 id)
    (hc : ∀ Q' : Value → Shared → Prop, Q' .notImplemented s → wpAny (model X.prog X.w) A (call (.builtin id) [u, .ref b]) Q' X.xe s)
    (one : wpAny (model X.prog X.w) A (tryCompare (.ref b) (cmpInfo op).2.2 u) (fun z s' => z = some w ∧ ∃ H', Inv X pins σ H' s' ∧ Ext H1 H') X.xe s) :
    wpAny (model X.prog X.w) A (richCompare op u (.ref b)) (fun z s' => z = w ∧ ∃ H', Inv X pins σ H' s' ∧ Ext H1 H') X.xe s := by
  obtain ⟨od, J⟩ := ty_back (A := A) I eb
  have one' : wpAny (model X.prog X.w) A (tryCompare (.ref b) (cmpInfo op).2.2 u) (fun z s' => ∃ v, z = some v ∧ v = w ∧ ∃ H', Inv X pins σ H' s' ∧ Ext H1 H') X.xe s := wpAny_mono one (fun z s' h => ⟨w, h.1, rfl, h.2⟩) fun _ _ h => h
  rcases hi : cmpInfo op with ⟨sym, f, r⟩
  rw [hi] at slot one'
  simp only [richCompare, hi, tu.oneThing_none]
  try with_reducible refine wpAny_holding ?_
  refine wpAny_bind (wpAny_cRoomFor_or (.inr sb.room.units0) ?_)
  refine wpAny_bind (wpAny_typeOf tu (wpAny_bind (J.type.here ?_)))
  have hne : (Value.type T != Value.ref C) = true := rfl
  simp only [hne, if_true]
  refine wpAny_bind ((PySem.W.looks_mroIn I.kIn hT).here ?_)
  simp only [Bool.false_eq_true, if_false, Bool.not_false, if_true]
  refine wpAny_bind (m := tryCompare u _ (.ref b)) (wpAny_tryCompare_declines tu slot (hc _ ⟨rfl, ?_⟩))
  refine wpAny_bind (m := tryCompare (.ref b) _ u) (wpAny_mono one' (fun r s' z => ?_) fun _ _ e => e)
  obtain ⟨v, rfl, hq⟩ := z
  exact wpAny_pure hq
theorem nf_type {K : PySem.W.Frag} {T : String} (h : T ∈ ts7) : PySem.W.notFirst K C (.type T) = true := by
  have e : PySem.W.subIn K (.type T) (.ref C) = some false := by
    simp only [List.mem_cons, List.not_mem_nil, or_false] at h
    rcases h with rfl | rfl | rfl | rfl | rfl | rfl | rfl <;> rfl
  unfold PySem.W.notFirst
  rw [e]
  simp
/-- an own one beside a thing of Python's own kinds -/
theorem Cm.own (S : OW.Spc X.prog X.w X.K X.mg X.base k C "__eq__" sp) (oc : OwnC X.K C) (ea : H a = some (.ins C dx fs)) (t : TK X.K H y) (h : Ask sp H a y false) : Cm X (k + 1) (.ref a) y H false := by
  have q : CmQ X (k + 1) (.ref a) y H false := by
    intro A pins s σ H1 u v sb I e rx ry
    cases rx
    obtain ⟨T, ide, idn, hT, tu, _, _⟩ := (t.ext e).decl oc I ry (e _ _ ea)
    exact front (.inl rfl) sb I (e _ _ ea) (typeIs_looks tu) (nf_type hT) (try_eq S (sb.mono (Nat.le_succ _)) I (e _ _ ea) ry (h H1 e))
  refine ⟨q, ?_, CmE.of q (.inl ⟨_, rfl⟩) fun pins s σ H1 u v I e rx ry hb => ?_⟩
  · intro A pins s σ H1 u v sb I e rx ry
    cases rx
    obtain ⟨T, ide, idn, hT, tu, _, _⟩ := (t.ext e).decl oc I ry (e _ _ ea)
    exact front (.inr rfl) sb I (e _ _ ea) (typeIs_looks tu) (nf_type hT) (try_ne S oc sb I (e _ _ ea) ry (h H1 e))
  · cases rx
    obtain ⟨T, ide, idn, hT, tu, hne, _⟩ := (t.ext e).decl oc I ry (e _ _ ea)
    rw [beq_iff_eq.mp hb] at hne
    simp at hne
/-- a thing of Python's own kinds beside an own one -/
theorem Cm.back (S : OW.Spc X.prog X.w X.K X.mg X.base k C "__eq__" sp) (oc : OwnC X.K C) (ea : H a = some (.ins C dx fs)) (t : TK X.K H y) (h : Ask sp H a y false) : Cm X (k + 1) y (.ref a) H false := by
  have q : CmQ X (k + 1) y (.ref a) H false := by
    intro A pins s σ H1 u v sb I e rx ry
    cases ry
    obtain ⟨T, ide, idn, hT, tu, hne, se, sn, de, dn⟩ := (t.ext e).decl oc I rx (e _ _ ea)
    exact OWQ.back (op := .Eq) sb I (e _ _ ea) (oc.no T hT) tu se (de A X.xe) (try_eq S (sb.mono (Nat.le_succ _)) I (e _ _ ea) rx (h H1 e))
  refine ⟨q, ?_, CmE.of q (.inr ⟨_, rfl⟩) fun pins s σ H1 u v I e rx ry hb => ?_⟩
  · intro A pins s σ H1 u v sb I e rx ry
    cases ry
    obtain ⟨T, ide, idn, hT, tu, hne, se, sn, de, dn⟩ := (t.ext e).decl oc I rx (e _ _ ea)
    exact OWQ.back (op := .NotEq) sb I (e _ _ ea) (oc.no T hT) tu sn (dn A X.xe) (try_ne S oc sb I (e _ _ ea) rx (h H1 e))
  · cases ry
    obtain ⟨T, ide, idn, hT, tu, hne, _⟩ := (t.ext e).decl oc I rx (e _ _ ea)
    rw [hb] at hne
    cases hne
/-- two of the class -/
theorem Cm.two (S : OW.Spc X.prog X.w X.K X.mg X.base k C "__eq__" sp) (oc : OwnC X.K C) (ea : H a = some (.ins C dx fs)) (eb : H b = some (.ins C db gs)) (h : Ask sp H a (.ref b) r) (hr : a = b → r = true) : Cm X (k + 1) (.ref a) (.ref b) H r := by
  have q : CmQ X (k + 1) (.ref a) (.ref b) H r := by
    intro A pins s σ H1 u v sb I e rx ry
    cases rx
    cases ry
    obtain ⟨od, J⟩ := ty_back (A := A) I (e _ _ eb)
    exact front (.inl rfl) sb I (e _ _ ea) J.type OW.same_first (try_eq S (sb.mono (Nat.le_succ _)) I (e _ _ ea) (show RelV (.ref b) (.ref b) from rfl) (h H1 e))
  refine ⟨q, ?_, CmE.of q (.inl ⟨_, rfl⟩) fun pins s σ H1 u v I e rx ry hb => ?_⟩
  · intro A pins s σ H1 u v sb I e rx ry
    cases rx
    cases ry
    obtain ⟨od, J⟩ := ty_back (A := A) I (e _ _ eb)
    exact front (.inr rfl) sb I (e _ _ ea) J.type OW.same_first (try_ne S oc sb I (e _ _ ea) (show RelV (.ref b) (.ref b) from rfl) (h H1 e))
  · cases rx
    cases ry
    refine hr ?_
    have := beq_iff_eq.mp hb
    injection this
/-! ### the operators -/
def rCm (X : Cx) (n : Nat) (neg : Bool) : R2 := fun x y H Q => ∃ r, Cm X n x y H r ∧ ∀ H', Ext H H' → Q (.bl (if neg = true then !r else r)) H'
theorem op_eqQ (hr : Room n X.A) : OpR X (compareOp .Eq) (rCm X n false) := by
  intro pins s σ H x y v u Q I rx ry h
  obtain ⟨r, c, q⟩ := h
  show wpAny _ _ (richCompare .Eq v u) _ _ _
  refine wpAny_mono (c.eq X.A pins s σ H v u ⟨hr, rfl⟩ I Ext.rfl' rx ry) (fun z s' h => ?_) fun _ _ h => h
  obtain ⟨rfl, H', I', e⟩ := h
  exact ⟨.bl r, H', I', rfl, q H' e⟩
theorem op_neQ (hr : Room n X.A) : OpR X (compareOp .NotEq) (rCm X n true) := by
  intro pins s σ H x y v u Q I rx ry h
  obtain ⟨r, c, q⟩ := h
  show wpAny _ _ (richCompare .NotEq v u) _ _ _
  refine wpAny_mono (c.ne X.A pins s σ H v u ⟨hr, rfl⟩ I Ext.rfl' rx ry) (fun z s' h => ?_) fun _ _ h => h
  obtain ⟨rfl, H', I', e⟩ := h
  exact ⟨.bl (!r), H', I', rfl, q H' e⟩
/-- the items of a list, each compared with x -/
inductive Each (X : Cx) (n : Nat) (x : V) (H : Hp) : List V → Bool → Prop
  | nil : Each X n x H [] false
  | cons {y : V} {ys : List V} {r q : Bool} : Cm X n y x H r → Each X n x H ys q → Each X n x H (y :: ys) (r || q)
theorem Each.ext {H' : Hp} {ys : List V} (h : Each X n x H ys r) (e : Ext H H') : Each X n x H' ys r := by
  induction h with
  | nil => exact .nil
  | cons c _ ih => exact .cons (c.ext e) ih
theorem Each.drop {ys : List V} (h : Each X n x H ys r) : ∀ i, ∃ q, Each X n x H (ys.drop i) q := by
  induction h with
  | nil => intro i; exact ⟨false, by rw [List.drop_nil]; exact .nil⟩
  | @cons y ys r q c t ih =>
    intro i
    cases i with
    | zero => exact ⟨_, .cons c t⟩
    | succ i => exact ih i
theorem in_loop {A : Around} (sb : Sub X n A.in1) {pins : List (Addr × Obj)} {σ : L2.St} {H0 : Hp} {l : Addr} {ys : List V} {v : Value} {R : Result → Shared → Prop} (hl : H0 l = some (.lst ys)) (rx : RelV x v)
    (hE : ∀ e s', X.xe e s' → R (.error e) s') (fin : ∀ (r : Bool) (s' : Shared) (H' : Hp), Inv X pins σ H' s' → Ext H0 H' → r = true ∨ r = false → True) :
    ∀ (m i : Nat) (q : Bool) (s : Shared) (H : Hp), ys.length - i = m → i ≤ ys.length → Each X n x H0 (ys.drop i) q → Inv X pins σ H s → Ext H0 H → (∀ (s' : Shared) (H' : Hp), Inv X pins σ H' s' → Ext H0 H' → R (.ok (.ret (.bool q))) s') →
      wpAny (model X.prog X.w) A.in1 (Builtin.«list.__contains__.loop» ⟨[.ref l, v, rawInt i], []⟩) (fun fin s' => match fin with | .done f => R (.ok f) s' | .again c' => c'.quiet = true ∧ codeAny (model X.prog X.w) A c' R s') (fun e s' => R (.error e) s') s := by
  intro m
  induction m with
  | zero =>
    intro i q s H hm hi he I ex fin
    have hd : ys.drop i = [] := List.drop_eq_nil_of_le (by omega)
    rw [hd] at he
    cases he
    obtain ⟨_, its, c, rv, _, e⟩ := I.lstM (ex _ _ hl)
    have hs : its.toArray[((i : Nat) : Int).toNat]? = none := by
      have := rv.length
      simp
      omega
    unfold Builtin.«list.__contains__.loop»
    refine wpAny_bind (wpAny_listItems e rfl ?_)
    rw [hs]
    dsimp only
    wp_walk
    exact fin s H I ex
  | succ m ih =>
    intro i q s H hm hi he I ex fin
    have hib : i < ys.length := by omega
    obtain ⟨_, its, c, rv, _, e⟩ := I.lstM (ex _ _ hl)
    obtain ⟨u, e1, e2⟩ := rv.get (List.getElem?_eq_getElem hib)
    have hs : its.toArray[((i : Nat) : Int).toNat]? = some u := by simpa using e1
    rw [List.drop_eq_getElem_cons hib] at he
    cases he with
    | @cons _ _ r q' cm t =>
      unfold Builtin.«list.__contains__.loop»
      refine wpAny_bind (wpAny_listItems e rfl ?_)
      rw [hs]
      dsimp only
      refine wpAny_bind (wpAny_mono (cm.bq A.in1 pins s σ H u v sb I ex e2 rx) (fun z s' h => ?_) fun e' s' h' => hE e' s' h')
      obtain ⟨rfl, H', I', ex'⟩ := h
      cases z with
      | true =>
        wp_walk
        exact fin s' H' I' (ex.trans ex')
      | false =>
        have hc : ((i : Int) + 1) = ((i + 1 : Nat) : Int) := by push_cast; rfl
        wp_walk
        rw [hc]
        exact ⟨plainId_quiet plain_contains_loop _, codeAny_builtin entry_contains_loop (by
          rw [Around.under_plainId plain_contains_loop _]
          exact ih (i + 1) _ s' H' (by omega) (by omega) t I' (ex.trans ex') fin)⟩
def rInQ (X : Cx) (n : Nat) (neg : Bool) : R2 := fun x y H Q => ∃ (l : Addr) (ys : List V) (r : Bool), y = .ref l ∧ H l = some (.lst ys) ∧ Each X n x H ys r ∧ ∀ H', Ext H H' → Q (.bl (if neg = true then !r else r)) H'
theorem has_list (hr : Room (n + 1) X.A) {pins : List (Addr × Obj)} {s : Shared} {σ : L2.St} {v : Value} {l : Addr} {ys : List V} (I : Inv X pins σ H s) (rx : RelV x v) (hl : H l = some (.lst ys)) (he : Each X n x H ys r) {Q : Bool → Shared → Prop} (q : ∀ s' H', Inv X pins σ H' s' → Ext H H' → Q r s') :
    wpAny (model X.prog X.w) X.A (contains (.ref l) v) Q X.xe s := by
  obtain ⟨_, its, c, rv, _, e⟩ := I.lstM hl
  have sb : Sub X n X.A.in1 := ⟨hr.in1, rfl⟩
  have hT : s.TypeIs (.ref l) "list" := ⟨_, e, rfl⟩
  refine wpAny_contains_slot hT PySem.F.slot_list_contains (wpAny_mono (call_meetsIn (Q := fun z s2 => z = Value.bool r ∧ ∃ H2, Inv X pins σ H2 s2 ∧ Ext H H2) (B := Builtin.«list.__contains__») (S := fun A R s' => A = X.A ∧ s' = s ∧ (∀ e s', X.xe e s' → R (.error e) s') ∧ ∀ (s' : Shared) (H' : Hp), Inv X pins σ H' s' → Ext H H' → R (.ok (.ret (.bool r))) s')
    PySem.F.slot_list_contains hT PySem.F.entry_list_contains (PySem.F.args_list_contains_2 _ _) ?_ ⟨rfl, rfl, fun e s' z => z, fun s' H' I' ex => ?_⟩) (fun z s' hv => ?_) fun _ _ e => e)
  case refine_1 =>
    intro A R s' hS
    obtain ⟨rfl, rfl, hE, fin⟩ := hS
    unfold Builtin.«list.__contains__»
    wp_walk
    exact ⟨plainId_quiet plain_contains_loop _, codeAny_builtin entry_contains_loop (by
      rw [Around.under_plainId plain_contains_loop _]
      exact in_loop sb hl rx hE (fun _ _ _ _ _ _ => trivial) _ 0 r s' H rfl (Nat.zero_le _) he I Ext.rfl' fin)⟩
  case refine_2 => exact ⟨rfl, H', I', ex⟩
  case refine_3 =>
    obtain ⟨rfl, H', I', ex⟩ := hv
    exact wpAny_truthy_bool (q s' H' I' ex)
theorem op_inQ (hr : Room (n + 1) X.A) : OpR X (compareOp .In) (rInQ X n false) := by
  intro pins s σ H x y v u Q I rx ry h
  obtain ⟨l, ys, r, rfl, hl, he, q⟩ := h
  cases (show u = Value.ref l from ry)
  show wpAny _ X.A (do return Value.bool (← contains (.ref l) v)) _ _ s
  exact wpAny_bind (has_list hr I rx hl he fun s' H' I' ex => wpAny_pure ⟨.bl r, H', I', rfl, q H' ex⟩)
theorem op_notInQ (hr : Room (n + 1) X.A) : OpR X (compareOp .NotIn) (rInQ X n true) := by
  intro pins s σ H x y v u Q I rx ry h
  obtain ⟨l, ys, r, rfl, hl, he, q⟩ := h
  cases (show u = Value.ref l from ry)
  show wpAny _ X.A (do return Value.bool (!(← contains (.ref l) v))) _ _ s
  exact wpAny_bind (has_list hr I rx hl he fun s' H' I' ex => wpAny_pure ⟨.bl (!r), H', I', rfl, q H' ex⟩)
end
end OWQ
set_option Elab.async false
set_option linter.all false
set_option maxRecDepth 100000
set_option maxHeartbeats 4000000
/-! DNB: dicts by the same keys whose values are data, compared, whatever the answer. -/
namespace DNB
open PySem PySem.Spec PyProof.Rows L2
/-- each value of the one beside the other's, as data -/
inductive Al (K : PySem.W.Frag) (H : Hp) (ls : List (Key × V)) : List (Key × V) → Bool → Prop
  | nil : Al K H ls [] true
  | cons {k : Key} {v u : V} {d e : PyData} {r : List (Key × V)} {b : Bool} : valV ls k = some u → Dp K H v d → Dp K H u e → d.canLay0 = true → e.canLay0 = true → d.depth ≤ 60 → Al K H ls r b → Al K H ls ((k, v) :: r) (PyData.eqv d e && b)
def rEq (K : PySem.W.Frag) : R2 := fun x y H Q => ∃ a b ks ls r, x = .ref a ∧ y = .ref b ∧ H a = some (.dK ks) ∧ H b = some (.dK ls) ∧ ks.length = ls.length ∧ Al K H ls ks r ∧ Q (.bl r) H
section
variable {X : Cx}
theorem hits {pins : List (Addr × Obj)} {σ : L2.St} {H : Hp} {s : Shared} (I : Inv X pins σ H s) {A : Around} (hu : A.units + 60 < cLine) {ls : List (Key × V)} {vb : List (Key × Value)} (rb : KV ls vb) {ks : List (Key × V)} {va : List (Key × Value)} (ra : KV ks va) {r : Bool} :
    Al X.K H ls ks r → PySem.W.KeqHits A s vb va r := by
  unfold KV at ra
  induction ra generalizing r with
  | nil => intro h; cases h; exact .nil
  | @cons p q ps qs h t ih =>
    intro hp
    obtain ⟨h1, h2⟩ := h
    cases hp with
    | @cons k' v' u d e r' b ev dp1 dp2 cl ce dd al =>
      have rr : RelO (some u) (valueAt vb k') := by rw [← ev]; exact rb.val k'
      obtain ⟨y, hy, ry⟩ := rr.some_of
      obtain ⟨k, v⟩ := q
      have h1' : k' = k := h1
      rw [h1'] at hy
      obtain ⟨as, r1⟩ := Dp.reads I d v' v dp1 h2
      obtain ⟨bs, r2⟩ := Dp.reads I e u y dp2 ry
      have q := SeqAt.eqAt_reads d e A s v y as bs r1 r2 cl ce (by omega)
      exact .hit hy q (ih al)
theorem op_eq (hu : X.A.units + 64 < cLine) : OpR X (compareOp .Eq) (rEq X.K) := by
  intro pins s σ H x y v u Q I rx ry h
  obtain ⟨a, b, ks, ls, r, rfl, rfl, ea, eb, hlen, hp, q⟩ := h
  obtain rfl : v = Value.ref a := rx
  obtain rfl : u = Value.ref b := ry
  obtain ⟨_, ya, va, ra, da⟩ := (show ObjOk X.prog X.w H s.heap a (.dK ks) from I.hok a _ ea)
  obtain ⟨_, yb, vb, rb, db⟩ := (show ObjOk X.prog X.w H s.heap b (.dK ls) from I.hok b _ eb)
  have hl : va.length = vb.length := by rw [← ra.length, ← rb.length]; exact hlen
  exact PySem.W.keq_eq (knd := mixKind X.prog X.w) (r := r) ya yb da db (by omega) (fun _ => hits I (A := X.A.in1) (by show X.A.units + 1 + 60 < cLine; omega) rb ra hp) (fin_bl I q (by simp [hl]))
end
end DNB
set_option Elab.async false
set_option linter.all false
set_option maxRecDepth 100000
set_option maxHeartbeats 4000000
namespace K32
open PySem PySem.Spec PyProof.Rows L2
open C8 (Cal Mak Met pe_c pe_mk pe_mt pe_mt0)
open KM (pr Sz)
open SX (S)
open OWQ IJ
structure IsP (K : PySem.W.Frag) (C : Addr) : Prop where
  ha : PySem.W.findIn K (.ref C) "__class__" = some (some (.builtin "object.__class__"))
  hn : PySem.W.specialIn K (.builtin "object.__class__") "__get__" = some (some (.builtin "getset_descriptor.__get__"))
  htk : PySem.W.takesIn K (.builtin "object.__class__") = some true
  hm : PySem.W.mroIn K C (.type "object") = some true
  kit : PySem.W.kitOne K (.ref C) (.ref C) = some true
  kits : ∀ T ∈ OWQ.ts7, PySem.W.kitOne K (.type T) (.ref C) = some false
/-! ### what stands, as data -/
def ruleD : Word → List Str → PyData
  | .least g, xs => .tuple [.str "least", .tuple (xs.map .str), .int g]
  | .longest, xs => .tuple [.str "longest", .tuple (xs.map .str)]
  | .rounds, xs => .tuple [.str "rounds", .tuple (xs.map .str)]
def heldD (xs : List Str) (c : Str → Int) : PyData := .tuple (xs.map fun x => .int (c x))
def keptD (xs : List Str) : Mem → PyData
  | .crd c => .tuple (xs.map fun x => .int (c x))
  | .line ln => .tuple (ln.map .str)
  | .rnd L => .tuple (L.map fun e => .tuple [.tuple (e.1.map .str), .int (e.2 : Nat)])
theorem dp_str {K : PySem.W.Frag} {H : Hp} {a : Addr} {xs : List Str} (h : H a = some (.tup (xs.map V.str))) : Dp K H (.ref a) (.tuple (xs.map .str)) := .tup (SqT.of h) (DQ.dp_strs xs)
theorem dp_ints {K : PySem.W.Frag} {H : Hp} {c : Str → Int} : ∀ xs : List Str, DpAll K H (xs.map fun x => V.int (c x)) (xs.map fun x => PyData.int (c x))
  | [] => .nil
  | x :: xs => .cons (.int _) (dp_ints xs)
theorem dp_rule {K : PySem.W.Frag} {H : Hp} {r ot : Addr} {xs : List Str} {wd : Word} (h : Rule3 H r ot xs wd) : Dp K H (.ref r) (ruleD wd xs) := by
  have e := h.hr
  have o := dp_str (K := K) h.ho
  cases wd with
  | least g => exact .tup (SqT.of e) (.cons (.str _) (.cons o (.cons (.int _) .nil)))
  | longest => exact .tup (SqT.of e) (.cons (.str _) (.cons o .nil))
  | rounds => exact .tup (SqT.of e) (.cons (.str _) (.cons o .nil))
theorem dp_held {K : PySem.W.Frag} {H : Hp} {a : Addr} {xs : List Str} {c : Str → Int} (h : Crd H a xs c) : Dp K H (.ref a) (heldD xs c) := .tup (SqT.of h) (dp_ints xs)
theorem dp_rnd {K : PySem.W.Frag} {H : Hp} {xs : List Str} : ∀ {es : List Ent}, (∀ e ∈ es, EntOk xs H e) → DpAll K H (es.map fun e => V.ref e.pt) ((es.map fun e => (e.ns, e.m)).map fun e => PyData.tuple [.tuple (e.1.map .str), .int (e.2 : Nat)])
  | [], _ => .nil
  | e :: es, h => .cons (.tup (SqT.of (h e List.mem_cons_self).1) (.cons (dp_str (h e List.mem_cons_self).2.1) (.cons (.int _) .nil))) (dp_rnd fun x hx => h x (List.mem_cons_of_mem _ hx))
theorem dp_kept {K : PySem.W.Frag} {H : Hp} {n : Nat} {wd : Word} {xs : List Str} {kp : Addr} {md : Mem} (h : KeptOk n wd xs H kp md) : Dp K H (.ref kp) (keptD xs md) := by
  cases wd with
  | least g => obtain ⟨c, rfl, h, _⟩ := h; exact dp_held h
  | longest => obtain ⟨ln, rfl, h, _⟩ := h; exact dp_str h
  | rounds => obtain ⟨es, rfl, h, q, _⟩ := h; exact .tup (SqT.of h) (dp_rnd q)
/-! ### a Turns, as data -/
structure D3 where
  r : PyData
  h : PyData
  k : PyData
def sh3 (d : D3) : Prop := SeqAt.shaped d.r = true ∧ SeqAt.shaped d.h = true ∧ SeqAt.shaped d.k = true
def TuD (K : PySem.W.Frag) (CT : Addr) (H : Hp) (tu : Addr) (d : D3) : Prop := sh3 d ∧ ∃ dx r hd kp ps, H tu = some (.ins CT dx (trF r hd kp ps)) ∧ Dp K H (.ref r) d.r ∧ Dp K H (.ref hd) d.h ∧ Dp K H (.ref kp) d.k
def eq3 (d e : D3) : Bool := PyData.eqv d.r e.r && (PyData.eqv d.h e.h && PyData.eqv d.k e.k)
inductive RtT (K : PySem.W.Frag) (CT : Addr) (H : Hp) (d : D3) : V → Bool → Prop
  | th {y : V} {T : String} : T ∈ ts7 → TyX K H y (.type T) → RtT K CT H d y false
  | tu {q : Addr} {e : D3} : TuD K CT H q e → RtT K CT H d (.ref q) (eq3 d e)
section
variable {P : Program} {w : World} {K : PySem.W.Frag} {mg : Str → Option Value} {base : Heap} {f C CT : Addr} {fd : FuncData}
def spTE (K : PySem.W.Frag) (CT : Addr) : Sp := fun vs H Q _ => ∃ (p : Addr) (y : V) (d : D3) (r : Bool), vs = [.ref p, y] ∧ TuD K CT H p d ∧ RtT K CT H d y r ∧ Q (.bl r) H
theorem ok_te (F : Dn K d_Turns_eq f fd) (b : Bl mg) (T : ClT K CT) (g : mg "Turns" = some (.ref CT)) (S' : IsP K CT) : FnOk P w K mg base CX0 1 f fd ["self", "other"] (spTE K CT) := by
  refine F.ok sc_Turns_eq (fun vs H Q E h => ?_) (fun cdv A outer s H vs Q E hr h => ?_)
  · obtain ⟨p, y, d, r, rfl, _⟩ := h
    rfl
  · obtain ⟨p, y, d, r, rfl, ⟨⟨s1, s2, s3⟩, dx, ru, hd, kp, ps, hp, q1, q2, q3⟩, rt, hQ⟩ := h
    have hu64 : (A.deeper (envOfC d_Turns_eq.qual d_Turns_eq.scope s.heap.objs.size f cdv)).units + 64 < cLine := by have := hr.un; omega
    refine ⟨_, PSs.nox (pss_one (ps_ret (pe_and (pe_callB call_isi rfl b.isi boot_isinstance (pa_cons (pv 1) (pa_cons (pe_glob (v := .ref CT) rfl g rfl) pa_nil)))
      (pe_and (pe_cmpR (op_eqD hu64) (pe_fld (pv 0) rfl) (pe_fld (pv 1) rfl) (nomark _)) (pe_and (pe_cmpR (op_eqD hu64) (pe_fld (pv 0) rfl) (pe_fld (pv 1) rfl) (nomark _)) (pe_one (pe_cmpR (op_eqD hu64) (pe_fld (pv 0) rfl) (pe_fld (pv 1) rfl) (nomark _)))))))), ?_⟩
    cases rt with
    | @th _ T' hT hty =>
      exact ⟨_, rfl, _, _, _, _, false, rfl, ClsV.own CT, hty, S'.kits T' hT, false, rfl, iteF hQ⟩
    | @tu q e hq =>
      obtain ⟨⟨t1, t2, t3⟩, dy, ru2, hd2, kp2, ps2, hq, u1, u2, u3⟩ := hq
      refine ⟨_, rfl, _, _, _, _, true, rfl, ClsV.own CT, TyX.base (TyOf.ins hq T.cl S'.ha S'.hn S'.htk S'.hm), S'.kit, true, rfl, iteT ?_⟩
      refine ⟨_, rfl, p, CT, dx, _, _, rfl, hp, T.cl, T.nr, tr_rule _ _ _ _, _, rfl, q, CT, dy, _, _, rfl, hq, T.cl, T.nr, tr_rule _ _ _ _, _, _, q1, u1, s1, t1, _, rfl, ?_⟩
      unfold eq3 at hQ
      refine ite2 (fun h1 => ?_) (fun h1 => ?_)
      · rw [h1, Bool.true_and] at hQ
        refine ⟨_, rfl, p, CT, dx, _, _, rfl, hp, T.cl, T.nh, tr_held _ _ _ _, _, rfl, q, CT, dy, _, _, rfl, hq, T.cl, T.nh, tr_held _ _ _ _, _, _, q2, u2, s2, t2, _, rfl, ?_⟩
        refine ite2 (fun h2 => ?_) (fun h2 => ?_)
        · rw [h2, Bool.true_and] at hQ
          exact ⟨_, rfl, p, CT, dx, _, _, rfl, hp, T.cl, T.nk, tr_kept _ _ _ _, _, rfl, q, CT, dy, _, _, rfl, hq, T.cl, T.nk, tr_kept _ _ _ _, _, _, q3, u3, s3, t3, hQ⟩
        · rw [Bool.eq_false_iff.mpr h2, Bool.false_and] at hQ
          exact hQ
      · rw [Bool.eq_false_iff.mpr h1, Bool.false_and] at hQ
        exact hQ
end
/-- dues: a dict of fractions, by names -/
def Due (H : Hp) (d : Addr) (xs : List Str) (c : Str → Int) : Prop := ∃ pt : Str → Addr, H d = some (dctO xs fun x => .ref (pt x)) ∧ ∀ x ∈ xs, H (pt x) = some (tupP (pr (rt (c x))))
theorem Due.same {H H' : Hp} {d : Addr} {xs : List Str} {c : Str → Int} (h : Due H d xs c) (s : Same H H') : Due H' d xs c := by
  obtain ⟨pt, h1, h2⟩ := h
  exact ⟨pt, s _ _ h1, fun x hx => s _ _ (h2 x hx)⟩
/-- one of them is put -/
theorem Due.put {H : Hp} {d t : Addr} {xs : List Str} {c : Str → Int} {pt : Str → Addr} {y : Str} {v : Int} (h1 : H d = some (dctO xs fun x => .ref (pt x))) (h2 : ∀ x ∈ xs, H (pt x) = some (tupP (pr (rt (c x))))) (hy : y ∈ xs) (ht : H t = some (tupP (pr (rt v)))) :
    Due (upd H d (.dK (putK (xs.map fun x => ((Sum.inr x : Key), V.ref (pt x))) (Sum.inr y) (.ref t)))) d xs (fun x => if x = y then v else c x) := by
  refine ⟨fun x => if x = y then t else pt x, ?_, fun x hx => ?_⟩
  · rw [upd_same, DQ.put_old (fun x => V.ref (pt x)) hy]
    show some (HO.dK _) = some (HO.dK _)
    congr 2
    refine List.map_congr_left fun x _ => ?_
    show ((Sum.inr x : Key), if x = y then V.ref t else V.ref (pt x)) = ((Sum.inr x : Key), V.ref (if x = y then t else pt x))
    by_cases q : x = y
    · rw [if_pos q, if_pos q]
    · rw [if_neg q, if_neg q]
  · have nd : ∀ {p : Addr} {ys : List V}, H p = some (.tup ys) → p ≠ d := fun e z => by rw [z, h1] at e; cases e
    dsimp only
    by_cases q : x = y
    · rw [if_pos q, if_pos q, upd_ne (nd ht)]
      exact ht
    · rw [if_neg q, if_neg q, upd_ne (nd (h2 x hx))]
      exact h2 x hx
section
variable {P : Program} {w : World} {K : PySem.W.Frag} {mg : Str → Option Value} {base : Heap} {f C CT : Addr} {fd : FuncData}
def spGn : Sp := fun vs H Q _ => ∃ (d rd : Addr) (xs R : List Str) (y : Str) (c : Str → Int), vs = [.ref d, .ref rd, .str y] ∧ Due H d xs c ∧ xs.length ≤ 8 ∧ H rd = some (.lst (R.map V.str)) ∧ DayOk xs R ∧ y ∈ R ∧ (∀ x, (c x).natAbs ≤ 1000000) ∧
  ∀ D H', Same H H' → H D = none → Due H' D xs (nxt R y c) → Q (.ref D) H'
theorem ok_gn (F : Dn K d_l_gone f fd) (b : Bl mg) (bd : mg "dict" = none) (cA : Cal P w K mg base 2 "_law_add" spAdd []) : FnOk P w K mg base CX0 3 f fd ["_law_due", "_law_riders", "_law_driver"] spGn := by
  refine F.ok sc_l_gone (fun vs H Q E h => ?_) (fun cdv A outer s H vs Q E hr h => ?_)
  · obtain ⟨d, rd, xs, R, y, c, rfl, _⟩ := h
    rfl
  · obtain ⟨d, rd, xs, R, y, c, rfl, ⟨pt, hd, hv⟩, l8, hrd, dy, hy, cb, hQ⟩ := h
    have hu := hu_of hr
    refine ⟨_, PSs.nox (pss_cons (ps_set (i := 3) sc_l_gone.nd rfl (.inl rfl) (pe_callTy call_dictD rfl bd boot_dict (pa_cons (pv 0) pa_nil)))
      (pss_cons (ps_for PassesOwn.never rfl (pi_list (pv 1)) (pg_name (i := 4) sc_l_gone.nd rfl (.inl rfl))
        (pss_one (ps_dput hu (pv 3) (pv 4) (pe_c cA hr (by decide) rfl (pa_cons (pe_dget hu (pv 3) (pv 4) (fun _ _ => rfl)) (pa_cons (pe_tup (pa_cons (pe_un un_neg pe_int) (pa_cons (pe_callB call_len_seq rfl b.len boot_len (pa_cons (pv 1) pa_nil)) pa_nil))) pa_nil))) rfl)))
      (pss_cons (ps_dput hu (pv 3) (pv 2) (pe_c cA hr (by decide) rfl (pa_cons (pe_dget hu (pv 3) (pv 2) (fun _ _ => rfl)) (pa_cons (pe_tup (pa_cons pe_int (pa_cons pe_int pa_nil))) pa_nil))) rfl)
      (pss_one (ps_ret (pv 3)))))), ?_⟩
    have rpos : 0 < R.length := List.length_pos_iff.mpr dy.ne
    have rln := dy.ln
    have k1 : (1 : Int) ≤ (R.length : Int) := by omega
    have k8 : (R.length : Int) ≤ 8 := by omega
    have yx := dy.sub y hy
    -- the credits on the way
    obtain ⟨q, hq⟩ : ∃ q, q = (840 : Int).fdiv (R.length : Int) := ⟨_, rfl⟩
    have q0 : 0 ≤ q ∧ q ≤ 840 := by
      rw [hq, Int.fdiv_eq_ediv_of_nonneg _ (by omega)]
      exact ⟨Int.ediv_nonneg (by decide) (by omega), Int.ediv_le_self _ (by decide)⟩
    have cm : ∀ (j : Nat) (x : Str), (if x ∈ R.take j then c x - q else c x).natAbs ≤ 1001000 := fun j x => by
      have := cb x
      split <;> omega
    have sz52 : ∀ {v : Int}, v.natAbs ≤ 1001000 → KM.Sz 52 (rt v) := fun h => sz_rt (Nat.lt_of_le_of_lt h (by decide)) (by decide)
    have h0 : (fun x => if x ∈ R.take 0 then c x - q else c x) = c := by funext x; simp
    refine ⟨_, rfl, d, _, rfl, .inl hd, fun D hD => ?_⟩
    have s1 := same_new (o := dctO xs fun x => .ref (pt x)) hD
    refine ⟨_, rfl, rd, rfl, ⟨_, SqL.of (s1 _ _ hrd)⟩, for_list (K := K) (xs := R.map V.str) (fun j σ G => ∃ v4, σ = [some (.ref d), some (.ref rd), some (.str y), some (.ref D), v4] ∧ Same H G ∧ Due G D xs (fun x => if x ∈ R.take j then c x - q else c x))
      ⟨_, rfl, s1, by rw [h0]; exact ⟨pt, upd_same, fun x hx => s1 _ _ (hv x hx)⟩⟩ (fun j σ G _ z => by obtain ⟨_, _, sm, _⟩ := z; exact SqL.of (sm _ _ hrd)) ?_ ?_⟩
    · rintro j v σ G hj ⟨v4, rfl, sG, p2, hD2, hv2⟩
      rw [List.getElem?_map] at hj
      obtain ⟨z, hz, rfl⟩ := Option.map_eq_some_iff.mp hj
      have hzR := List.mem_of_getElem? hz
      have hzx := dy.sub z hzR
      have nz : z ∉ R.take j := nin_take dy.nd hz
      have dg : DGet G D (.str z) (some (.ref (p2 z))) := by
        have := DGet.k (k := Sum.inr z) hD2
        rw [DQ.val_map (fun x => V.ref (p2 x)) hzx] at this
        exact this
      refine ⟨_, rfl, _, rfl, D, _, rfl, dg, _, rfl, _, rfl, rd, _, rfl, .inl (SqL.of (sG _ _ hrd)), by show 2 ≤ sizeLine; decide, fun T2 fT2 => ?_⟩
      have sT2 := same_new (o := .tup [.int (-1), .int (((R.map V.str).length : Nat) : Int)]) fT2
      have sz := sz52 (cm j z)
      refine ⟨p2 z, T2, _, (-1, (R.length : Int)), 52, rfl, sT2 _ _ (hv2 z hzx), ?_, ⟨bd_of sz, ⟨by show (-1 : Int).natAbs < 2 ^ 52; decide, by show (0 : Int) < R.length; omega, by show (R.length : Int).natAbs < 2 ^ 52; omega⟩, by decide, by decide⟩, fun t2 ft => ?_⟩
      · show (upd G T2 _) T2 = _
        rw [upd_same, List.length_map]
        rfl
      rw [low_less _ k1 k8, ← hq]
      have st := same_new (o := tupP (pr (rt ((if z ∈ R.take j then c z - q else c z) - q)))) ft
      have s3 := sT2.trans st
      have hD3 := s3 _ _ hD2
      have P1 := Due.put (c := fun x => if x ∈ R.take j then c x - q else c x) hD3 (fun x hx => s3 _ _ (hv2 x hx)) hzx (upd_same : (upd (upd G T2 (.tup [.int (-1), .int (((R.map V.str).length : Nat) : Int)])) t2 (tupP (pr (rt ((if z ∈ R.take j then c z - q else c z) - q))))) t2 = _)
      refine ⟨_, rfl, _, rfl, D, _, rfl, DPut.k (k := Sum.inr z) hD3 (by rw [List.length_map]; exact Nat.lt_of_lt_of_le (by omega : xs.length < 64) (by decide)), ?_⟩
      refine ⟨_, rfl, fun a o e => ?_, ?_⟩
      · rw [upd_ne (ne_of_none e hD)]
        exact s3 _ _ (sG _ _ e)
      · have et : R.take (j + 1) = R.take j ++ [z] := by rw [List.take_succ, hz]; rfl
        have ef : (fun x => if x ∈ R.take (j + 1) then c x - q else c x) = fun x => if x = z then (if z ∈ R.take j then c z - q else c z) - q else if x ∈ R.take j then c x - q else c x := by
          funext x
          rw [et]
          by_cases e : x = z
          · subst e
            simp [nz]
          · simp [e]
        rw [ef]
        exact P1
    · rintro σ G ⟨v4, rfl, sG, p2, hD2, hv2⟩
      rw [List.length_map, List.take_length] at hv2
      have dg : DGet G D (.str y) (some (.ref (p2 y))) := by
        have := DGet.k (k := Sum.inr y) hD2
        rw [DQ.val_map (fun x => V.ref (p2 x)) yx] at this
        exact this
      refine ⟨_, rfl, _, rfl, D, _, rfl, dg, by show 2 ≤ sizeLine; decide, fun T2 fT2 => ?_⟩
      have sT2 := same_new (o := .tup [.int 1, .int 1]) fT2
      have cy : (c y - q).natAbs ≤ 1001000 := by have := cb y; omega
      have sz := sz52 cy
      have hvy : G (p2 y) = some (tupP (pr (rt (c y - q)))) := by
        have e := hv2 y yx
        dsimp only at e
        rw [if_pos hy] at e
        exact e
      refine ⟨p2 y, T2, _, (1, 1), 52, rfl, sT2 _ _ hvy, upd_same, ⟨bd_of sz, ⟨by decide, by decide, by decide⟩, by decide, by decide⟩, fun t2 ft => ?_⟩
      rw [low_plus]
      have st := same_new (o := tupP (pr (rt (c y - q + 840)))) ft
      have s3 := sT2.trans st
      have hD3 := s3 _ _ hD2
      have P1 := Due.put (c := fun x => if x ∈ R then c x - q else c x) hD3 (fun x hx => s3 _ _ (hv2 x hx)) yx (upd_same : (upd (upd G T2 (.tup [.int 1, .int 1])) t2 (tupP (pr (rt (c y - q + 840))))) t2 = _)
      refine ⟨_, rfl, _, rfl, D, _, rfl, DPut.k (k := Sum.inr y) hD3 (by rw [List.length_map]; exact Nat.lt_of_lt_of_le (by omega : xs.length < 64) (by decide)), ?_⟩
      refine ⟨_, rfl, hQ D _ (fun a o e => ?_) hD ?_⟩
      · rw [upd_ne (ne_of_none e hD)]
        exact s3 _ _ (sG _ _ e)
      · have ef : nxt R y c = fun x => if x = y then c y - q + 840 else if x ∈ R then c x - q else c x := by
          funext x
          unfold nxt
          rw [← hq]
          by_cases e : x = y
          · subst e
            rw [if_pos hy, if_pos rfl, if_pos rfl]
          · rw [if_neg e, if_neg e]
            split <;> omega
        rw [ef]
        exact P1
end
end K32
set_option Elab.async false
set_option linter.all false
set_option maxRecDepth 100000
set_option maxHeartbeats 4000000
/-! len of an instance by its own __len__ -/
namespace OW
open PySem PySem.Spec PyProof.Rows L2
section
variable {X : Cx} {k : Nat} {C : Addr} {sp : Sp}
def rLenO (C : Addr) (sp : Sp) : List V → Hp → VK → Prop := fun xs H Q => ∃ a dx fs, xs = [.ref a] ∧ H a = some (.ins C dx fs) ∧ sp [.ref a] H (fun v H' => ∃ n : Nat, v = .int n ∧ n < 1000000 ∧ Q (.int n) H') E0
theorem call_lenO (S : Spc X.prog X.w X.K X.mg X.base k C "__len__" sp) (hr : Room (k + 1) X.A) : CallR X (.builtin "len") (rLenO C sp) := by
  obtain ⟨f, fd, ps, h1, h2, F, hb⟩ := S.ex
  intro pins s σ H xs us Q I r h
  obtain ⟨a, dx, fs, rfl, ea, q⟩ := h
  obtain ⟨u, rfl, ru⟩ := vals1 r
  cases (show u = Value.ref a from ru)
  obtain ⟨mA, O, _⟩ := ins_get I.hok ea
  obtain ⟨od, J, _⟩ := O.look
  obtain ⟨m, hF⟩ := I.fr
  refine PySem.W.len_K hF I.ok.mod.kin J h1 h2 ?_
  refine wpAny_mono (run_at (E' := X.xe) (vs := [.ref a]) F hb hr.in1 I I.env0.in1 (.cons rfl .nil) q) (fun w s' z => ?_) fun _ _ x => x
  obtain ⟨z', H', I', rz, n, rfl, hn, qz⟩ := z
  obtain ⟨t, rfl⟩ := rz
  exact ⟨⟨by omega, by omega⟩, .int n, H', I'.tok _, ⟨_, rfl⟩, qz⟩
end
end OW
set_option Elab.async false
set_option linter.all false
set_option maxRecDepth 100000
set_option maxHeartbeats 4000000
/-! GE: a law's end by a promise that is asked only where no repr is under way. -/
namespace GL
open PySem PySem.Spec PyProof.Rows L2
theorem lawG {P : Program} {w : World} {K : PySem.W.Frag} {mg mb : Str → Option Value} {k : Nat} {fa a : Addr} {fd : FuncData} {x : Str} {sp : Sp} {s₁ : Shared} {vs : List Value} {ns : List Int}
    (KX : K.In s₁.heap) (hns : s₁.heap.Ns mainGlobals mg) (hb : s₁.heap.Ns builtinsNs mb) (hbb : ∀ x : Str, x ≠ "__name__" → mb x = bootBuiltins x) (hlim : s₁.heap.NoLimit) (hg : s₁.gens = #[])
    (ha : s₁.heap.get? a = some { cls := .type "list", data := .seq vs.toArray }) (hi : IntsAre vs ns) (hl : ns.length ≤ sizeLine) (hr : Room k callerA)
    (F : ∀ base : Heap, K.In base → base.Ns mainGlobals mg → FnG P w K mg base k fa fd [x] sp) (hbind : ∀ (s : Shared) (u : Value), BindsTo s fd ⟨[u], []⟩ [(x, u)])
    (hsp : ∀ H : Hp, SqL K H a (ns.map V.int) → sp [.ref a] H (fun v _ => v = .bl true) fun _ _ _ => False) :
    codeAny (model P w) callerA (.call (.ref fa) ⟨[.ref a], []⟩) (fun r s' => r = .ok (.ret (.bool true)) ∧ OldK s₁.heap s'.heap ∧ s'.os = s₁.os ∧ AllBare s'.gens) s₁ := by
  -- the script alone is tracked, as it is, or nothing
  have from_ : ∀ H : Hp, SqL K H a (ns.map V.int) → HOk P w H s₁.heap → (∀ b u, H b = some u → b = a ∧ K.lookup a = none ∧ ∃ o xs, u = .frz o (.lst xs)) →
      codeAny (model P w) callerA (.call (.ref fa) ⟨[.ref a], []⟩) (fun r s' => r = .ok (.ret (.bool true)) ∧ OldK s₁.heap s'.heap ∧ s'.os = s₁.os ∧ AllBare s'.gens) s₁ := by
    intro H hS hok hA
    have off : ∀ b, (b = a → K.lookup a ≠ none) → H b = none := fun b n => by
      cases q : H b with
      | none => rfl
      | some u => exact absurd (hA b u q).2.1 (n (hA b u q).1)
    have nsK : ∀ {b : Addr} {m : Str → Option Value}, s₁.heap.Ns b m → (hidT s₁.heap H).Ns b m := by
      rintro b m ⟨o, es, ep, e, d, r⟩
      refine ⟨o, es, ep, hidT_get e (off b fun z => ?_), d, r⟩
      subst z
      rw [ha] at e
      cases e
      cases d
    have inK : K.In (hidT s₁.heap H) := fun b o e => hidT_get (KX b o e) (off b fun z => by rw [← z, e]; simp)
    have hM : Mod K mg (hidT s₁.heap H) := ⟨inK, nsK hns, ⟨mb, nsK hb, hbb⟩, by obtain ⟨mc, h1, h2⟩ := hlim; exact ⟨mc, nsK h1, h2⟩⟩
    have nofr : ∀ b : Addr, b ∉ frs ([] : List Env) := fun b z => nomatch z
    have e0 : Env0 P w K mg (hidT s₁.heap H) callerA [] s₁ H := ⟨rfl, hM, fun b o e => of_hidT e, Nat.le_of_eq (hidT_size _ _), trivial, fun b z => absurd z (nofr b), hok, .of_eq hg⟩
    refine codeAny_mono ((F _ inK (nsK hns)).run callerA [] s₁ H ⟨[.ref a], []⟩ [.ref a] [.ref a] _ _ rfl hr e0 (hbind s₁ (.ref a)) (.cons rfl .nil) (hsp H hS)) fun r s' h => ?_
    match r, h with
    | .error e, h => exact False.elim h
    | .ok .next, h => exact False.elim h
    | .ok .brk, h => exact False.elim h
    | .ok .cont, h => exact False.elim h
    | .ok (.ret u), ⟨v, H', os, bare, un, hok', r', q⟩ =>
      cases (show v = .bl true from q)
      cases (show u = Value.bool true from r')
      refine ⟨rfl, OldK.of_keep fun b o e => ?_, os, bare⟩
      cases q : H b with
      | none => exact un.keep b o e q (nofr b) (by simp)
      | some u =>
        obtain ⟨_, _, ob, xs, rfl⟩ := hA b u q
        have e1 := (hok b _ q).1
        have e2 := (hok' b _ (un.frzs b ob _ q)).1
        rw [e] at e1
        cases e1
        exact e2
  have rv := vals_ints hi
  cases hk : K.lookup a with
  | some o =>
    have e := KX a o hk
    rw [ha] at e
    cases e
    exact from_ (fun _ => none) (.inr ⟨_, vs.toArray, _, hk, rfl, rfl, rfl, by rw [List.size_toArray, hi.length]; exact hl, by simpa using rv⟩) (fun b u z => nomatch z) (fun b u z => nomatch z)
  | none =>
    have at_ : ∀ (b : Addr) (u : HO), (if b = a then some (HO.frz { cls := .type "list", data := .seq vs.toArray } (.lst (ns.map V.int))) else none) = some u → b = a ∧ u = HO.frz { cls := .type "list", data := .seq vs.toArray } (.lst (ns.map V.int)) := fun b u z => by
      by_cases h : b = a
      · rw [if_pos h] at z
        exact ⟨h, (Option.some.inj z).symm⟩
      · rw [if_neg h] at z
        cases z
    refine from_ (fun b => if b = a then some (.frz { cls := .type "list", data := .seq vs.toArray } (.lst (ns.map V.int))) else none) (.inl (.inr ⟨{ cls := .type "list", data := .seq vs.toArray }, if_pos rfl⟩)) (fun b u z => ?_) (fun b u z => ?_)
    · obtain ⟨rfl, rfl⟩ := at_ b u z
      exact ⟨ha, by rw [List.length_map]; exact hl, vs, _, rv, ha⟩
    · obtain ⟨rfl, rfl⟩ := at_ b u z
      exact ⟨rfl, hk, _, _, rfl⟩
/-- a law: F gives the written part, the function object, the promise over every base -/
theorem walkG {l : PySem.W.OpenLaw} {n k : Nat} {q : Program} {loose : List Str} {XP : (Str → Option Value) → Heap → Prop} {YP : World → Heap → Prop} {d : DefRec} {x : Str} (hn : l.most = some n) (hn2 : n ≤ sizeLine) (hdf : d.params.defaults = []) (hr : Room k callerA)
    (F : ∀ (w : World) (mg : Str → Option Value) (fa : Addr) (h : Heap), YP w h → h.Ns mainGlobals mg → mg d.name = some (.ref fa) →
      ∃ (K : PySem.W.Frag) (fd : FuncData) (sp : Sp), K.In h ∧ (∀ (s : Shared) (u : Value), BindsTo s fd ⟨[u], []⟩ [(x, u)]) ∧
        (∀ (H : Hp) (a : Addr) (ns : List Int), ns.length ≤ n → SqL K H a (ns.map V.int) → sp [.ref a] H (fun v _ => v = .bl true) fun _ _ _ => False) ∧
        ∀ base : Heap, K.In base → base.Ns mainGlobals mg → FnG l.prog w K mg base k fa fd [x] sp) : PySem.W.WalkO q loose XP YP l.row.toRowW d [] (fun f vs => PySem.call f vs) := by
  refine Att.attach_call hn hdf fun w s₀ s₁ mg mb fa o pm cd doc a vs ns G Y ho hd hcd hmg hobj hints hlen hg => ?_
  obtain ⟨K, fd, sp, KX, hb, hsp, hF⟩ := F w mg fa _ Y G.T.g hmg
  exact lawG KX G.T.g G.T.b G.T.builtins G.T.nolimit hg hobj hints (Nat.le_trans hlen hn2) hr hF hb fun H hS => hsp H a ns hlen hS
end GL
set_option Elab.async false
set_option linter.all false
set_option maxRecDepth 100000
set_option maxHeartbeats 4000000
namespace K32
open PySem PySem.Spec PyProof.Rows L2
open C8 (Cal Mak Met pe_c pe_mk pe_mt pe_mt0)
open KM (pr Sz)
open SX (S)
open OWQ IJ
/-- a memory told, as data -/
def memD (xs : List Str) : Mem → List PyData
  | .crd c => (xs.map fun x => pr (rt (c x))).map DQ.pD
  | .line ln => ln.map .str
  | .rnd L => L.map fun e => .tuple [.tuple (e.1.map .str), .int (e.2 : Nat)]
theorem dp_of {K : PySem.W.Frag} {H : Hp} {pt : Str → Addr} {v : Str → Int × Int} : ∀ {xs : List Str}, (∀ x ∈ xs, H (pt x) = some (tupP (v x))) → DpAll K H (xs.map fun x => V.ref (pt x)) ((xs.map v).map DQ.pD)
  | [], _ => .nil
  | x :: xs, h => .cons (DQ.dp_pair (h x List.mem_cons_self)) (dp_of fun y hy => h y (List.mem_cons_of_mem _ hy))
section
variable {P : Program} {w : World} {K : PySem.W.Frag} {mg : Str → Option Value} {base : Heap} {f C CT : Addr} {fd : FuncData}
def spMy (K : PySem.W.Frag) (CT : Addr) : Sp := fun vs H Q _ => ∃ (tu r ot hd kp ps : Addr) (xs : List Str) (wd : Word) (n : Nat) (md : Mem), vs = [.ref tu] ∧ Tr CT H tu r hd kp ps ∧ Rule3 H r ot xs wd ∧ KeptOk n wd xs H kp md ∧ n ≤ 1000 ∧
  ∀ l H', Same H H' → H l = none → Dp K H' (.ref l) (.list (memD xs md)) → Q (.ref l) H'
theorem ok_my (F : Dn K d_l_memory f fd) (b : Bl mg) (T : Cl K mg C) (S' : IsP K C) (mMo : Met P w K mg base 4 CT "memory" (spMo C CT) []) (cP : Cal P w K mg base 1 "_law_pair" (spPair C) []) : FnOk P w K mg base CX0 5 f fd ["_law_turns"] (spMy K CT) := by
  refine F.ok sc_l_memory (fun vs H Q E h => ?_) (fun cdv A outer s H vs Q E hr h => ?_)
  · obtain ⟨tu, r, ot, hd, kp, ps, xs, wd, n, md, rfl, _⟩ := h
    rfl
  · obtain ⟨tu, r, ot, hd, kp, ps, xs, wd, n, md, rfl, tr, lr, kt, n1, hQ⟩ := h
    obtain ⟨dx, htu⟩ := id tr
    have ox := lr.ox
    have l8 := ox.l8
    refine ⟨_, PSs.nox (pss_one (ps_ret (pe_lc (own := [("_law_thing", 1)]) (g := gName 1) (tt := tYes) rfl sc_l_memory.nd (pi_tup (pe_mt0 mMo hr (by decide) (pv 0))) (blkOk_by (N := N_l_memory) (sc := defScope s_l_memory) (by decide +kernel))
      (fun _ _ _ _ _ => pg_name (i := 1) sc_l_memory.nd rfl (Or.inl rfl)) (fun _ _ _ _ _ => pts_nil)
      (fun _ _ _ _ _ => pe_ifExp (pt_val (pe_callB (r := rIsi K) call_isi rfl b.isi boot_isinstance (pa_cons (pv 1) (pa_cons (pe_glob (v := .ref C) rfl T.g rfl) pa_nil)))) (pe_c cP hr (by decide) rfl (pa_cons (pv 1) pa_nil)) (pv 1))))), ?_⟩
    refine ⟨_, rfl, tu, dx, _, rfl, htu, tr_no _ _ _ _ (by decide +kernel) (by decide +kernel) (by decide +kernel) (by decide +kernel), tu, r, ot, hd, kp, ps, xs, wd, n, md, rfl, tr, lr, kt, fun t H1 s1 mr => ?_⟩
    cases wd with
    | least g =>
      obtain ⟨c, ad, rfl, ht, hv, _⟩ := mr
      refine ⟨t, rfl, ⟨_, SqT.of ht⟩, fun D hD => lc_tup (xs := xs.map fun x => V.ref (ad x)) (fun j H' => ∃ pt : Str → Addr, H' D = some (.lst ((xs.take j).map fun x => V.ref (pt x))) ∧ (∀ x ∈ xs.take j, H' (pt x) = some (tupP (pr (rt (c x))))) ∧ Same H1 H')
        ⟨fun _ => 0, upd_same, fun x hx => by simp at hx, same_new hD⟩ (fun _ H' _ ⟨_, _, _, sm⟩ => SqT.of (sm _ _ ht)) ?_ ?_⟩
      · rintro j x Hh hx ⟨pt, hu', hpt, sm⟩
        have hj' : j < xs.length := by
          have := (List.getElem?_eq_some_iff.mp hx).1
          simpa using this
        rw [List.getElem?_map] at hx
        obtain ⟨z, hz, rfl⟩ := Option.map_eq_some_iff.mp hx
        have hzx := List.mem_of_getElem? hz
        have nz := nin_take ox.nd hz
        have et : xs.take (j + 1) = xs.take j ++ [z] := by rw [List.take_succ, hz]; rfl
        have hz3 := (hv z hzx).keep sm
        obtain ⟨dz, ez⟩ := id hz3
        refine ⟨rfl, ?_⟩
        refine ⟨_, rfl, _, _, _, _, true, rfl, ClsV.own C, TyX.base (TyOf.ins ez T.cl S'.ha S'.hn S'.htk S'.hm), S'.kit, true, rfl, iteT ?_⟩
        refine ⟨_, rfl, ad z, _, rfl, hz3, fun q Hk sk fq hq => ?_⟩
        have hUk := sk _ _ hu'
        refine ⟨_, hUk, ?_, fun x => if x = z then q else pt x, ?_, ?_, ?_⟩
        · rw [List.length_map, List.length_take]
          exact Nat.lt_of_lt_of_le (by omega : min j xs.length < 64) (by decide)
        · rw [upd_same, et, List.map_append]
          have e1 : (xs.take j).map (fun x => V.ref (pt x)) = (xs.take j).map fun x => V.ref (if x = z then q else pt x) := List.map_congr_left fun x hx => by rw [if_neg (show x ≠ z from fun e => nz (e ▸ hx))]
          rw [e1]
          simp
        · intro x hx
          have keep : ∀ {p : Addr} {o : HO} {zs : List V}, Hk p = some (.tup zs) → (upd Hk D o) p = some (.tup zs) := fun {p o zs} hp => by
            rw [upd_ne (fun e => by rw [e, hUk] at hp; cases hp)]
            exact hp
          show (upd Hk D _) (if x = z then q else pt x) = _
          rw [et] at hx
          rcases List.mem_append.mp hx with hx | hx
          · rw [if_neg (show x ≠ z from fun e => nz (e ▸ hx))]
            exact keep (sk _ _ (hpt x hx))
          · rw [List.mem_singleton] at hx
            rw [if_pos hx, hx]
            exact keep hq
        · intro b o e
          rw [upd_ne (ne_of_none e hD)]
          exact sk b o (sm b o e)
      · rintro H2 ⟨pt, hu', hpt, sm⟩
        rw [List.length_map, List.take_length] at hu' hpt
        exact hQ D H2 (s1.trans sm) (s1.free hD) (.lst (SqL.of hu') (dp_of (v := fun x => pr (rt (c x))) hpt))
    | longest =>
      obtain ⟨ln, rfl, ht, pm⟩ := mr
      have ll : ln.length ≤ 8 := by rw [pm.length_eq]; exact l8
      refine ⟨t, rfl, ⟨_, SqT.of ht⟩, fun D hD => lc_tup (xs := ln.map V.str) (fun j H' => H' D = some (.lst ((ln.take j).map V.str)) ∧ Same H1 H') ⟨upd_same, same_new hD⟩ (fun _ H' _ z => SqT.of (z.2 _ _ ht)) ?_ ?_⟩
      · rintro j x Hh hx ⟨hu', sm⟩
        have hj' : j < ln.length := by
          have := (List.getElem?_eq_some_iff.mp hx).1
          simpa using this
        rw [List.getElem?_map] at hx
        obtain ⟨z, hz, rfl⟩ := Option.map_eq_some_iff.mp hx
        have et : ln.take (j + 1) = ln.take j ++ [z] := by rw [List.take_succ, hz]; rfl
        refine ⟨rfl, ?_⟩
        refine ⟨_, rfl, _, _, _, _, false, rfl, ClsV.own C, TyX.base (TyOf.str _), S'.kits "str" (by simp), false, rfl, iteF ?_⟩
        refine ⟨_, rfl, _, hu', ?_, ?_, ?_⟩
        · rw [List.length_map, List.length_take]
          exact Nat.lt_of_lt_of_le (by omega : min j ln.length < 64) (by decide)
        · rw [upd_same, et, List.map_append]
          rfl
        · intro b o e
          rw [upd_ne (ne_of_none e hD)]
          exact sm b o e
      · rintro H2 ⟨hu', sm⟩
        rw [List.length_map, List.take_length] at hu'
        exact hQ D H2 (s1.trans sm) (s1.free hD) (.lst (SqL.of hu') (DQ.dp_strs ln))
    | rounds =>
      obtain ⟨es, rfl, ht, hes, le⟩ := mr
      refine ⟨t, rfl, ⟨_, SqT.of ht⟩, fun D hD => lc_tup (xs := es.map fun e => V.ref e.pt) (fun j H' => H' D = some (.lst ((es.take j).map fun e => V.ref e.pt)) ∧ Same H1 H') ⟨upd_same, same_new hD⟩ (fun _ H' _ z => SqT.of (z.2 _ _ ht)) ?_ ?_⟩
      · rintro j x Hh hx ⟨hu', sm⟩
        have hj' : j < es.length := by
          have := (List.getElem?_eq_some_iff.mp hx).1
          simpa using this
        rw [List.getElem?_map] at hx
        obtain ⟨z, hz, rfl⟩ := Option.map_eq_some_iff.mp hx
        have et : es.take (j + 1) = es.take j ++ [z] := by rw [List.take_succ, hz]; rfl
        have hzt := sm _ _ (hes z (List.mem_of_getElem? hz)).1
        refine ⟨rfl, ?_⟩
        refine ⟨_, rfl, _, _, _, _, false, rfl, ClsV.own C, TyX.base (TyOf.tup hzt), S'.kits "tuple" (by simp), false, rfl, iteF ?_⟩
        refine ⟨_, rfl, _, hu', ?_, ?_, ?_⟩
        · rw [List.length_map, List.length_take]
          exact Nat.lt_of_lt_of_le (by omega : min j es.length < 2000) (by decide)
        · rw [upd_same, et, List.map_append]
          rfl
        · intro b o e
          rw [upd_ne (ne_of_none e hD)]
          exact sm b o e
      · rintro H2 ⟨hu', sm⟩
        rw [List.length_map, List.take_length] at hu'
        exact hQ D H2 (s1.trans sm) (s1.free hD) (.lst (SqL.of hu') (dp_rnd fun e he => (hes e he).ext fun a ys z => sm _ _ z))
def spRt (C CT : Addr) : Sp := fun vs H Q _ => ∃ (tu oo d r ot hd kp ps : Addr) (xs ys : List Str) (wd : Word) (c : Str → Int) (past : List V), vs = [.ref tu, .ref oo, .ref d, .int (past.length : Nat)] ∧ Tr CT H tu r hd kp ps ∧ Rule3 H r ot xs wd ∧ Crd H hd xs c ∧ H ps = some (.lst past) ∧ past.length ≤ 1000 ∧ H oo = some (.tup (ys.map V.str)) ∧ (∀ y ∈ ys, y ∈ xs) ∧ Due H d ys c ∧
  ∀ H', Same H H' → Q (.bl true) H'
theorem ok_rt (F : Dn K d_l_right f fd) (b : Bl mg) (mS : Met P w K mg base 4 CT "stands" (spSt C CT) []) (SL : OW.Spc P w K mg base 1 CT "__len__" (spLen CT)) (cP : Cal P w K mg base 1 "_law_pair" (spPair C) []) : FnOk P w K mg base CX0 5 f fd ["_law_one", "_law_order", "_law_due", "_law_many"] (spRt C CT) := by
  refine F.ok sc_l_right (fun vs H Q E h => ?_) (fun cdv A outer s H vs Q E hr h => ?_)
  · obtain ⟨tu, oo, d, r, ot, hd, kp, ps, xs, ys, wd, c, past, rfl, _⟩ := h
    rfl
  · obtain ⟨tu, oo, d, r, ot, hd, kp, ps, xs, ys, wd, c, past, rfl, tr, lr, hc, hps, pl, hoo, sub, due, hQ⟩ := h
    obtain ⟨dx, htu⟩ := id tr
    have hu := hu_of hr
    have hu64 : (A.deeper (envOfC d_l_right.qual d_l_right.scope s.heap.objs.size f cdv)).units + 64 < cLine := by have := hr.un; omega
    refine ⟨_, PSs.nox (pss_cons (ps_set (i := 4) sc_l_right.nd rfl (.inr rfl) (pe_mt0 mS hr (by decide) (pv 0)))
      (pss_cons (ps_if (pt_cmpR op_ne (pe_callB (OW.call_lenO SL (hr.mono (by decide))) rfl b.len boot_len (pa_cons (pv 0) pa_nil)) (pv 3) (nomark _)) pss_never pss_nil)
      (pss_one (ps_ret (pe_cmpR (op_eqD hu64) (pe_lc (own := [("_law_name", 5)]) (g := gName 5) rfl sc_l_right.nd (pi_tup (pv 1)) (blkOk_by (N := N_l_right) (sc := defScope s_l_right) (by decide +kernel))
          (fun _ _ _ _ _ => pg_name (i := 5) sc_l_right.nd rfl (Or.inl rfl)) (fun _ _ _ _ _ => pts_one (pt_cmpR (r := rNeD K) (op_neD hu64) (pe_c cP hr (by decide) rfl (pa_cons (pe_dget hu (pv 4) (pv 5) (fun _ _ => rfl)) pa_nil)) (pe_dget hu (pv 2) (pv 5) (fun _ _ => rfl)) (nomark _))) (fun _ _ _ _ _ => pv 5)) (pe_lst pa_nil) (nomark _)))))), ?_⟩
    refine ⟨_, rfl, tu, dx, _, rfl, htu, tr_no _ _ _ _ (by decide +kernel) (by decide +kernel) (by decide +kernel) (by decide +kernel), tu, r, ot, hd, kp, ps, xs, wd, c, rfl, tr, lr, hc, fun D H1 ad s1 fD hD hval => ?_⟩
    refine ⟨_, rfl, tu, dx, _, rfl, s1 _ _ htu, tu, r, hd, kp, ps, past, rfl, ⟨dx, s1 _ _ htu⟩, s1 _ _ hps, past.length, rfl, by omega, _, rfl, rfl, _, rfl, ?_⟩
    rw [show (!decide (V.int (past.length : Nat) = V.int (past.length : Nat))) = false by simp]
    refine iteF ?_
    obtain ⟨pt, hdu, hdv⟩ := due.same s1
    have hoo1 := s1 _ _ hoo
    refine ⟨_, rfl, oo, rfl, ⟨_, SqT.of hoo1⟩, fun B hB => lc_tup (xs := ys.map V.str) (fun j H' => H' B = some (.lst []) ∧ Same H1 H') ⟨upd_same, same_new hB⟩ (fun _ H' _ z => SqT.of (z.2 _ _ hoo1)) ?_ ?_⟩
    · rintro j x Ha hx ⟨hBa, sm⟩
      rw [List.getElem?_map] at hx
      obtain ⟨z, hz, rfl⟩ := Option.map_eq_some_iff.mp hx
      have hzy := List.mem_of_getElem? hz
      have hzx := sub z hzy
      have dg : DGet Ha D (.str z) (some (.ref (ad z))) := by
        have := DGet.k (k := Sum.inr z) (sm _ _ hD)
        rw [DQ.val_map (fun x => V.ref (ad x)) hzx] at this
        exact this
      refine ⟨rfl, _, rfl, _, rfl, D, _, rfl, dg, ad z, _, rfl, (hval z hzx).keep sm, fun p3 Hb sb fp3 hp3 => ?_⟩
      have dg2 : DGet Hb d (.str z) (some (.ref (pt z))) := by
        have := DGet.k (k := Sum.inr z) (sb _ _ (sm _ _ hdu))
        rw [DQ.val_map (fun x => V.ref (pt x)) hzy] at this
        exact this
      refine ⟨_, rfl, _, rfl, d, _, rfl, dg2, _, _, DQ.dp_pair hp3, DQ.dp_pair (sb _ _ (sm _ _ (hdv z hzy))), DQ.sh_pair _, DQ.sh_pair _, _, rfl, ?_⟩
      rw [DQ.eq_pair]
      exact iteF ⟨sb _ _ hBa, sm.trans sb⟩
    rintro Ha ⟨hBa, sa⟩
    refine ⟨by show 0 ≤ sizeLine; decide, fun e0 fe => ?_⟩
    have s6 := same_new (o := .lst []) fe
    refine ⟨.list [], .list [], .lst (SqL.of (s6 _ _ hBa)) .nil, .lst (SqL.of upd_same) .nil, by rfl, by rfl, ?_⟩
    have ee : PyData.eqv (.list []) (.list []) = true := by simp [PyData.eqv, PyData.eqvAll]
    rw [ee]
    exact hQ _ (s1.trans (sa.trans s6))
end
end K32
set_option Elab.async false
set_option linter.all false
set_option maxRecDepth 100000
set_option maxHeartbeats 4000000
/-! SD: small data (short texts, ints below a million and a bit, lists and tuples of such): what repr and == ask of it. -/
namespace SD
open PySem PySem.Spec PyProof.Rows L2
/-- small: its weight at most n, its depth at most k -/
structure Sm (n k : Nat) (d : PyData) : Prop where
  sh : d.showable = true
  nd : d.hasDict = false
  dp : d.depth ≤ k
  ls : d.leavesShort 13 = true
  wt : d.weight ≤ n
  cl : d.canLay0 = true
structure SmA (n k : Nat) (ds : List PyData) : Prop where
  sh : PyData.showableAll ds = true
  nd : PyData.hasDictAll ds = false
  dp : PyData.depthAll ds ≤ k
  ls : PyData.leavesShortAll 13 ds = true
  wt : PyData.weightAll ds ≤ n
  cl : PyData.canLayAll0 ds = true
theorem Sm.mono {n n' k k' : Nat} {d : PyData} (h : Sm n k d) (hn : n ≤ n') (hk : k ≤ k') : Sm n' k' d := ⟨h.sh, h.nd, Nat.le_trans h.dp hk, h.ls, Nat.le_trans h.wt hn, h.cl⟩
theorem SmA.mono {n n' k k' : Nat} {ds : List PyData} (h : SmA n k ds) (hn : n ≤ n') (hk : k ≤ k') : SmA n' k' ds := ⟨h.sh, h.nd, Nat.le_trans h.dp hk, h.ls, Nat.le_trans h.wt hn, h.cl⟩
theorem Sm.int {i : Int} (h : i.natAbs < 2 ^ 20) : Sm 20 0 (.int i) := by
  have h1 : i.natAbs.log2 < 20 := by
    by_cases z : i.natAbs = 0
    · rw [z]; decide
    · exact (Nat.log2_lt z).mpr h
  refine ⟨by simp only [PyData.showable]; exact decide_eq_true (by omega), by simp only [PyData.hasDict], by simp only [PyData.depth]; omega, ?_, ?_, by simp only [PyData.canLay0]⟩
  · simp only [PyData.leavesShort]
    exact decide_eq_true (PyData.shown_int_le (Nat.lt_of_lt_of_le h (by decide)))
  · simp only [PyData.weight]
    split <;> omega
theorem Sm.str {x : Str} {n : Nat} (h : PyData.strOk x = true) (hn : x.length ≤ n) : Sm n 0 (.str x) := by
  have hn' : x.cps.size ≤ n := hn
  have hc : x.cps.toList.all (fun c => decide (c < 16 ^ 8)) = true := by
    unfold PyData.strOk at h
    rw [← Array.all_toList, List.all_eq_true] at h
    rw [List.all_eq_true]
    intro c hc
    have := of_decide_eq_true (h c hc)
    exact decide_eq_true (by omega)
  exact ⟨by simp only [PyData.showable], by simp only [PyData.hasDict], by simp only [PyData.depth]; omega, by simp only [PyData.leavesShort]; exact hc, by simp only [PyData.weight]; exact hn', by simp only [PyData.canLay0]; exact h⟩
theorem SmA.nil {k : Nat} : SmA 0 k [] := ⟨by simp only [PyData.showableAll], by simp only [PyData.hasDictAll], by simp only [PyData.depthAll]; omega, by simp only [PyData.leavesShortAll], by simp only [PyData.weightAll]; omega, by simp only [PyData.canLayAll0]⟩
theorem SmA.cons {n m k : Nat} {d : PyData} {ds : List PyData} (a : Sm n k d) (b : SmA m k ds) : SmA (n + 1 + m) k (d :: ds) := by
  refine ⟨by simp only [PyData.showableAll, a.sh, b.sh, Bool.and_self], by simp only [PyData.hasDictAll, a.nd, b.nd, Bool.or_self], ?_, by simp only [PyData.leavesShortAll, a.ls, b.ls, Bool.and_self], ?_, by simp only [PyData.canLayAll0, a.cl, b.cl, Bool.and_self]⟩
  · simp only [PyData.depthAll]
    have := a.dp
    have := b.dp
    omega
  · simp only [PyData.weightAll]
    have := a.wt
    have := b.wt
    omega
theorem SmA.map {α : Type} {n k : Nat} {g : α → PyData} : ∀ {xs : List α}, (∀ x ∈ xs, Sm n k (g x)) → SmA ((n + 1) * xs.length) k (xs.map g)
  | [], _ => SmA.nil.mono (Nat.zero_le _) (Nat.le_refl _)
  | x :: xs, h => by
    refine (SmA.cons (h x List.mem_cons_self) (SmA.map fun y hy => h y (List.mem_cons_of_mem _ hy))).mono ?_ (Nat.le_refl _)
    rw [List.length_cons, Nat.mul_add]
    omega
theorem Sm.lst {n k : Nat} {ds : List PyData} (a : SmA n k ds) : Sm n (k + 1) (.list ds) :=
  ⟨by simp only [PyData.showable]; exact a.sh, by simp only [PyData.hasDict]; exact a.nd, by simp only [PyData.depth]; have := a.dp; omega, by simp only [PyData.leavesShort]; exact a.ls, by simp only [PyData.weight]; exact a.wt, by simp only [PyData.canLay0]; exact a.cl⟩
theorem Sm.tup {n k : Nat} {ds : List PyData} (a : SmA n k ds) : Sm n (k + 1) (.tuple ds) :=
  ⟨by simp only [PyData.showable]; exact a.sh, by simp only [PyData.hasDict]; exact a.nd, by simp only [PyData.depth]; have := a.dp; omega, by simp only [PyData.leavesShort]; exact a.ls, by simp only [PyData.weight]; exact a.wt, by simp only [PyData.canLay0]; exact a.cl⟩
theorem Sm.shown {n k : Nat} {d : PyData} (a : Sm n k d) (h : 15 * n + 13 ≤ sizeLine) : d.shown.length ≤ sizeLine := by
  have := PyData.shown_le 13 (by decide) d a.ls
  have := a.wt
  omega
theorem Sm.shaped {n k : Nat} {d : PyData} (a : Sm n k d) (h : k ≤ 64) : SeqAt.shaped d = true := by
  simp only [SeqAt.shaped, a.cl, Bool.true_and]
  exact decide_eq_true (Nat.le_trans a.dp h)
theorem Sm.same {n k : Nat} {d : PyData} (a : Sm n k d) : PyData.eqv d d = true := PySem.SeqAt.eqv_refl d a.cl
theorem Sm.four {n k : Nat} {d : PyData} (a : Sm n k d) (hn : 15 * n + 13 ≤ sizeLine) (hk : k ≤ 60) : d.showable = true ∧ d.hasDict = false ∧ d.depth ≤ 60 ∧ d.shown.length ≤ sizeLine :=
  ⟨a.sh, a.nd, Nat.le_trans a.dp hk, a.shown hn⟩
end SD
set_option Elab.async false
set_option linter.all false
set_option maxRecDepth 100000
set_option maxHeartbeats 4000000
namespace K32
open PySem PySem.Spec PyProof.Rows L2
open KM (pr Sz)
open SX (S)
open OWQ IJ
/-- one of the Turns -/
structure TR where
  tu : Addr
  rt : Addr
  ot : Addr
  ps : Addr
  hd : Addr
  kp : Addr
  xs : List Str
  wd : Word
  c : Str → Int
  md : Mem
  gl : List Str
structure T1 (CT : Addr) (H : Hp) (t : TR) : Prop where
  rl : Rule3 H t.rt t.ot t.xs t.wd
  tr : Tr CT H t.tu t.rt t.hd t.kp t.ps
  ch : Crd H t.hd t.xs t.c
  cb : ∀ x, (t.c x).natAbs ≤ 1000 * t.gl.length
  ck : KeptOk t.gl.length t.wd t.xs H t.kp t.md
  pa : H t.ps = some (.lst (t.gl.map V.str))
theorem T1.same {CT : Addr} {H H' : Hp} {t : TR} (h : T1 CT H t) (s : Same H H') : T1 CT H' t := by
  obtain ⟨dx, e⟩ := h.tr
  exact ⟨h.rl.same s, ⟨dx, s _ _ e⟩, h.ch.same s, h.cb, h.ck.same s, s _ _ h.pa⟩
/-- what is true of the data alone -/
def MdOk (n : Nat) (wd : Word) (xs : List Str) : Mem → Prop
  | .crd c => (∃ g, wd = .least g) ∧ ∀ x, (c x).natAbs ≤ 1000 * n
  | .line ln => wd = .longest ∧ ln.Perm xs
  | .rnd L => wd = .rounds ∧ L.length ≤ n ∧ ∀ e ∈ L, e.2 < e.1.length ∧ e.1.length ≤ 8 ∧ (∀ x ∈ e.1, x ∈ xs) ∧ 0 < e.2
structure Dok (t : TR) : Prop where
  ox : Ord t.xs
  two : 2 ≤ t.xs.length
  ok : t.wd.ok
  cb : ∀ x, (t.c x).natAbs ≤ 1000 * t.gl.length
  n : t.gl.length ≤ 100
  md : MdOk t.gl.length t.wd t.xs t.md
theorem T1.dok {CT : Addr} {H : Hp} {t : TR} (h : T1 CT H t) (two : 2 ≤ t.xs.length) (n : t.gl.length ≤ 100) : Dok t := by
  refine ⟨h.rl.ox, two, h.rl.ok, h.cb, n, ?_⟩
  have ck := h.ck
  cases e : t.wd with
  | least g =>
    rw [e] at ck
    obtain ⟨c, em, _, b⟩ := ck
    rw [em]
    exact ⟨⟨g, rfl⟩, b⟩
  | longest =>
    rw [e] at ck
    obtain ⟨ln, em, _, p⟩ := ck
    rw [em]
    exact ⟨rfl, p⟩
  | rounds =>
    rw [e] at ck
    obtain ⟨es, em, _, q, l⟩ := ck
    rw [em]
    refine ⟨rfl, by rw [List.length_map]; exact l, fun x hx => ?_⟩
    obtain ⟨y, hy, rfl⟩ := List.mem_map.mp hx
    obtain ⟨_, _, a, b, z⟩ := q y hy
    exact ⟨a, b.1, b.2, z⟩
def d3 (t : TR) : D3 := ⟨ruleD t.wd t.xs, heldD t.xs t.c, keptD t.xs t.md⟩
def txtD (t : TR) : PyData := .tuple [ruleD t.wd t.xs, .list (memD t.xs t.md)]
theorem nm_ok {xs : List Str} (ox : Ord xs) {x : Str} (h : x ∈ xs) : PyData.strOk x = true ∧ x.length ≤ 8 := by
  obtain ⟨l, rfl, ok⟩ := ox.nm x h
  refine ⟨?_, by rw [SX.S_len]; exact ok.2.1⟩
  unfold PyData.strOk
  rw [← Array.all_toList, List.all_eq_true]
  intro c hc
  have := ok.2.2 c hc
  exact decide_eq_true (by omega)
theorem sm_names {xs ns : List Str} (ox : Ord xs) (h : ∀ x ∈ ns, x ∈ xs) (l : ns.length ≤ 8) : SD.Sm 80 1 (.tuple (ns.map .str)) :=
  (SD.Sm.tup (SD.SmA.map (n := 8) (k := 0) fun x hx => SD.Sm.str (nm_ok ox (h x hx)).1 (nm_ok ox (h x hx)).2)).mono (by omega) (by decide)
theorem sm_int {i : Int} (h : i.natAbs ≤ 1000000) : SD.Sm 20 0 (.int i) := SD.Sm.int (Nat.lt_of_le_of_lt h (by decide))
theorem word_sm (x : Str) (h : x = "least" ∨ x = "longest" ∨ x = "rounds") : SD.Sm 8 0 (.str x) := by
  rcases h with rfl | rfl | rfl <;> exact SD.Sm.str (by decide +kernel) (by decide +kernel)
theorem sm_rule {t : TR} (h : Dok t) : SD.Sm 200 2 (ruleD t.wd t.xs) := by
  have o := (sm_names h.ox (fun x hx => hx) h.ox.l8).mono (k' := 1) (Nat.le_refl _) (by decide)
  have w0 := h.ok
  cases e : t.wd with
  | least g =>
    rw [e] at w0
    have w0 : 0 ≤ g ∧ g ≤ 1000 := w0
    have i := (sm_int (i := g) (by omega)).mono (k' := 1) (Nat.le_refl _) (by decide)
    have w1 := (word_sm _ (.inl rfl)).mono (k' := 1) (Nat.le_refl _) (by decide)
    exact (SD.Sm.tup (SD.SmA.cons w1 (SD.SmA.cons o (SD.SmA.cons i SD.SmA.nil)))).mono (by decide) (by decide)
  | longest =>
    have w1 := (word_sm _ (.inr (.inl rfl))).mono (k' := 1) (Nat.le_refl _) (by decide)
    exact (SD.Sm.tup (SD.SmA.cons w1 (SD.SmA.cons o SD.SmA.nil))).mono (by decide) (by decide)
  | rounds =>
    have w1 := (word_sm _ (.inr (.inr rfl))).mono (k' := 1) (Nat.le_refl _) (by decide)
    exact (SD.Sm.tup (SD.SmA.cons w1 (SD.SmA.cons o SD.SmA.nil))).mono (by decide) (by decide)
theorem sm_held {t : TR} (h : Dok t) : SD.Sm 200 2 (heldD t.xs t.c) := by
  have l8 := h.ox.l8
  refine (SD.Sm.tup (SD.SmA.map (n := 20) (k := 0) fun x hx => sm_int ?_)).mono (by omega) (by decide)
  have := h.cb x
  have := h.n
  omega
theorem sm_ent {xs : List Str} (ox : Ord xs) {e : List Str × Nat} (h : e.2 < e.1.length ∧ e.1.length ≤ 8 ∧ (∀ x ∈ e.1, x ∈ xs) ∧ 0 < e.2) : SD.Sm 110 2 (.tuple [.tuple (e.1.map .str), .int (e.2 : Nat)]) := by
  have o := sm_names ox h.2.2.1 h.2.1
  have i := (sm_int (i := (e.2 : Nat)) (by have := h.1; have := h.2.1; omega)).mono (k' := 1) (Nat.le_refl _) (by decide)
  exact (SD.Sm.tup (SD.SmA.cons o (SD.SmA.cons i SD.SmA.nil))).mono (by decide) (by decide)
theorem sm_kept {t : TR} (h : Dok t) : SD.Sm 20000 3 (keptD t.xs t.md) := by
  have l8 := h.ox.l8
  have n := h.n
  have md := h.md
  cases e : t.md with
  | crd c =>
    rw [e] at md
    refine (SD.Sm.tup (SD.SmA.map (n := 20) (k := 0) fun x hx => sm_int ?_)).mono (by omega) (by decide)
    have := md.2 x
    omega
  | line ln =>
    rw [e] at md
    exact (sm_names h.ox (fun x hx => md.2.mem_iff.mp hx) (by rw [md.2.length_eq]; exact l8)).mono (by decide) (by decide)
  | rnd L =>
    rw [e] at md
    refine (SD.Sm.tup (SD.SmA.map (n := 110) (k := 2) fun x hx => sm_ent h.ox (md.2.2 x hx))).mono ?_ (by decide)
    have := md.2.1
    omega
theorem sm_pair {v : Int} (h : v.natAbs ≤ 1000000) : SD.Sm 50 1 (DQ.pD (pr (rt v))) := by
  have hb : (840 : Int) ≠ 0 := by decide
  have e := KM.low_eq (t := v) hb
  have l1 := KM.low_top_le (t := v) hb
  have l2 := KM.low_bot_le (t := v) hb
  have er : pr (rt v) = KM.low v 840 := e.symm
  rw [er]
  have i1 : SD.Sm 20 0 (.int (KM.low v 840).1) := sm_int (by omega)
  have i2 : SD.Sm 20 0 (.int (KM.low v 840).2) := sm_int (by omega)
  exact (SD.Sm.tup (SD.SmA.cons i1 (SD.SmA.cons i2 SD.SmA.nil))).mono (by decide) (by decide)
theorem sm_mem {t : TR} (h : Dok t) : SD.Sm 20000 3 (.list (memD t.xs t.md)) := by
  have l8 := h.ox.l8
  have n := h.n
  have md := h.md
  cases e : t.md with
  | crd c =>
    rw [e] at md
    have el : memD t.xs (.crd c) = t.xs.map fun x => DQ.pD (pr (rt (c x))) := by show (t.xs.map _).map _ = _; rw [List.map_map]; rfl
    rw [el]
    refine (SD.Sm.lst (SD.SmA.map (n := 50) (k := 1) fun x hx => sm_pair ?_)).mono (by omega) (by decide)
    have := md.2 x
    omega
  | line ln =>
    rw [e] at md
    have ll : ln.length ≤ 8 := by rw [md.2.length_eq]; exact l8
    refine (SD.Sm.lst (SD.SmA.map (n := 8) (k := 0) fun x hx => ?_)).mono (by omega) (by decide)
    have hx := md.2.mem_iff.mp hx
    exact SD.Sm.str (nm_ok h.ox hx).1 (nm_ok h.ox hx).2
  | rnd L =>
    rw [e] at md
    refine (SD.Sm.lst (SD.SmA.map (n := 110) (k := 2) fun x hx => sm_ent h.ox (md.2.2 x hx))).mono ?_ (by decide)
    have := md.2.1
    omega
theorem sm_txt {t : TR} (h : Dok t) : SD.Sm 30000 4 (txtD t) := by
  have a := (sm_rule h).mono (k' := 3) (Nat.le_refl _) (by decide)
  exact (SD.Sm.tup (SD.SmA.cons a (SD.SmA.cons (sm_mem h) SD.SmA.nil))).mono (by decide) (by decide)
theorem T1.tud {K : PySem.W.Frag} {CT : Addr} {H : Hp} {t : TR} (h : T1 CT H t) (d : Dok t) : TuD K CT H t.tu (d3 t) := by
  obtain ⟨dx, e⟩ := h.tr
  exact ⟨⟨(sm_rule d).shaped (by decide), (sm_held d).shaped (by decide), (sm_kept d).shaped (by decide)⟩, dx, _, _, _, _, e, dp_rule h.rl, dp_held h.ch, dp_kept h.ck⟩
/-! ### which are equal -/
theorem intL_le {i : Int} (h : i.natAbs ≤ 1000000) : (TX.intL i).length ≤ 4300 := Nat.le_trans (TX.intL_pow (k := 20) (Nat.lt_of_le_of_lt h (by decide)) (by decide)) (by decide)
theorem pl_name {xs : List Str} (ox : Ord xs) {x : Str} (h : x ∈ xs) : Pl (.str x) := by
  simp only [Pl]
  exact ox.nm x h
theorem pl_names {xs ns : List Str} (ox : Ord xs) (h : ∀ x ∈ ns, x ∈ xs) (l : 2 ≤ ns.length) : Pl (.tuple (ns.map .str)) := by
  simp only [Pl]
  refine ⟨by rw [List.length_map]; exact l, PlA.of fun y hy => ?_⟩
  obtain ⟨x, hx, rfl⟩ := List.mem_map.mp hy
  exact pl_name ox (h x hx)
theorem pl_int {i : Int} (h : i.natAbs ≤ 1000000) : Pl (.int i) := by
  simp only [Pl]
  exact intL_le h
theorem pl_word (x : Str) (l : List Nat) (e : x = S l) (ok : NM.ok l) : Pl (.str x) := by
  simp only [Pl]
  exact ⟨l, e, ok⟩
theorem w_least : Pl (.str "least") := pl_word _ [108, 101, 97, 115, 116] (by decide +kernel) ⟨by decide, by decide, by decide⟩
theorem w_longest : Pl (.str "longest") := pl_word _ [108, 111, 110, 103, 101, 115, 116] (by decide +kernel) ⟨by decide, by decide, by decide⟩
theorem w_rounds : Pl (.str "rounds") := pl_word _ [114, 111, 117, 110, 100, 115] (by decide +kernel) ⟨by decide, by decide, by decide⟩
theorem pl_rule {t : TR} (h : Dok t) : Pl (ruleD t.wd t.xs) := by
  have o := pl_names h.ox (fun x hx => hx) h.two
  have w0 := h.ok
  cases e : t.wd with
  | least g =>
    rw [e] at w0
    have w0 : 0 ≤ g ∧ g ≤ 1000 := w0
    simp only [ruleD, Pl, PlA]
    exact ⟨by simp, by have := w_least; simpa only [Pl] using this, by simpa only [Pl] using o, intL_le (by omega), trivial⟩
  | longest =>
    simp only [ruleD, Pl, PlA]
    exact ⟨by simp, by have := w_longest; simpa only [Pl] using this, by simpa only [Pl] using o, trivial⟩
  | rounds =>
    simp only [ruleD, Pl, PlA]
    exact ⟨by simp, by have := w_rounds; simpa only [Pl] using this, by simpa only [Pl] using o, trivial⟩
theorem pl_mem {t : TR} (h : Dok t) : PlA (memD t.xs t.md) := by
  have n := h.n
  have md := h.md
  refine PlA.of fun y hy => ?_
  cases e : t.md with
  | crd c =>
    rw [e] at md hy
    obtain ⟨q, hq, rfl⟩ := List.mem_map.mp hy
    obtain ⟨x, hx, rfl⟩ := List.mem_map.mp hq
    have hb : (840 : Int) ≠ 0 := by decide
    have l1 := KM.low_top_le (t := c x) hb
    have l2 := KM.low_bot_le (t := c x) hb
    have er : pr (rt (c x)) = KM.low (c x) 840 := (KM.low_eq (t := c x) hb).symm
    have := md.2 x
    rw [er]
    unfold DQ.pD
    simp only [Pl, PlA]
    exact ⟨by simp, intL_le (by omega), intL_le (by omega), trivial⟩
  | line ln =>
    rw [e] at md hy
    obtain ⟨x, hx, rfl⟩ := List.mem_map.mp hy
    exact pl_name h.ox (md.2.mem_iff.mp hx)
  | rnd L =>
    rw [e] at md hy
    obtain ⟨x, hx, rfl⟩ := List.mem_map.mp hy
    obtain ⟨a, b, c, d⟩ := md.2.2 x hx
    have o := pl_names h.ox c (by omega)
    simp only [Pl, PlA]
    exact ⟨by simp, by simpa only [Pl] using o, intL_le (by omega), trivial⟩
theorem pl_txt {t : TR} (h : Dok t) : Pl (txtD t) := by
  unfold txtD
  have a := pl_rule h
  have b := pl_mem h
  simp only [Pl, PlA]
  exact ⟨by simp, a, b, trivial⟩
theorem str_map_inj {a b : List Str} (h : a.map PyData.str = b.map PyData.str) : a = b := (List.map_inj_right fun x y e => by cases e; rfl).mp h
theorem rule_inj {w w' : Word} {a b : List Str} (h : ruleD w a = ruleD w' b) : w = w' ∧ a = b := by
  have k1 : ¬ ("least" : Str) = "longest" := by decide +kernel
  have k2 : ¬ ("least" : Str) = "rounds" := by decide +kernel
  have k3 : ¬ ("longest" : Str) = "rounds" := by decide +kernel
  cases w <;> cases w' <;> simp only [ruleD, PyData.tuple.injEq, List.cons.injEq, PyData.str.injEq, PyData.int.injEq, and_true, true_and, reduceCtorEq, and_false] at h
  all_goals first | exact ⟨by rw [h.2], str_map_inj h.1⟩ | exact absurd h.1 k3 | exact absurd h.1.symm k3 | exact ⟨rfl, str_map_inj h⟩ | exact absurd h.1 k1 | exact absurd h.1.symm k1 | exact absurd h.1 k2 | exact absurd h.1.symm k2
theorem rt_inj {a b : Int} (h : rt a = rt b) : a = b := by
  unfold rt at h
  have := (Rat.divInt_eq_divInt_iff (by decide) (by decide)).mp h
  omega
theorem mem_kept {n m : Nat} {wd : Word} {xs : List Str} {p q : Mem} (hp : MdOk n wd xs p) (hq : MdOk m wd xs q) : memD xs p = memD xs q ↔ keptD xs p = keptD xs q := by
  cases p with
  | crd c =>
    obtain ⟨⟨g, rfl⟩, _⟩ := hp
    cases q with
    | crd c' =>
      simp only [memD, keptD, List.map_map, PyData.tuple.injEq]
      refine ⟨fun h => ?_, fun h => ?_⟩
      · refine List.map_congr_left fun x hx => ?_
        have e := List.map_inj_left.mp h x hx
        have e2 : pr (rt (c x)) = pr (rt (c' x)) := by
          simp only [Function.comp, DQ.pD, PyData.tuple.injEq, List.cons.injEq, PyData.int.injEq, and_true] at e
          exact Prod.ext e.1 e.2
        rw [rt_inj (KM.pr_inj e2)]
      · refine List.map_congr_left fun x hx => ?_
        have e := List.map_inj_left.mp h x hx
        have e2 : c x = c' x := by simpa using e
        simp only [Function.comp, e2]
    | line _ => exact absurd hq.1 (by simp)
    | rnd _ => exact absurd hq.1 (by simp)
  | line ln =>
    obtain ⟨rfl, _⟩ := hp
    cases q with
    | crd _ => exact absurd hq.1 (by simp)
    | line ln' => simp only [memD, keptD, PyData.tuple.injEq]
    | rnd _ => exact absurd hq.1 (by simp)
  | rnd L =>
    obtain ⟨rfl, _⟩ := hp
    cases q with
    | crd _ => exact absurd hq.1 (by simp)
    | line _ => exact absurd hq.1 (by simp)
    | rnd L' => simp only [memD, keptD, PyData.tuple.injEq]
theorem pe_kept {xs : List Str} (md : Mem) : Pe (keptD xs md) := by
  cases md with
  | crd c =>
    simp only [keptD, Pe]
    refine PeA.of fun y hy => ?_
    obtain ⟨x, _, rfl⟩ := List.mem_map.mp hy
    simp only [Pe]
  | line ln =>
    simp only [keptD, Pe]
    refine PeA.of fun y hy => ?_
    obtain ⟨x, _, rfl⟩ := List.mem_map.mp hy
    simp only [Pe]
  | rnd L =>
    simp only [keptD, Pe]
    refine PeA.of fun y hy => ?_
    obtain ⟨x, _, rfl⟩ := List.mem_map.mp hy
    simp only [Pe, PeA, and_true]
    refine PeA.of fun z hz => ?_
    obtain ⟨x, _, rfl⟩ := List.mem_map.mp hz
    simp only [Pe]
theorem pe_held (xs : List Str) (c : Str → Int) : Pe (heldD xs c) := pe_kept (xs := xs) (.crd c)
theorem held_iff (xs : List Str) (c c' : Str → Int) : heldD xs c = heldD xs c' ↔ ∀ x ∈ xs, c x = c' x := by
  simp only [heldD, PyData.tuple.injEq]
  refine ⟨fun h x hx => ?_, fun h => List.map_congr_left fun x hx => by rw [h x hx]⟩
  have e := List.map_inj_left.mp h x hx
  simpa using e
/-- are the dues equal -/
def dueB (c c' : Str → Int) : List Str → Bool
  | [] => true
  | y :: ys => PyData.eqv (DQ.pD (pr (rt (c y)))) (DQ.pD (pr (rt (c' y)))) && dueB c c' ys
theorem pe_pD (q : Int × Int) : Pe (DQ.pD q) := by
  unfold DQ.pD
  simp only [Pe, PeA, and_self]
theorem dueB_iff (c c' : Str → Int) : ∀ ys : List Str, dueB c c' ys = true ↔ ∀ y ∈ ys, c y = c' y
  | [] => by simp [dueB]
  | y :: ys => by
    have e : PyData.eqv (DQ.pD (pr (rt (c y)))) (DQ.pD (pr (rt (c' y)))) = true ↔ c y = c' y := by
      rw [eqv_iff _ _ (pe_pD _) (pe_pD _)]
      refine ⟨fun h => ?_, fun h => by rw [h]⟩
      simp only [DQ.pD, PyData.tuple.injEq, List.cons.injEq, PyData.int.injEq, and_true] at h
      exact rt_inj (KM.pr_inj (Prod.ext h.1 h.2))
    simp only [dueB, Bool.and_eq_true, e, dueB_iff c c' ys, List.mem_cons, forall_eq_or_imp]
/-- the same by what is told and by == -/
theorem one_two {t u : TR} (ht : Dok t) (hu : Dok u) {ys : List Str} (st : ∀ y, y ∈ ys ↔ y ∈ t.xs) : eq3 (d3 t) (d3 u) = (decide ((txtD t).shown = (txtD u).shown) && dueB t.c u.c ys) := by
  have pr1 := (pl_rule ht).pe
  have pr2 := (pl_rule hu).pe
  have key : (eq3 (d3 t) (d3 u) = true) ↔ (decide ((txtD t).shown = (txtD u).shown) && dueB t.c u.c ys) = true := by
    simp only [eq3, d3, Bool.and_eq_true, decide_eq_true_eq, eqv_iff _ _ pr1 pr2, eqv_iff _ _ (pe_held _ _) (pe_held _ _), eqv_iff _ _ (pe_kept _) (pe_kept _), dueB_iff]
    constructor
    · rintro ⟨h1, h2, h3⟩
      obtain ⟨ew, ex⟩ := rule_inj h1
      have mu := hu.md
      rw [← ew, ← ex] at mu
      rw [← ex] at h2 h3
      have h4 := (mem_kept ht.md mu).mpr h3
      refine ⟨?_, fun y hy => (held_iff _ _ _).mp h2 y ((st y).mp hy)⟩
      unfold txtD
      rw [h1, h4, ex]
    · rintro ⟨h1, h2⟩
      have e := shown_inj (pl_txt ht) (pl_txt hu) h1
      unfold txtD at e
      simp only [PyData.tuple.injEq, List.cons.injEq, PyData.list.injEq, and_true] at e
      obtain ⟨e1, e2⟩ := e
      obtain ⟨ew, ex⟩ := rule_inj e1
      have mu := hu.md
      rw [← ew, ← ex] at mu
      rw [← ex] at e2 ⊢
      exact ⟨by rw [ew], (held_iff _ _ _).mpr fun x hx => h2 x ((st x).mpr hx), (mem_kept ht.md mu).mp e2⟩
  exact Bool.eq_iff_iff.mpr key
end K32
set_option Elab.async false
set_option linter.all false
set_option maxRecDepth 100000
set_option maxHeartbeats 4000000
/-! TQ: things of Python's own kinds, as an own __eq__ meets them: their type, that they tell nothing. -/
namespace TQ
open PySem PySem.Spec PyProof.Rows L2
structure Tq (G : Hp) (x : V) : Prop where
  tk : ∀ K H', Same G H' → OWQ.TK K H' x
  ty : ∀ K H', Same G H' → ∃ T, T ∈ OWQ.ts7 ∧ TyX K H' x (.type T)
section
variable {G G' : Hp} {x : V} {a : Addr} {xs : List V}
theorem Tq.same (h : Tq G x) (s : Same G G') : Tq G' x := ⟨fun K H' s' => h.tk K H' (s.trans s'), fun K H' s' => h.ty K H' (s.trans s')⟩
theorem Tq.non : Tq G .non := ⟨fun _ _ _ => .non, fun _ _ _ => ⟨"NoneType", by simp, .base .non⟩⟩
theorem Tq.bl {b : Bool} : Tq G (.bl b) := ⟨fun _ _ _ => .bl, fun _ _ _ => ⟨"bool", by simp, .base (.bl b)⟩⟩
theorem Tq.int {i : Int} : Tq G (.int i) := ⟨fun _ _ _ => .int, fun _ _ _ => ⟨"int", by simp, .base (.int i)⟩⟩
theorem Tq.str {z : Str} : Tq G (.str z) := ⟨fun _ _ _ => .str, fun _ _ _ => ⟨"str", by simp, .base (.str z)⟩⟩
theorem Tq.lst (h : G a = some (.lst xs)) : Tq G (.ref a) := ⟨fun _ _ s => .lst (SqL.of (s _ _ h)), fun _ _ s => ⟨"list", by simp, .base (.lst (s _ _ h))⟩⟩
theorem Tq.tup (h : G a = some (.tup xs)) : Tq G (.ref a) := ⟨fun _ _ s => .tup (SqT.of (s _ _ h)), fun _ _ s => ⟨"tuple", by simp, .base (.tup (s _ _ h))⟩⟩
theorem Tq.dct {kvs : List (Key × V)} (h : G a = some (.dK kvs)) : Tq G (.ref a) := ⟨fun _ _ s => .dct (s _ _ h), fun _ _ s => ⟨"dict", by simp, .base (.dK (s _ _ h))⟩⟩
end
/-- what is new since H -/
noncomputable def nw (H H' : Hp) : Hp := open Classical in fun a => if H a = none then H' a else none
theorem nw_at {H H' : Hp} {a : Addr} {o : HO} (e : H' a = some o) (z : H a = none) : nw H H' a = some o := by
  unfold nw
  rw [if_pos z]
  exact e
theorem nw_le {H H' : Hp} {a : Addr} {o : HO} (e : nw H H' a = some o) : H' a = some o ∧ H a = none := by
  unfold nw at e
  by_cases z : H a = none
  · rw [if_pos z] at e
    exact ⟨e, z⟩
  · rw [if_neg z] at e
    cases e
theorem nw_same {H H' H'' : Hp} (s : Same H' H'') : Same (nw H H') (nw H H'') := fun a o e => nw_at (s _ _ (nw_le e).1) (nw_le e).2
inductive TqAll (G : Hp) : List V → Prop
  | nil : TqAll G []
  | cons {x : V} {xs : List V} : Tq G x → TqAll G xs → TqAll G (x :: xs)
theorem TqAll.mem {G : Hp} {xs : List V} (h : TqAll G xs) : ∀ x ∈ xs, Tq G x := by
  induction h with
  | nil => intro x hx; cases hx
  | cons h _ ih =>
    intro x hx
    rcases List.mem_cons.mp hx with rfl | hx
    · exact h
    · exact ih x hx
end TQ
set_option Elab.async false
set_option linter.all false
set_option maxRecDepth 100000
set_option maxHeartbeats 4000000
/-! OWA: OWQ2's operators, their readings told over the program alone (for comprehensions too). -/
namespace OWQ
open PySem PySem.Spec PyProof.Rows L2
/-- the context's own part -/
structure Of (X : Cx) (P : Program) (w : World) (K : PySem.W.Frag) (mg : Str → Option Value) (base : Heap) : Prop where
  p : X.prog = P
  w : X.w = w
  k : X.K = K
  m : X.mg = mg
  b : X.base = base
section
variable {P : Program} {w : World} {K : PySem.W.Frag} {mg : Str → Option Value} {base : Heap} {X : Cx} {n : Nat}
def CmA (P : Program) (w : World) (K : PySem.W.Frag) (mg : Str → Option Value) (base : Heap) (n : Nat) (x y : V) (H : Hp) (r : Bool) : Prop := ∀ X, Of X P w K mg base → Cm X n x y H r
theorem CmA.ext {x y : V} {H H' : Hp} {r : Bool} (c : CmA P w K mg base n x y H r) (e : Ext H H') : CmA P w K mg base n x y H' r := fun X o => (c X o).ext e
def rCmA (P : Program) (w : World) (K : PySem.W.Frag) (mg : Str → Option Value) (base : Heap) (n : Nat) (neg : Bool) : R2 := fun x y H Q => ∃ r, CmA P w K mg base n x y H r ∧ ∀ H', Ext H H' → Q (.bl (if neg = true then !r else r)) H'
theorem op_eqA (o : Of X P w K mg base) (hr : Room n X.A) : OpR X (compareOp .Eq) (rCmA P w K mg base n false) := fun pins s σ H x y v u Q I rx ry ⟨r, c, q⟩ => op_eqQ hr pins s σ H x y v u Q I rx ry ⟨r, c X o, q⟩
theorem op_neA (o : Of X P w K mg base) (hr : Room n X.A) : OpR X (compareOp .NotEq) (rCmA P w K mg base n true) := fun pins s σ H x y v u Q I rx ry ⟨r, c, q⟩ => op_neQ hr pins s σ H x y v u Q I rx ry ⟨r, c X o, q⟩
end
end OWQ
set_option Elab.async false
set_option linter.all false
set_option maxRecDepth 100000
set_option maxHeartbeats 4000000
namespace K32
open PySem PySem.Spec PyProof.Rows L2
open C8 (Cal Mak Met pe_c pe_mk pe_mt pe_mt0)
open KM (pr Sz)
open SX (S)
open OWQ IJ TQ
theorem iteFE {c : Bool} {A B : Prop} (h : c = false) (b : B) : if c = true then A else B := by
  rw [if_neg (by simp [h])]
  exact b
mutual
theorem dp_same {K : PySem.W.Frag} {H H' : Hp} (s : Same H H') : ∀ {v : V} {d : PyData}, Dp K H v d → Dp K H' v d
  | _, _, .non => .non
  | _, _, .bl b => .bl b
  | _, _, .int i => .int i
  | _, _, .str x => .str x
  | _, _, .lst h q => .lst (SqL.ext h s) (dp_sameA s q)
  | _, _, .tup h q => .tup (SqT.ext h s) (dp_sameA s q)
theorem dp_sameA {K : PySem.W.Frag} {H H' : Hp} (s : Same H H') : ∀ {v : List V} {d : List PyData}, DpAll K H v d → DpAll K H' v d
  | _, _, .nil => .nil
  | _, _, .cons h q => .cons (dp_same s h) (dp_sameA s q)
end
def four (f : Nat → V) : List V := [f 0, f 1, f 2, f 3]
theorem at4 (f : Nat → V) {i : Nat} (h : i < 4) : atI (four f) (0 + i) = some (f i) := by
  rcases (by omega : i = 0 ∨ i = 1 ∨ i = 2 ∨ i = 3) with rfl | rfl | rfl | rfl <;> rfl
/-- the four of them -/
structure Q4 (CT : Addr) (H : Hp) (ys : List Str) (t : Nat → TR) (dd : Nat → Addr) (sm ru du : Addr) : Prop where
  so : H sm = some (.lst (four fun i => .ref (t i).tu))
  ro : H ru = some (.lst (four fun i => .ref (t i).rt))
  dO : H du = some (.lst (four fun i => .ref (dd i)))
  t1 : ∀ i < 4, T1 CT H (t i)
  ok : ∀ i < 4, Dok (t i)
  due : ∀ i < 4, Due H (dd i) ys (t i).c
  st : ∀ i < 4, ∀ y, y ∈ ys ↔ y ∈ (t i).xs
  inj : ∀ i < 4, ∀ j < 4, (t i).tu = (t j).tu → i = j
theorem Q4.same {CT : Addr} {H H' : Hp} {ys : List Str} {t : Nat → TR} {dd : Nat → Addr} {sm ru du : Addr} (q : Q4 CT H ys t dd sm ru du) (s : Same H H') : Q4 CT H' ys t dd sm ru du :=
  ⟨s _ _ q.so, s _ _ q.ro, s _ _ q.dO, fun i h => (q.t1 i h).same s, q.ok, fun i h => (q.due i h).same s, q.st, q.inj⟩
theorem al_due {K : PySem.W.Frag} {H : Hp} {ys : List Str} {c c' : Str → Int} {pt pt' : Str → Addr} (h : ∀ x ∈ ys, H (pt x) = some (tupP (pr (rt (c x))))) (h' : ∀ x ∈ ys, H (pt' x) = some (tupP (pr (rt (c' x))))) :
    ∀ l : List Str, (∀ x ∈ l, x ∈ ys) → DNB.Al K H (ys.map fun x => ((Sum.inr x : Key), V.ref (pt' x))) (l.map fun x => ((Sum.inr x : Key), V.ref (pt x))) (dueB c c' l)
  | [], _ => .nil
  | x :: l, q => .cons (DQ.val_map (fun x => V.ref (pt' x)) (q x List.mem_cons_self)) (DQ.dp_pair (h x (q x List.mem_cons_self))) (DQ.dp_pair (h' x (q x List.mem_cons_self))) rfl rfl (Nat.le_trans (by decide : (DQ.pD (0, 0)).depth ≤ 60) (Nat.le_refl _)) (al_due h h' l fun y hy => q y (List.mem_cons_of_mem _ hy))
section
variable {P : Program} {w : World} {K : PySem.W.Frag} {mg : Str → Option Value} {base : Heap} {f C CT : Addr} {fd : FuncData}
theorem eq3_comm {t u : TR} (ht : Dok t) (hu : Dok u) {ys : List Str} (st : ∀ y, y ∈ ys ↔ y ∈ t.xs) (su : ∀ y, y ∈ ys ↔ y ∈ u.xs) : eq3 (d3 u) (d3 t) = eq3 (d3 t) (d3 u) := by
  rw [one_two ht hu st, one_two hu ht su]
  refine Bool.eq_iff_iff.mpr ?_
  simp only [Bool.and_eq_true, decide_eq_true_eq, dueB_iff]
  exact ⟨fun h => ⟨h.1.symm, fun y hy => (h.2 y hy).symm⟩, fun h => ⟨h.1.symm, fun y hy => (h.2 y hy).symm⟩⟩
theorem Dok.two_self {t : TR} (h : Dok t) : eq3 (d3 t) (d3 t) = true := by
  rw [one_two h h (ys := t.xs) (fun _ => Iff.rfl)]
  simp only [decide_true, Bool.true_and]
  exact (dueB_iff _ _ _).mpr fun _ _ => rfl
theorem cm_tu {X : Cx} {H : Hp} {t u : TR} (Sp : OW.Spc X.prog X.w X.K X.mg X.base 1 CT "__eq__" (spTE X.K CT)) (oc : OwnC X.K CT) (ht : T1 CT H t) (hu : T1 CT H u) (dt : Dok t) (du : Dok u) (e : t.tu = u.tu → t = u) : Cm X 2 (.ref t.tu) (.ref u.tu) H (eq3 (d3 t) (d3 u)) := by
  obtain ⟨dx, h1⟩ := ht.tr
  obtain ⟨dy, h2⟩ := hu.tr
  refine Cm.two Sp oc h1 h2 (fun H1 e1 => ⟨t.tu, .ref u.tu, d3 t, _, rfl, (ht.same e1).tud dt, .tu ((hu.same e1).tud du), rfl, Ext.rfl'⟩) fun z => ?_
  have := e z
  subst this
  exact dt.two_self
theorem cm_tq {H : Hp} {t : TR} {y : V} (Sp : OW.Spc P w K mg base 1 CT "__eq__" (spTE K CT)) (oc : OwnC K CT) (ht : T1 CT H t) (dt : Dok t) (q : Tq H y) : CmA P w K mg base 2 (.ref t.tu) y H false ∧ CmA P w K mg base 2 y (.ref t.tu) H false := by
  obtain ⟨dx, h1⟩ := ht.tr
  have ask : ∀ {K : PySem.W.Frag}, Ask (spTE K CT) H t.tu y false := fun {K} H1 e => by
    obtain ⟨T, hT, ty⟩ := q.ty K H1 e
    exact ⟨t.tu, y, d3 t, false, rfl, (ht.same e).tud dt, .th hT ty, rfl, Ext.rfl'⟩
  constructor
  · rintro X ⟨rfl, rfl, rfl, rfl, rfl⟩
    exact Cm.own Sp oc h1 (q.tk _ _ (Same.refl H)) ask
  · rintro X ⟨rfl, rfl, rfl, rfl, rfl⟩
    exact Cm.back Sp oc h1 (q.tk _ _ (Same.refl H)) ask
def spEr (CT : Addr) : Sp := fun vs H Q _ => ∃ (sm ru du : Addr) (t : Nat → TR) (dd : Nat → Addr) (ys : List Str), vs = [.ref sm, .ref ru, .ref du] ∧ Q4 CT H ys t dd sm ru du ∧ ∀ H', Same H H' → Q (.bl true) H'
theorem ok_er (F : Dn K d_l_equal_right f fd) (b : Bl mg) (brep : mg "repr" = none) (cMy : Cal P w K mg base 5 "_law_memory" (spMy K CT) []) (Sp : OW.Spc P w K mg base 1 CT "__eq__" (spTE K CT)) (oc : OwnC K CT) :
    GL.FnG P w K mg base 6 f fd ["_law_some", "_law_rules", "_law_dues"] (spEr CT) := by
  refine GL.okG F sc_l_equal_right (fun vs H Q E h => ?_) (fun cdv A outer s H vs Q E hgd hr h => ?_)
  · obtain ⟨_, _, _, _, _, _, rfl, _⟩ := h
    rfl
  · obtain ⟨sm, ru, du, t, dd, ys, rfl, q0, hQ⟩ := h
    have hgd2 : (A.deeper (envOfC d_l_equal_right.qual d_l_equal_right.scope s.heap.objs.size f cdv)).guards = some [] := hgd
    have hu64 : (A.deeper (envOfC d_l_equal_right.qual d_l_equal_right.scope s.heap.objs.size f cdv)).units + 64 < cLine := by have := hr.un; omega
    have r2 : Room 2 (A.deeper (envOfC d_l_equal_right.qual d_l_equal_right.scope s.heap.objs.size f cdv)) := hr.mono (by decide)
    have r3 : Room (2 + 1) (A.deeper (envOfC d_l_equal_right.qual d_l_equal_right.scope s.heap.objs.size f cdv)) := hr.mono (by decide)
    refine ⟨_, PSs.nox (pss_cons (ps_for PassesOwn.never rfl (pi_range1 rfl b.range (pa_cons pe_int pa_nil)) (pg_name (i := 3) sc_l_equal_right.nd rfl (.inl rfl))
        (pss_one (ps_for PassesOwn.never rfl (pi_range1 rfl b.range (pa_cons pe_int pa_nil)) (pg_name (i := 4) sc_l_equal_right.nd rfl (.inl rfl))
          (pss_cons (ps_par (i := 5) (j := 6) rfl sc_l_equal_right.nd rfl rfl (by decide) rfl rfl
              (pa_cons (pe_callB (GL.call_reprD hgd2 hu64) rfl brep boot_repr (pa_cons (pe_tup (pa_cons (pe_ix ix_list (pv 1) (pv 3) (fun _ _ => rfl)) (pa_cons (pe_c cMy hr (by decide) rfl (pa_cons (pe_ix ix_list (pv 0) (pv 3) (fun _ _ => rfl)) pa_nil)) pa_nil))) pa_nil))
              (pa_cons (pe_callB (GL.call_reprD hgd2 hu64) rfl brep boot_repr (pa_cons (pe_tup (pa_cons (pe_ix ix_list (pv 1) (pv 4) (fun _ _ => rfl)) (pa_cons (pe_c cMy hr (by decide) rfl (pa_cons (pe_ix ix_list (pv 0) (pv 4) (fun _ _ => rfl)) pa_nil)) pa_nil))) pa_nil)) pa_nil)) rfl)
          (C8.pss_cut (ps_set (i := 7) sc_l_equal_right.nd rfl (.inl rfl) (pe_and (pe_cmpR op_eq (pv 5) (pv 6) (nomark _)) (pe_one (pe_cmpR (DNB.op_eq hu64) (pe_ix ix_list (pv 2) (pv 3) (fun _ _ => rfl)) (pe_ix ix_list (pv 2) (pv 4) (fun _ _ => rfl)) (nomark _)))))
          (pss_one (ps_if (PW.pt (pw_or (pt_cmpR op_ne (pe_cmpR (op_eqQ r2) (pe_ix ix_list (pv 0) (pv 3) (fun _ _ => rfl)) (pe_ix ix_list (pv 0) (pv 4) (fun _ _ => rfl)) (nomark _)) (pv 7) (nomark _))
            (pw_or1 (pt_cmpR op_ne (pe_cmpR (op_inQ r3) (pe_ix ix_list (pv 0) (pv 3) (fun _ _ => rfl)) (pe_lst (pa_cons pe_non (pa_cons (pe_ix ix_list (pv 0) (pv 4) (fun _ _ => rfl)) pa_nil))) rfl) (pv 7) (nomark _))))) pss_never pss_nil)))))))
      (pss_one (ps_ret (pe_cmpR (op_eqD hu64) (pe_lc (own := [("_law_thing", 8)]) (g := gName 8) rfl sc_l_equal_right.nd (pi_list (pe_lst (pa_cons pe_non (pa_cons pe_int (pa_cons (pe_ix ix_list (pv 1) pe_int (fun _ _ => rfl)) (pa_cons (pe_lst pa_nil) (pa_cons (pe_ix ix_list (pv 2) pe_int (fun _ _ => rfl)) pa_nil)))))))
          (blkOk_by (N := N_l_equal_right) (sc := defScope s_l_equal_right) (by decide +kernel)) (fun _ _ _ _ _ => pg_name (i := 8) sc_l_equal_right.nd rfl (Or.inl rfl))
          (fun _ _ _ _ _ => pts_one (PW.pt (pw_or (pt_cmpR (r := rCmA P w K mg base 2 false) (op_eqA ⟨rfl, rfl, rfl, rfl, rfl⟩ r2) (pe_ix (r := rIxL K) ix_list (pv 0) pe_int (fun _ _ => rfl)) (pv 8) (nomark _)) (pw_or1 (pt_cmpR (r := rCmA P w K mg base 2 false) (op_eqA ⟨rfl, rfl, rfl, rfl, rfl⟩ r2) (pv 8) (pe_ix (r := rIxL K) ix_list (pv 0) pe_int (fun _ _ => rfl)) (nomark _)))))) (fun _ _ _ _ _ => pv 8)) (pe_lst pa_nil) (nomark _))))), ?_⟩
    refine ⟨_, rfl, by decide, by decide, ?_⟩
    refine for_range (n := 4) (fun i σ H' => (∃ v3 v4 v5 v6 v7 : Option V, σ = [some (.ref sm), some (.ref ru), some (.ref du), v3, v4, v5, v6, v7, none]) ∧ Same H H') ⟨⟨_, _, _, _, _, rfl⟩, Same.refl _⟩ ?_ ?_
    · rintro i σ H1 hi ⟨⟨v3, v4, v5, v6, v7, rfl⟩, s1⟩
      refine ⟨_, rfl, by decide, by decide, ?_⟩
      refine for_range (n := 4) (fun j σ H' => (∃ v4 v5 v6 v7 : Option V, σ = [some (.ref sm), some (.ref ru), some (.ref du), some (.int (0 + i)), v4, v5, v6, v7, none]) ∧ Same H H') ⟨⟨_, _, _, _, rfl⟩, s1⟩ ?_ ?_
      · rintro j σ H2 hj ⟨⟨v4, v5, v6, v7, rfl⟩, s2⟩
        have q2 := q0.same s2
        have ti := q2.t1 i hi
        have n1 := (q2.ok i hi).n
        refine ⟨_, rfl, _, rfl, ru, _, _, _, rfl, rfl, SqL.of q2.ro, at4 _ hi, ?_⟩
        refine ⟨_, rfl, _, rfl, sm, _, _, _, rfl, rfl, SqL.of q2.so, at4 _ hi, ?_⟩
        refine ⟨(t i).tu, (t i).rt, (t i).ot, (t i).hd, (t i).kp, (t i).ps, (t i).xs, (t i).wd, _, (t i).md, rfl, ti.tr, ti.rl, ti.ck, by omega, fun l H3 s3 fl dl => ?_⟩
        refine ⟨by show 2 ≤ sizeLine; decide, fun p fp => ?_⟩
        have s4 := s3.trans (same_new (o := .tup [.ref (t i).rt, .ref l]) fp)
        have dt : Dp K (upd H3 p (.tup [.ref (t i).rt, .ref l])) (.ref p) (txtD (t i)) := .tup (SqT.of upd_same) (.cons (dp_same s4 (dp_rule ti.rl)) (.cons (dp_same (same_new fp) dl) .nil))
        obtain ⟨a1, a2, a3, a4⟩ := (sm_txt (q2.ok i hi)).four (by decide) (by decide)
        refine ⟨.ref p, txtD (t i), rfl, dt, a1, a2, a3, a4, ?_⟩
        clear dt dl fl
        generalize upd H3 p (.tup [.ref (t i).rt, .ref l]) = H4 at s4 ⊢
        have q4 := q2.same s4
        have tj := q4.t1 j hj
        have n2 := (q2.ok j hj).n
        refine ⟨_, rfl, _, rfl, ru, _, _, _, rfl, rfl, SqL.of q4.ro, at4 _ hj, ?_⟩
        refine ⟨_, rfl, _, rfl, sm, _, _, _, rfl, rfl, SqL.of q4.so, at4 _ hj, ?_⟩
        refine ⟨(t j).tu, (t j).rt, (t j).ot, (t j).hd, (t j).kp, (t j).ps, (t j).xs, (t j).wd, _, (t j).md, rfl, tj.tr, tj.rl, tj.ck, by omega, fun l2 H5 s5 fl2 dl2 => ?_⟩
        refine ⟨by show 2 ≤ sizeLine; decide, fun p2 fp2 => ?_⟩
        have s6 := s5.trans (same_new (o := .tup [.ref (t j).rt, .ref l2]) fp2)
        have dt2 : Dp K (upd H5 p2 (.tup [.ref (t j).rt, .ref l2])) (.ref p2) (txtD (t j)) := .tup (SqT.of upd_same) (.cons (dp_same s6 (dp_rule tj.rl)) (.cons (dp_same (same_new fp2) dl2) .nil))
        obtain ⟨b1, b2, b3, b4⟩ := (sm_txt (q2.ok j hj)).four (by decide) (by decide)
        refine ⟨.ref p2, txtD (t j), rfl, dt2, b1, b2, b3, b4, ?_⟩
        clear dt2 dl2 fl2
        generalize upd H5 p2 (.tup [.ref (t j).rt, .ref l2]) = H6 at s6 ⊢
        have s06 := s2.trans (s4.trans s6)
        refine ⟨_, _, rfl, ?_⟩
        obtain ⟨r, er⟩ : ∃ r, r = eq3 (d3 (t i)) (d3 (t j)) := ⟨_, rfl⟩
        have er2 := er.trans (one_two (q0.ok i hi) (q0.ok j hj) (q0.st i hi))
        refine ⟨fun σ' H' => (∃ v5 v6 : Option V, σ' = [some (.ref sm), some (.ref ru), some (.ref du), some (.int (0 + i)), some (.int (0 + j)), v5, v6, some (.bl r), none]) ∧ Same H H', ?_, ?_⟩
        · have q6 := q0.same s06
          obtain ⟨pt, hd1, hv1⟩ := q6.due i hi
          obtain ⟨pt', hd2, hv2⟩ := q6.due j hj
          have e1 : decide (V.str (txtD (t i)).shown = V.str (txtD (t j)).shown) = decide ((txtD (t i)).shown = (txtD (t j)).shown) := by simp
          refine ⟨_, rfl, _, rfl, rfl, _, rfl, ite2 (fun h1 => ?_) (fun h1 => ?_)⟩
          · rw [e1] at h1
            rw [h1, Bool.true_and] at er2
            refine ⟨_, rfl, _, rfl, du, _, _, _, rfl, rfl, SqL.of q6.dO, at4 _ hi, _, rfl, _, rfl, du, _, _, _, rfl, rfl, SqL.of q6.dO, at4 _ hj, dd i, dd j, _, _, _, rfl, rfl, hd1, hd2, by rw [List.length_map, List.length_map], al_due hv1 hv2 ys fun _ h => h, ⟨some (.str (txtD (t i)).shown), some (.str (txtD (t j)).shown), by rw [er2]; rfl⟩, s06⟩
          · rw [e1] at h1
            rw [Bool.eq_false_iff.mpr h1, Bool.false_and] at er2
            exact ⟨⟨some (.str (txtD (t i)).shown), some (.str (txtD (t j)).shown), by rw [er2]; rfl⟩, s06⟩
        rintro σ' H7 ⟨⟨v5, v6, rfl⟩, s7⟩
        have q7 := q0.same s7
        have cij : Cm (cxOf CX0 P w K mg base N_l_equal_right d_l_equal_right.qual d_l_equal_right.scope f cdv A outer s H E).nox 2 (.ref (t i).tu) (.ref (t j).tu) H7 r := by
          rw [er]
          exact cm_tu Sp oc (q7.t1 i hi) (q7.t1 j hj) (q7.ok i hi) (q7.ok j hj) fun e => by rw [q0.inj i hi j hj e]
        have cji : Cm (cxOf CX0 P w K mg base N_l_equal_right d_l_equal_right.qual d_l_equal_right.scope f cdv A outer s H E).nox 2 (.ref (t j).tu) (.ref (t i).tu) H7 r := by
          rw [er, ← eq3_comm (q0.ok i hi) (q0.ok j hj) (q0.st i hi) (q0.st j hj)]
          exact cm_tu Sp oc (q7.t1 j hj) (q7.t1 i hi) (q7.ok j hj) (q7.ok i hi) fun e => by rw [q0.inj j hj i hi e]
        have cno : Cm (cxOf CX0 P w K mg base N_l_equal_right d_l_equal_right.qual d_l_equal_right.scope f cdv A outer s H E).nox 2 .non (.ref (t i).tu) H7 false := (cm_tq Sp oc (q7.t1 i hi) (q7.ok i hi) Tq.non).2 _ ⟨rfl, rfl, rfl, rfl, rfl⟩
        refine ⟨_, rfl, _, rfl, sm, _, _, _, rfl, rfl, SqL.of q7.so, at4 _ hi, _, rfl, _, rfl, sm, _, _, _, rfl, rfl, SqL.of q7.so, at4 _ hj, r, cij, fun H8 e8 => ?_⟩
        have q8 := q7.same e8
        refine ⟨_, rfl, rfl, _, rfl, ?_⟩
        have ef : ∀ b : Bool, b = r → (!decide (V.bl b = V.bl r)) = false := fun b e => by rw [e]; simp
        refine iteFE (ef _ (by simp)) ?_
        refine ⟨_, rfl, _, rfl, sm, _, _, _, rfl, rfl, SqL.of q8.so, at4 _ hi, _, rfl, _, rfl, sm, _, _, _, rfl, rfl, SqL.of q8.so, at4 _ hj, by show 2 ≤ sizeLine; decide, fun l9 fl9 => ?_⟩
        have e9 := same_new (o := .lst [.non, .ref (t j).tu]) fl9
        refine ⟨l9, [.non, .ref (t j).tu], false || (r || false), rfl, upd_same, .cons (cno.ext (e8.trans e9)) (.cons (cji.ext (e8.trans e9)) .nil), fun H10 e10 => ?_⟩
        refine ⟨_, rfl, rfl, _, rfl, ?_⟩
        refine iteFE (ef _ (by simp)) ?_
        exact ⟨⟨_, _, _, _, rfl⟩, s7.trans (e8.trans (e9.trans e10))⟩
      · rintro σ H2 ⟨⟨v4, v5, v6, v7, rfl⟩, s2⟩
        exact ⟨⟨_, _, _, _, _, rfl⟩, s2⟩
    · rintro σ H1 ⟨⟨v3, v4, v5, v6, v7, rfl⟩, s1⟩
      have q1 := q0.same s1
      refine ⟨_, rfl, ru, _, _, _, rfl, rfl, SqL.of q1.ro, rfl, ?_⟩
      refine ⟨by show 0 ≤ sizeLine; decide, fun l3 fl3 => ?_⟩
      have y1 := same_new (o := .lst []) fl3
      have e1 : (upd H1 l3 (.lst [])) l3 = some (.lst []) := upd_same
      generalize upd H1 l3 (.lst []) = H2 at y1 e1 ⊢
      have q2 := q1.same y1
      refine ⟨_, rfl, du, _, _, _, rfl, rfl, SqL.of q2.dO, rfl, ?_⟩
      refine ⟨by show 5 ≤ sizeLine; decide, fun o fo => ?_⟩
      have y2 := same_new (o := .lst [.non, .int 0, .ref (t 0).rt, .ref l3, .ref (dd 0)]) fo
      have e2 : (upd H2 o (.lst [.non, .int 0, .ref (t 0).rt, .ref l3, .ref (dd 0)])) o = some (.lst [.non, .int 0, .ref (t 0).rt, .ref l3, .ref (dd 0)]) := upd_same
      refine ⟨o, rfl, ⟨_, SqL.of e2⟩, ?_⟩
      generalize upd H2 o (.lst [.non, .int 0, .ref (t 0).rt, .ref l3, .ref (dd 0)]) = H3 at y2 e2 ⊢
      have q3 := q2.same y2
      have t0 := q3.t1 0 (by decide)
      obtain ⟨pt, hd0, _⟩ := q3.due 0 (by decide)
      have hr0 : ∃ zs, H3 (t 0).rt = some (.tup zs) := ⟨_, t0.rl.hr⟩
      obtain ⟨zs, hr0⟩ := hr0
      have all : ∀ y ∈ ([.non, .int 0, .ref (t 0).rt, .ref l3, .ref (dd 0)] : List V), Tq H3 y := TqAll.mem (.cons Tq.non (.cons Tq.int (.cons (Tq.tup hr0) (.cons (Tq.lst (y2 _ _ e1)) (.cons (Tq.dct hd0) .nil)))))
      generalize ([.non, .int 0, .ref (t 0).rt, .ref l3, .ref (dd 0)] : List V) = ws at e2 all
      intro D fD
      refine lc_list (K := K) (xs := ws) (fun i H' => Same H3 H' ∧ H' D = some (.lst [])) ⟨same_new fD, upd_same⟩ (fun i H' _ q => SqL.of (q.1 _ _ e2)) ?_ ?_
      · rintro i v H' hv ⟨s, hD⟩
        have q4 := q3.same s
        obtain ⟨c1, c2⟩ := cm_tq Sp oc (q4.t1 0 (by decide)) (q4.ok 0 (by decide)) ((all v (List.mem_of_getElem? hv)).same s)
        refine ⟨rfl, ?_⟩
        refine ⟨_, rfl, sm, _, _, _, rfl, rfl, SqL.of q4.so, rfl, _, rfl, false, c1, fun G1 g1 => ⟨_, rfl, iteFE rfl ?_⟩⟩
        refine ⟨_, rfl, _, rfl, sm, _, _, _, rfl, rfl, SqL.of (q4.same g1).so, rfl, false, c2.ext g1, fun G2 g2 => ⟨_, rfl, iteFE rfl ?_⟩⟩
        exact ⟨(s.trans g1).trans g2, g2 _ _ (g1 _ _ hD)⟩
      rintro H6 ⟨y6, hD⟩
      refine ⟨Nat.zero_le _, fun e fe => ?_⟩
      have y7 := same_new (o := .lst []) fe
      refine ⟨.list [], .list [], Dp.lst (SqL.of (y7 _ _ hD)) .nil, Dp.lst (SqL.of upd_same) .nil, by decide, by decide, ?_⟩
      exact hQ _ (s1.trans (y1.trans (y2.trans (y6.trans y7))))
end
end K32
set_option Elab.async false
set_option linter.all false
set_option maxRecDepth 100000
set_option maxHeartbeats 4000000
namespace K32
open PySem PySem.Spec PyProof.Rows L2
open LamX (Tabs ExtN TabB)
open KM (pr Sz)
open SX (S)
theorem tabs_kp {T : List (Addr × Str)} {h : Addr} {H H' : Hp} {c : Nat} (t : Tabs T H) (k : Kp h H H') (x : Held H h c) : Tabs T H' := by
  obtain ⟨l, ns, n, m, h1, _⟩ := x
  intro p hp
  obtain ⟨q, hq, tq, cq⟩ := t p hp
  refine ⟨q, k.1 _ _ hq (fun z => by rw [z, h1] at hq; cases hq), tq, fun pos cv e => ?_⟩
  obtain ⟨c0, e1, e2⟩ := cq pos cv e
  exact ⟨c0, e1, k.1 _ _ e2 (fun z => by rw [z, h1] at e2; cases e2)⟩
theorem tabs_up {T : List (Addr × Str)} {H : Hp} {a : Addr} {ys : List V} {o : HO} (t : Tabs T H) (e : H a = some (.lst ys)) : Tabs T (upd H a o) := by
  intro p hp
  obtain ⟨q, hq, tq, cq⟩ := t p hp
  refine ⟨q, by rw [upd_ne (fun z => by rw [z, e] at hq; cases hq)]; exact hq, tq, fun pos cv e' => ?_⟩
  obtain ⟨c0, e1, e2⟩ := cq pos cv e'
  exact ⟨c0, e1, by rw [upd_ne (fun z => by rw [z, e] at e2; cases e2)]; exact e2⟩
theorem S_inj {a b : List Nat} (h : S a = S b) : a = b := by
  have := congrArg (fun s : Str => s.cps.toList) h
  simpa [S] using this
theorem ord_of {zs : List (List Nat)} (h0 : 0 < zs.length) (h8 : zs.length ≤ 8) (ok : ∀ z ∈ zs, NM.ok z) (pw : zs.Pairwise (· ≠ ·)) : Ord (zs.map S) := by
  refine ⟨fun z => ?_, by rw [List.length_map]; exact h8, ?_, fun x hx => ?_⟩
  · have := congrArg List.length z
    rw [List.length_map] at this
    simp at this
    rw [this] at h0
    exact absurd h0 (by decide)
  · exact List.pairwise_map.mpr (pw.imp fun h e => h (S_inj e))
  · obtain ⟨z, hz, rfl⟩ := List.mem_map.mp hx
    exact ⟨z, rfl, ok z hz⟩
theorem Ord.rev {xs : List Str} (o : Ord xs) : Ord xs.reverse :=
  ⟨by simpa using o.ne, by rw [List.length_reverse]; exact o.l8, List.pairwise_reverse.mpr (o.nd.imp fun h => h.symm), fun x hx => o.nm x (List.mem_reverse.mp hx)⟩
theorem ne_c {H : Hp} {a b : Addr} {o o' : HO} (e : H a = some o) (e' : H b = some o') (h : o ≠ o') : a ≠ b := fun z => by
  subst z
  rw [e] at e'
  exact h (Option.some.inj e')
theorem nxt_rev {R : List Str} {y : Str} {c : Str → Int} : nxt R.reverse y c = nxt R y c := by
  funext x
  unfold nxt
  rw [List.length_reverse]
  simp only [List.mem_reverse]
theorem nxt_one {y : Str} {c : Str → Int} : nxt [y] y c = c := by
  funext x
  unfold nxt
  have e : (840 : Int).fdiv (([y] : List Str).length : Int) = 840 := by
    show (840 : Int).fdiv ((1 : Nat) : Int) = 840
    decide
  rw [e]
  by_cases h : x = y
  · rw [if_pos (by simp [h]), if_pos h]
    omega
  · rw [if_neg (by simpa using h), if_neg h]
    omega
theorem DayOk.rev {xs R : List Str} (d : DayOk xs R) : DayOk xs R.reverse :=
  ⟨by simpa using d.ne, List.pairwise_reverse.mpr (d.nd.imp fun h => h.symm), fun y hy => d.sub y (List.mem_reverse.mp hy), by rw [List.length_reverse]; exact d.ln⟩
theorem DayOk.by {xs xs' R : List Str} (d : DayOk xs R) (e : xs' = xs ∨ xs' = xs.reverse) : DayOk xs' R := by
  rcases e with rfl | rfl
  · exact d
  · exact ⟨d.ne, d.nd, fun y hy => List.mem_reverse.mpr (d.sub y hy), by rw [List.length_reverse]; exact d.ln⟩
theorem four_set {f : Nat → V} {k : Nat} {v : V} (h : k < 4) : (four f).set k v = four fun i => if i = k then v else f i := by
  rcases (by omega : k = 0 ∨ k = 1 ∨ k = 2 ∨ k = 3) with rfl | rfl | rfl | rfl <;> rfl
theorem ix4 {f : Nat → V} {k : Nat} (h : k < 4) : ixN (four f).length (k : Int) = some k := by
  rcases (by omega : k = 0 ∨ k = 1 ∨ k = 2 ∨ k = 3) with rfl | rfl | rfl | rfl <;> rfl
theorem T1.mv {CT : Addr} {H H' : Hp} {t : TR} (h : T1 CT H t) (tk : ∀ {b : Addr} {ys : List V}, H b = some (.tup ys) → H' b = some (.tup ys)) (ku : ∀ o, H t.tu = some o → H' t.tu = some o) (kp : ∀ o, H t.ps = some o → H' t.ps = some o) : T1 CT H' t := by
  obtain ⟨dx, e⟩ := h.tr
  exact ⟨h.rl.ext fun b ys e => tk e, ⟨dx, ku _ e⟩, tk h.ch, h.cb, h.ck.ext fun b ys e => tk e, kp _ h.pa⟩
theorem Due.mv {H H' : Hp} {d : Addr} {xs : List Str} {c : Str → Int} (h : Due H d xs c) (kd : ∀ o, H d = some o → H' d = some o) (tk : ∀ {b : Addr} {ys : List V}, H b = some (.tup ys) → H' b = some (.tup ys)) : Due H' d xs c := by
  obtain ⟨pt, h1, h2⟩ := h
  exact ⟨pt, kd _ h1, fun x hx => tk (h2 x hx)⟩
/-- where the law's things stand -/
structure Ad where
  CT : Addr
  h : Addr
  so : Addr
  ro : Addr
  du : Addr
  mn : Addr
  ot : Addr
/-- what stands while the law goes -/
structure M4 (K : PySem.W.Frag) (a : Ad) (xs : List Str) (t : Nat → TR) (dd : Nat → Addr) (cd : Nat → Str → Int) (cn : Nat → Nat) (n b : Nat) (H : Hp) : Prop where
  held : Held H a.h n
  so : H a.so = some (.lst (four fun i => .ref (t i).tu))
  ro : H a.ro = some (.lst (four fun i => .ref (t i).rt))
  dl : H a.du = some (.lst (four fun i => .ref (dd i)))
  mn : H a.mn = some (.lst (four fun i => .int (cn i : Nat)))
  ho : H a.ot = some (.tup (xs.map V.str))
  ox : Ord xs
  two : 2 ≤ xs.length
  t1 : ∀ i < 4, T1 a.CT H (t i)
  sx : ∀ i < 4, (t i).xs = xs ∨ (t i).xs = xs.reverse
  due : ∀ i < 4, Due H (dd i) xs (cd i)
  dh : ∀ i < 4, dd i ≠ a.h
  inj : ∀ i < 4, ∀ j < 4, (t i).tu = (t j).tu → i = j
  pin : ∀ i < 4, ∀ j < 4, (t i).ps = (t j).ps → i = j
  gb : ∀ i < 4, (t i).gl.length ≤ b
  tb : Tabs (T0 K) H
  cc : Cel a.h a.du H ∧ Cel a.h a.mn H ∧ ∀ i < 4, Cel a.h (t i).ps H
  zd : a.du ≠ a.so ∧ a.du ≠ a.ro ∧ a.du ≠ a.mn
  zm : a.mn ≠ a.so ∧ a.mn ≠ a.ro
  zp : ∀ i < 4, (t i).ps ≠ a.so ∧ (t i).ps ≠ a.ro ∧ (t i).ps ≠ a.du ∧ (t i).ps ≠ a.mn
section
variable {K : PySem.W.Frag} {a : Ad} {xs : List Str} {t : Nat → TR} {dd : Nat → Addr} {cd : Nat → Str → Int} {cn : Nat → Nat} {n n' b b' : Nat} {H H' : Hp}
theorem M4.kept (m : M4 K a xs t dd cd cn n b H) (k : Kp a.h H H') (hh : Held H' a.h n') : M4 K a xs t dd cd cn n' b H' := by
  have tk : ∀ {b : Addr} {ys : List V}, H b = some (.tup ys) → H' b = some (.tup ys) := fun e => k.tupS (K := K) m.held e
  obtain ⟨la, ns, p, q, hd, _⟩ := id m.held
  have lk : ∀ {b : Addr} {ys : List V}, H b = some (.lst ys) → H' b = some (.lst ys) := fun e => k.1 _ _ e (ne_c e hd (nomatch ·))
  refine ⟨hh, lk m.so, lk m.ro, lk m.dl, lk m.mn, tk m.ho, m.ox, m.two, fun i hi => (m.t1 i hi).mv tk (fun o e => k.1 _ _ e ?_) fun o e => k.1 _ _ e (m.cc.2.2 i hi).ne, m.sx, fun i hi => (m.due i hi).mv (fun o e => k.1 _ _ e (m.dh i hi)) tk, m.dh, m.inj, m.pin, m.gb, tabs_kp m.tb k m.held, ⟨m.cc.1.kp k, m.cc.2.1.kp k, fun i hi => (m.cc.2.2 i hi).kp k⟩, m.zd, m.zm, m.zp⟩
  obtain ⟨dx, e2⟩ := (m.t1 i hi).tr
  exact ne_c e2 hd (nomatch ·)
theorem M4.same (m : M4 K a xs t dd cd cn n b H) (s : Same H H') : M4 K a xs t dd cd cn n b H' := m.kept (Kp.same s) (m.held.same s)
theorem M4.weak (m : M4 K a xs t dd cd cn n b H) (le : n' ≤ n) : M4 K a xs t dd cd cn n' b H := m.kept (Kp.refl a.h H) (m.held.weak le)
theorem M4.more (m : M4 K a xs t dd cd cn n b H) (le : b ≤ b') : M4 K a xs t dd cd cn n b' H := { m with gb := fun i hi => Nat.le_trans (m.gb i hi) le }
theorem M4.extN (m : M4 K a xs t dd cd cn n b H) (e : ExtN H H') (tb : Tabs (T0 K) H') : M4 K a xs t dd cd cn n b H' := by
  have tk : ∀ {b : Addr} {ys : List V}, H b = some (.tup ys) → H' b = some (.tup ys) := fun z => e _ _ z fun _ z => by cases z
  have lk : ∀ {b : Addr} {ys : List V}, H b = some (.lst ys) → H' b = some (.lst ys) := fun z => e _ _ z fun _ z => by cases z
  have cel : ∀ {D : Addr}, Cel a.h D H → Cel a.h D H' := fun ⟨la, n0, m0, c1, c2⟩ => ⟨la, n0, m0, e _ _ c1 fun _ z => (by cases z), c2⟩
  obtain ⟨l, ns, p, q, h1, h2, h34⟩ := m.held
  refine ⟨⟨l, ns, p, q, e _ _ h1 fun _ z => (by cases z), lk h2, h34⟩, lk m.so, lk m.ro, lk m.dl, lk m.mn, tk m.ho, m.ox, m.two, fun i hi => ?_, m.sx, fun i hi => ?_, m.dh, m.inj, m.pin, m.gb, tb, ⟨cel m.cc.1, cel m.cc.2.1, fun i hi => cel (m.cc.2.2 i hi)⟩, m.zd, m.zm, m.zp⟩
  · have x := m.t1 i hi
    obtain ⟨dx, etr⟩ := x.tr
    exact ⟨x.rl.extN e, ⟨dx, e _ _ etr fun _ z => by cases z⟩, x.ch.extN e, x.cb, x.ck.extN e, lk x.pa⟩
  · obtain ⟨pt, d1, d2⟩ := m.due i hi
    exact ⟨pt, e _ _ d1 fun _ z => (by cases z), fun x hx => tk (d2 x hx)⟩
/-- one of the lists put anew -/
theorem M4.up (m : M4 K a xs t dd cd cn n b H) {p : Addr} {ys zs : List V} (hp : H p = some (.lst ys)) (ce : Cel a.h p H) (np : ∀ i < 4, (t i).ps ≠ p) :
    Held (upd H p (.lst zs)) a.h n ∧ (∀ i < 4, T1 a.CT (upd H p (.lst zs)) (t i)) ∧ (∀ i < 4, Due (upd H p (.lst zs)) (dd i) xs (cd i)) ∧ Tabs (T0 K) (upd H p (.lst zs)) ∧ (∀ {D : Addr}, Cel a.h D H → Cel a.h D (upd H p (.lst zs))) := by
  have ko : ∀ {b : Addr} {o : HO}, H b = some o → (∀ zs, o ≠ .lst zs) → (upd H p (.lst zs)) b = some o := fun e h => by
    rw [upd_ne (ne_c e hp (h ys))]
    exact e
  have tk : ∀ {b : Addr} {us : List V}, H b = some (.tup us) → (upd H p (.lst zs)) b = some (.tup us) := fun e => ko e (fun _ => nofun)
  refine ⟨m.held.put ce, fun i hi => (m.t1 i hi).mv tk (fun o e => ?_) (fun o e => by rw [upd_ne (np i hi)]; exact e), fun i hi => (m.due i hi).mv (fun o e => ?_) tk, tabs_up m.tb hp, fun c => c.put ce.ne.symm⟩
  · obtain ⟨dx, e2⟩ := (m.t1 i hi).tr
    rw [e2] at e
    obtain rfl := Option.some.inj e
    exact ko e2 (fun _ => nofun)
  · obtain ⟨pt, d1, _⟩ := m.due i hi
    rw [d1] at e
    obtain rfl := Option.some.inj e
    exact ko d1 (fun _ => nofun)
def upA {α : Type} (f : Nat → α) (k : Nat) (v : α) (i : Nat) : α := if i = k then v else f i
theorem four_up {α : Type} {f : Nat → α} {g : α → V} {k : Nat} {v : α} (h : k < 4) : (four fun i => g (f i)).set k (g v) = four fun i => g (upA f k v i) := by
  rw [four_set h]
  congr 1
  funext i
  unfold upA
  split <;> rfl
theorem M4.put_du (m : M4 K a xs t dd cd cn n b H) {k : Nat} (hk : k < 4) {D : Addr} {c : Str → Int} (hD : Due H D xs c) (nD : D ≠ a.h) : M4 K a xs t (upA dd k D) (upA cd k c) cn n b (upd H a.du (.lst ((four fun i => .ref (dd i)).set k (.ref D)))) := by
  obtain ⟨u1, u2, u3, u4, u5⟩ := m.up (zs := (four fun i => .ref (dd i)).set k (.ref D)) m.dl m.cc.1 fun i hi => (m.zp i hi).2.2.1
  have lk : ∀ {b : Addr} {o : HO}, H b = some o → b ≠ a.du → (upd H a.du (.lst ((four fun i => .ref (dd i)).set k (.ref D)))) b = some o := fun e h => by
    rw [upd_ne h]
    exact e
  have tk : ∀ {b : Addr} {us : List V}, H b = some (.tup us) → (upd H a.du (.lst ((four fun i => .ref (dd i)).set k (.ref D)))) b = some (.tup us) := fun e => lk e (ne_c e m.dl nofun)
  refine ⟨u1, lk m.so m.zd.1.symm, lk m.ro m.zd.2.1.symm, ?_, lk m.mn m.zd.2.2.symm, tk m.ho, m.ox, m.two, u2, m.sx, fun i hi => ?_, fun i hi => ?_, m.inj, m.pin, m.gb, u4, ⟨u5 m.cc.1, u5 m.cc.2.1, fun i hi => u5 (m.cc.2.2 i hi)⟩, m.zd, m.zm, m.zp⟩
  · rw [upd_same, four_up (g := V.ref) hk]
  · unfold upA
    split
    · obtain ⟨pt, d1, d2⟩ := hD
      exact ⟨pt, lk d1 (ne_c d1 m.dl nofun), fun x hx => tk (d2 x hx)⟩
    · exact u3 i hi
  · unfold upA
    split
    · exact nD
    · exact m.dh i hi
theorem M4.put_mn (m : M4 K a xs t dd cd cn n b H) {k : Nat} (hk : k < 4) {v : Nat} : M4 K a xs t dd cd (upA cn k v) n b (upd H a.mn (.lst ((four fun i => .int (cn i : Nat)).set k (.int (v : Nat))))) := by
  obtain ⟨u1, u2, u3, u4, u5⟩ := m.up (zs := (four fun i => .int (cn i : Nat)).set k (.int (v : Nat))) m.mn m.cc.2.1 fun i hi => (m.zp i hi).2.2.2
  have lk : ∀ {b : Addr} {o : HO}, H b = some o → b ≠ a.mn → (upd H a.mn (.lst ((four fun i => .int (cn i : Nat)).set k (.int (v : Nat))))) b = some o := fun e h => by
    rw [upd_ne h]
    exact e
  refine ⟨u1, lk m.so m.zm.1.symm, lk m.ro m.zm.2.symm, lk m.dl m.zd.2.2, ?_, lk m.ho (ne_c m.ho m.mn nofun), m.ox, m.two, u2, m.sx, u3, m.dh, m.inj, m.pin, m.gb, u4, ⟨u5 m.cc.1, u5 m.cc.2.1, fun i hi => u5 (m.cc.2.2 i hi)⟩, m.zd, m.zm, m.zp⟩
  rw [upd_same, four_up (g := fun v : Nat => V.int (v : Nat)) hk]
/-- one of the Turns, a day on -/
def TR.on (u : TR) (hd kp : Addr) (c : Str → Int) (md : Mem) (y : Str) : TR := { u with hd := hd, kp := kp, c := c, md := md, gl := u.gl ++ [y] }
theorem up_ex {t : Nat → TR} {k : Nat} {hd kp : Addr} {c : Str → Int} {md : Mem} {y : Str} (i : Nat) : (upA t k ((t k).on hd kp c md y) i).tu = (t i).tu ∧ (upA t k ((t k).on hd kp c md y) i).rt = (t i).rt ∧ (upA t k ((t k).on hd kp c md y) i).ps = (t i).ps ∧ (upA t k ((t k).on hd kp c md y) i).xs = (t i).xs := by
  unfold upA
  split
  · rename_i h
    subst h
    exact ⟨rfl, rfl, rfl, rfl⟩
  · exact ⟨rfl, rfl, rfl, rfl⟩
theorem M4.ride (m : M4 K a xs t dd cd cn n b H) {k : Nat} (hk : k < 4) {R : List Str} {y : Str} {hd' kp' : Addr} {md' : Mem} (dy : DayOk (t k).xs R) (k3 : KpT (t k).tu (t k).ps H H') (tb : Tabs (T0 K) H') (tr : Tr a.CT H' (t k).tu (t k).rt hd' kp' (t k).ps) (ch : Crd H' hd' (t k).xs (nxt R y (t k).c)) (ck : KeptOk ((t k).gl.length + 1) (t k).wd (t k).xs H' kp' md')
    (pa : H' (t k).ps = some (.lst ((t k).gl.map V.str ++ [.str y]))) : M4 K a xs (upA t k ((t k).on hd' kp' (nxt R y (t k).c) md' y)) dd cd cn n (b + 1) H' := by
  have keep : ∀ b o, H b = some o → (∀ q, o ≠ .tbl q) → b ≠ (t k).tu → b ≠ (t k).ps → H' b = some o := k3
  have x := m.t1 k hk
  obtain ⟨dx, etr⟩ := id x.tr
  have epa := x.pa
  have tk : ∀ {b : Addr} {ys : List V}, H b = some (.tup ys) → H' b = some (.tup ys) := fun {b ys} e => keep _ _ e (fun q z => by cases z) (ne_c e etr nofun) (ne_c e epa nofun)
  have lk : ∀ {b : Addr} {ys : List V}, H b = some (.lst ys) → b ≠ (t k).ps → H' b = some (.lst ys) := fun {b ys} e n => keep _ _ e (fun q z => by cases z) (ne_c e etr nofun) n
  have dk : ∀ {b : Addr} {ys : List (Key × V)}, H b = some (.dK ys) → H' b = some (.dK ys) := fun {b ys} e => keep _ _ e (fun q z => by cases z) (ne_c e etr nofun) (ne_c e epa nofun)
  have cel : ∀ {D : Addr}, Cel a.h D H → Cel a.h D H' := fun ⟨la, n0, m0, c1, c2⟩ => ⟨la, n0, m0, dk c1, c2⟩
  obtain ⟨l, ns, p, q, h1, h2, h34⟩ := m.held
  obtain ⟨la, n0, m0, c1, c2, c3⟩ := m.cc.2.2 k hk
  have el : la = l := by
    rw [h1] at c1
    exact (hd_inj (Option.some.inj c1)).symm
  have zk := m.zp k hk
  have l8 := x.rl.ox.l8
  have e4 : (four fun i => V.ref (upA t k ((t k).on hd' kp' (nxt R y (t k).c) md' y) i).tu) = four fun i => V.ref (t i).tu := by
    congr 1
    funext i
    rw [(up_ex i).1]
  have e5 : (four fun i => V.ref (upA t k ((t k).on hd' kp' (nxt R y (t k).c) md' y) i).rt) = four fun i => V.ref (t i).rt := by
    congr 1
    funext i
    rw [(up_ex i).2.1]
  refine ⟨⟨l, ns, p, q, dk h1, lk h2 (el ▸ c2), h34⟩, by rw [e4]; exact lk m.so zk.1.symm, by rw [e5]; exact lk m.ro zk.2.1.symm, lk m.dl zk.2.2.1.symm, lk m.mn zk.2.2.2.symm, tk m.ho, m.ox, m.two, fun i hi => ?_, fun i hi => by rw [(up_ex i).2.2.2]; exact m.sx i hi, fun i hi => ?_, m.dh, fun i hi j hj => by rw [(up_ex i).1, (up_ex j).1]; exact m.inj i hi j hj, fun i hi j hj => by rw [(up_ex i).2.2.1, (up_ex j).2.2.1]; exact m.pin i hi j hj, fun i hi => ?_, tb,
    ⟨cel m.cc.1, cel m.cc.2.1, fun i hi => by rw [(up_ex i).2.2.1]; exact cel (m.cc.2.2 i hi)⟩, m.zd, m.zm, fun i hi => by rw [(up_ex i).2.2.1]; exact m.zp i hi⟩
  · unfold upA
    split
    · have ll : ((t k).gl ++ [y]).length = (t k).gl.length + 1 := by rw [List.length_append]; rfl
      refine ⟨x.rl.ext fun b ys e => tk e, tr, ch, fun z => ?_, ?_, ?_⟩
      · show (nxt R y (t k).c z).natAbs ≤ 1000 * ((t k).gl ++ [y]).length
        rw [ll]
        exact nxt_small (List.length_pos_iff.mpr dy.ne) (by have := dy.ln; omega) x.cb z
      · show KeptOk ((t k).gl ++ [y]).length _ _ _ _ _
        rw [ll]
        exact ck
      · show H' (t k).ps = some (.lst (((t k).gl ++ [y]).map V.str))
        rw [pa, List.map_append]
        rfl
    · rename_i h
      refine (m.t1 i hi).mv tk (fun o e => ?_) fun o e => ?_
      · obtain ⟨dy, e2⟩ := (m.t1 i hi).tr
        have z := e2
        rw [e] at z
        obtain rfl := Option.some.inj z
        exact keep _ _ e2 (fun q z => by cases z) (fun z => h (m.inj i hi k hk z)) (ne_c e2 epa nofun)
      · have e2 := (m.t1 i hi).pa
        have z := e2
        rw [e] at z
        obtain rfl := Option.some.inj z
        exact lk e2 fun z => h (m.pin i hi k hk z)
  · obtain ⟨pt, d1, d2⟩ := m.due i hi
    exact ⟨pt, dk d1, fun x hx => tk (d2 x hx)⟩
  · unfold upA
    split
    · show ((t k).gl ++ [y]).length ≤ b + 1
      rw [List.length_append]
      have := m.gb k hk
      show (t k).gl.length + 1 ≤ b + 1
      omega
    · have := m.gb i hi
      omega
theorem M4.mem (m : M4 K a xs t dd cd cn n b H) {i : Nat} (hi : i < 4) (y : Str) : y ∈ xs ↔ y ∈ (t i).xs := by
  rcases m.sx i hi with e | e <;> rw [e]
  rw [List.mem_reverse]
theorem M4.q4 (m : M4 K a xs t dd cd cn n b H) (cs : ∀ i < 4, cd i = (t i).c) (hb : b ≤ 100) : Q4 a.CT H xs t dd a.so a.ro a.du := by
  refine ⟨m.so, m.ro, m.dl, m.t1, fun i hi => (m.t1 i hi).dok ?_ (Nat.le_trans (m.gb i hi) hb), fun i hi => by rw [← cs i hi]; exact m.due i hi, fun i hi y => m.mem hi y, m.inj⟩
  have := m.two
  rcases m.sx i hi with e | e <;> rw [e]
  · exact this
  · rw [List.length_reverse]
    exact this
/-- a list that nothing else writes -/
structure Fr (a : Ad) (t : Nat → TR) (p : Addr) (ys : List V) (H : Hp) : Prop where
  e : H p = some (.lst ys)
  d : p ≠ a.du
  m : p ≠ a.mn
  s : ∀ i < 4, p ≠ (t i).ps
theorem M4.fr (m : M4 K a xs t dd cd cn n b H) {p : Addr} {ys : List V} (f : H p = none) (e : H' p = some (.lst ys)) : Fr a t p ys H' := ⟨e, (ne_of_none m.dl f).symm, (ne_of_none m.mn f).symm, fun i hi => (ne_of_none (m.t1 i hi).pa f).symm⟩
theorem Fr.kept {p : Addr} {ys : List V} (f : Fr a t p ys H) (m : M4 K a xs t dd cd cn n b H) (k : Kp a.h H H') : Fr a t p ys H' := by
  obtain ⟨la, ns, p0, q, hd, _⟩ := id m.held
  exact ⟨k.1 _ _ f.e (ne_c f.e hd nofun), f.d, f.m, f.s⟩
theorem Fr.same {p : Addr} {ys : List V} (f : Fr a t p ys H) (k : Same H H') : Fr a t p ys H' := ⟨k _ _ f.e, f.d, f.m, f.s⟩
theorem Fr.extN {p : Addr} {ys : List V} (f : Fr a t p ys H) (k : ExtN H H') : Fr a t p ys H' := ⟨k _ _ f.e fun _ z => (by cases z), f.d, f.m, f.s⟩
theorem Fr.ride {p : Addr} {ys : List V} (f : Fr a t p ys H) (m : M4 K a xs t dd cd cn n b H) {k : Nat} (hk : k < 4) {hd kp : Addr} {c : Str → Int} {md : Mem} {y : Str} (k3 : KpT (t k).tu (t k).ps H H') : Fr a (upA t k ((t k).on hd kp c md y)) p ys H' := by
  obtain ⟨dx, etr⟩ := (m.t1 k hk).tr
  exact ⟨k3 _ _ f.e (fun q z => by cases z) (ne_c f.e etr nofun) (f.s k hk), f.d, f.m, fun i hi => by rw [(up_ex i).2.2.1]; exact f.s i hi⟩
theorem Fr.du {p : Addr} {ys zs : List V} (f : Fr a t p ys H) : Fr a t p ys (upd H a.du (.lst zs)) := ⟨by rw [upd_ne f.d]; exact f.e, f.d, f.m, f.s⟩
theorem Fr.mn {p : Addr} {ys zs : List V} (f : Fr a t p ys H) : Fr a t p ys (upd H a.mn (.lst zs)) := ⟨by rw [upd_ne f.m]; exact f.e, f.d, f.m, f.s⟩
end
/-- a new one of the Turns -/
structure New (CT h D ro rt : Addr) (xs : List Str) (H : Hp) (t : TR) : Prop where
  t1 : T1 CT H t
  rt : t.rt = rt
  sx : t.xs = xs ∨ t.xs = xs.reverse
  c0 : t.c = fun _ => 0
  g0 : t.gl = []
  ce : Cel h t.ps H
  nd : t.ps ≠ D
  nr : t.ps ≠ ro
theorem New.mv {CT h D ro rt : Addr} {xs : List Str} {H H' : Hp} {t : TR} (n : New CT h D ro rt xs H t) (tk : ∀ {b : Addr} {o : HO}, H b = some o → b ≠ D → H' b = some o) (hD : ∃ zs, H D = some (.lst zs)) (hh : ∃ zs, H h = some (.dK zs)) : New CT h D ro rt xs H' t := by
  obtain ⟨zs, hD⟩ := hD
  obtain ⟨ks, hh⟩ := hh
  obtain ⟨la, n0, m0, c1, c2⟩ := n.ce
  refine ⟨n.t1.mv (fun e => tk e (ne_c e hD nofun)) (fun o e => ?_) (fun o e => tk e n.nd), n.rt, n.sx, n.c0, n.g0, ⟨la, n0, m0, tk c1 (ne_c c1 hD nofun), c2⟩, n.nd, n.nr⟩
  obtain ⟨dx, e2⟩ := n.t1.tr
  have z := e2
  rw [e] at z
  obtain rfl := Option.some.inj z
  exact tk e2 (ne_c e2 hD nofun)
theorem four_take {f : Nat → V} {i : Nat} (h : i < 4) : (four f).take (i + 1) = (four f).take i ++ [f i] := by
  rcases (by omega : i = 0 ∨ i = 1 ∨ i = 2 ∨ i = 3) with rfl | rfl | rfl | rfl <;> rfl
theorem four_take_eq {f g : Nat → V} {i : Nat} (h : ∀ j < i, f j = g j) (h4 : i ≤ 4) : (four f).take i = (four g).take i := by
  rcases (by omega : i = 0 ∨ i = 1 ∨ i = 2 ∨ i = 3 ∨ i = 4) with rfl | rfl | rfl | rfl | rfl
  · rfl
  · show [f 0] = [g 0]
    rw [h 0 (by decide)]
  · show [f 0, f 1] = [g 0, g 1]
    rw [h 0 (by decide), h 1 (by decide)]
  · show [f 0, f 1, f 2] = [g 0, g 1, g 2]
    rw [h 0 (by decide), h 1 (by decide), h 2 (by decide)]
  · show [f 0, f 1, f 2, f 3] = [g 0, g 1, g 2, g 3]
    rw [h 0 (by decide), h 1 (by decide), h 2 (by decide), h 3 (by decide)]
theorem four_len {f : Nat → V} {i : Nat} (h : i ≤ 4) : ((four f).take i).length = i := by
  rw [List.length_take]
  show min i 4 = i
  omega
theorem four_at {f : Nat → V} {i : Nat} {x : V} (h : (four f)[i]? = some x) : i < 4 ∧ x = f i := by
  have h4 : i < (four f).length := (List.getElem?_eq_some_iff.mp h).1
  have h4 : i < 4 := h4
  refine ⟨h4, ?_⟩
  rcases (by omega : i = 0 ∨ i = 1 ∨ i = 2 ∨ i = 3) with rfl | rfl | rfl | rfl <;> exact (Option.some.inj h).symm
theorem pr0 : pr (rt 0) = (0, 1) := by
  unfold rt
  rw [Rat.zero_divInt]
  rfl
theorem step_strs {k : Int} {R : List Str} : (if k = 1 then R.map V.str else (R.map V.str).reverse) = (if k = 1 then R else R.reverse).map V.str := by
  split
  · rfl
  · rw [List.map_reverse]
theorem at_step {r : Int} (h0 : 0 ≤ r) (h1 : r < 2) : ∃ k : Int, atI [V.int 1, V.int (-1)] r = some (.int k) ∧ (k = 1 ∨ k = -1) := by
  rcases (show r = 0 ∨ r = 1 by omega) with rfl | rfl
  · exact ⟨1, rfl, .inl rfl⟩
  · exact ⟨-1, rfl, .inr rfl⟩
end K32
set_option Elab.async false
set_option linter.all false
set_option maxRecDepth 100000
set_option maxHeartbeats 4000000
/-! SLT: t[::s] of a tuple, s told at run time: 1 (the tuple itself) or -1. -/
namespace SLT
open PySem PySem.Spec PyProof.Rows L2 HT
section
variable {prog : Program} {w : World} {A : Around} {E : Value → Shared → Prop} {s : Shared}
theorem applied {sl : Addr} {vs : Value} {k : Int} {n : Nat} {Q : Int × Int × Nat → Shared → Prop} (hs : s.heap.IsSliceOf sl .none .none vs) (ps : IsPart vs (some k)) (k1 : k = 1 ∨ k = -1)
    (h : Q (if k = 1 then (0, 1, n) else ((n : Int) - 1, -1, n)) s) : wpAny (model prog w) A (Builtin.Slice.sliceApplied (.ref sl) (pure (n : Int))) Q E s := by
  obtain ⟨os, hos, hcs, hds⟩ := id hs
  unfold Builtin.Slice.sliceApplied Builtin.Slice.sliceFields
  refine wpAny_bind (wpAny_bind (wpAny_field hos hds (x := .none) rfl (wpAny_bind (wpAny_field hos hds (x := .none) rfl (wpAny_bind (wpAny_field hos hds (x := vs) rfl (wpAny_pure ?_)))))))
  refine wpAny_bind (slicePart_ ps ?_)
  show wpAny _ _ (if (k == 0) = true then _ else _) _ _ s
  have k0 : ¬ ((k == 0) = true) := by rcases k1 with rfl | rfl <;> decide
  rw [if_neg k0]
  refine wpAny_bind (slicePart_none (wpAny_bind (slicePart_none (wpAny_bind (wpAny_pure ?_)))))
  show wpAny _ _ (match Builtin.Slice.sliceAdjust none none k (n : Int) with | (lo, hi) => pure (lo, k, Builtin.Slice.slicePlaces lo hi k)) _ _ s
  rcases k1 with rfl | rfl
  · have e : Builtin.Slice.sliceAdjust none none 1 (n : Int) = (0, (n : Int)) := rfl
    rw [e]
    show wpAny _ _ (pure ((0 : Int), (1 : Int), Builtin.Slice.slicePlaces 0 (n : Int) 1)) _ _ s
    have e2 : Builtin.Slice.slicePlaces 0 (n : Int) 1 = n := by
      have := places_gen 0 n
      simpa using this
    rw [e2]
    exact wpAny_pure h
  · have e : Builtin.Slice.sliceAdjust none none (-1) (n : Int) = ((n : Int) - 1, -1) := rfl
    rw [e]
    show wpAny _ _ (pure ((n : Int) - 1, (-1 : Int), Builtin.Slice.slicePlaces ((n : Int) - 1) (-1) (-1))) _ _ s
    have e2 : Builtin.Slice.slicePlaces ((n : Int) - 1) (-1) (-1) = n := by
      unfold Builtin.Slice.slicePlaces
      have h1 : ¬ ((-1 : Int) > 0) := by decide
      rw [if_neg h1]
      by_cases h2 : (n : Int) - 1 > -1
      · rw [if_pos h2, show (- -1 : Int) = 1 by decide, Int.ediv_one]
        omega
      · rw [if_neg h2]
        omega
    rw [e2]
    exact wpAny_pure h
theorem pick_rev (xs : Array Value) : ((List.range xs.size).filterMap fun (m : Nat) => xs[(((xs.size : Int) - 1) + (m : Int) * (-1)).toNat]?).toArray = xs.toList.reverse.toArray := by
  congr 1
  have e0 : ((List.range xs.size).filterMap fun (m : Nat) => xs[(((xs.size : Int) - 1) + (m : Int) * (-1)).toNat]?) = ((List.range xs.size).map fun (m : Nat) => (((xs.size : Int) - 1) + (m : Int) * (-1)).toNat).filterMap (xs[·]?) := by
    rw [List.filterMap_map]
    rfl
  have e1 : ((List.range xs.size).map fun (m : Nat) => (((xs.size : Int) - 1) + (m : Int) * (-1)).toNat) = (List.range xs.size).map fun k => xs.size - 1 - k := List.map_congr_left fun m hm => by
    have := List.mem_range.mp hm
    omega
  have e := e0.trans (congrArg (List.filterMap (xs[·]?)) e1)
  rw [e, PySem.W.krv_range, List.filterMap_reverse, PySem.W.krv_all]
theorem getItem {t sl : Addr} {items : Array Value} {vs : Value} {k : Int} {Q : Value → Shared → Prop} (ht : IsTup s.heap t items) (hs : s.heap.IsSliceOf sl .none .none vs) (ps : IsPart vs (some k)) (k1 : k = 1 ∨ k = -1)
    (h1 : k = 1 → Q (.ref t) s) (h2 : k = -1 → Q (.ref s.heap.objs.size) { s with heap := s.heap.push { cls := .type "tuple", data := .seq items.toList.reverse.toArray } }) (hsz : items.size ≤ sizeLine) : wpAny (model prog w) A (getItem (.ref t) (.ref sl)) Q E s := by
  obtain ⟨os, hos, hcs, hds⟩ := id hs
  have hTs : s.TypeIs (.ref sl) "slice" := ⟨os, hos, hcs⟩
  unfold PySem.getItem
  try with_reducible refine wpAny_holding ?_
  first | refine wpAny_bind (wpAny_pure ?_) | skip
  refine wpAny_bind (wpAny_sequenceKey ht.typeIs (by decide) ?_)
  refine wpAny_bind (wpAny_callSpecial?_slot (name := Str.ofString "__getitem__") ht.typeIs PyProof.Rows.slot_tuple_getitem
    (wpAny_call_entry PyProof.Rows.slot_tuple_getitem ht.typeIs entry_tuple_getitem ?_ (args_tuple_getitem _ _)))
  show wpAny _ _ (Builtin.Tuple.tupleItemsOf (.ref t) >>= _) _ _ s
  refine wpAny_bind (tupleItemsOf_ ht ?_)
  refine wpAny_bind (wpAny_typeOf hTs ?_)
  rw [if_pos (by decide)]
  refine wpAny_bind (applied hs ps k1 ?_)
  rcases k1 with rfl | rfl
  · rw [if_pos rfl]
    show wpAny _ _ (if ((0 : Int) == 0 && (1 : Int) == 1 && items.size == items.size) = true then _ else _) _ _ s
    rw [if_pos (by simp)]
    refine wpAny_bind ?_
    show wpAny _ _ (typeOf (.ref t) >>= fun T => pure (T == .type "tuple")) _ _ s
    refine wpAny_bind (wpAny_typeOf ht.typeIs (wpAny_pure ?_))
    first
      | rw [if_pos (by decide)]
      | simp only [beq_self_eq_true, if_true]
    first
      | exact wpAny_bind (wpAny_rule (wpAny_pure ⟨_, rfl, wpAny_pure (h1 rfl)⟩))
      | exact wpAny_bind (wpAny_rule (wpAny_bind (wpAny_pure (wpAny_pure ⟨_, rfl, wpAny_pure (h1 rfl)⟩))))
  · rw [if_neg (by decide)]
    have hno : ¬ (((((items.size : Nat) : Int) - 1) == 0 && (-1 : Int) == 1 && items.size == items.size) = true) := by simp
    show wpAny _ _ (if ((((items.size : Nat) : Int) - 1) == 0 && (-1 : Int) == 1 && items.size == items.size) = true then _ else _) _ _ s
    rw [if_neg hno, pick_rev]
    have hok : sizeOk (.seq items.toList.reverse.toArray) := by
      show items.toList.reverse.toArray.size ≤ sizeLine
      rw [List.size_toArray, List.length_reverse, Array.length_toList]
      exact hsz
    first
      | exact wpAny_bind (m := Builtin.Tuple.tupleExact _) (wpAny_newObj_type (wpAny_pure ⟨_, rfl, wpAny_pure (h2 rfl)⟩) hok)
      | exact wpAny_bind (m := Builtin.Tuple.tupleExact _) (wpAny_newObj_type (wpAny_bind (wpAny_pure (wpAny_pure ⟨_, rfl, wpAny_pure (h2 rfl)⟩))) hok)
end
def tStepT (K : PySem.W.Frag) (te ts : TE) : TE := fun σ H Q => te σ H fun x H1 => tPart ts σ H1 fun o H2 => ∃ a xs k, x = .ref a ∧ o = some k ∧ (k = 1 ∨ k = -1) ∧ SqT K H2 a xs ∧ (k = 1 → Q (.ref a) H2) ∧ (k = -1 → ∀ p, H2 p = none → Q (.ref p) (upd H2 p (.tup xs.reverse)))
theorem pe_stepT {X : Cx} {e st : Expr} {te ts : TE} {p3 pos : Pos} (he : PE X e te) (hs : PE X st ts) : PE X (.Subscript e (.Slice none none (some st) p3) pos) (tStepT X.K te ts) := by
  refine ⟨fun pins s σ H Q I h => ?_⟩
  refine Subscript_ (thn (he.run pins s σ H _ I h) fun v s1 ⟨x, H1, I1, r1, q1⟩ => ?_)
  refine wpAny_Slice (thn (po_none.run pins s1 σ H1 (fun o H2 => o = none ∧ H2 = H1) I1 ⟨rfl, rfl⟩) fun vl s2 ⟨l, H2, I2, pl, el, e2⟩ => ?_)
  subst el e2
  refine thn (po_none.run pins s2 σ _ (fun o H3 => o = none ∧ H3 = H2) I2 ⟨rfl, rfl⟩) fun vu s3 ⟨u, H3, I3, pu, eu, e3⟩ => ?_
  subst eu e3
  refine thn ((po_some hs).run pins s3 σ H3 _ I3 q1) fun vs s4 ⟨o, H4, I4, ps, a, xs, k, ex, eo, k1, hx, qa, qb⟩ => ?_
  subst ex eo
  cases r1
  cases pl
  cases pu
  have I5 : Inv X pins σ H4 { s4 with heap := s4.heap.push { cls := .type "slice", data := .fields #[.none, .none, vs] } } := I4.kept (t' := s4.toks) fun b ob q => Heap.get?_push_of_some _ q
  obtain ⟨its, r, ht, hz⟩ := I5.tuple hx
  have hlen := r.length
  show wpAny (model X.prog X.w) X.A (subscriptTail e (.Slice none none (some st) p3) (.ref a) (.ref s4.heap.objs.size)) (EP X pins σ Q) X.xe { s4 with heap := s4.heap.push { cls := .type "slice", data := .fields #[.none, .none, vs] } }
  refine tail_any (ops := [.ref a, .ref s4.heap.objs.size]) ht.typeIs PyProof.Rows.slot_tuple_getitem.lookup ?_ (by with_unfolding_all rfl)
  refine getItem ht (Heap.IsSliceOf.new _ .none .none vs) ps k1 (fun ek => ⟨.ref a, H4, I5, rfl, qa ek⟩) (fun ek => ?_) (by rw [List.size_toArray]; omega)
  refine ⟨.ref _, _, I5.laid (t' := s4.toks) (o := .tup xs.reverse) (fun b ob q => Heap.get?_push_of_some _ q) (Nat.le_refl _) ?_, rfl, qb ek _ (I5.hok.fresh (Nat.le_refl _))⟩
  exact ⟨by rw [List.length_reverse]; exact hz, _, r.reverse, IsTup.new _ _⟩
end SLT
set_option Elab.async false
set_option linter.all false
set_option maxRecDepth 100000
set_option maxHeartbeats 4000000
/-! xs[::s] of a list, s an expression that tells 1 or -1 -/
namespace SLS
open PySem PySem.Spec PyProof.Rows L2
def stepped (s : Int) (xs : List V) : List V := if s = 1 then xs else xs.reverse
def tStepL (K : PySem.W.Frag) (te ts : TE) : TE := fun σ H Q => te σ H fun x H1 => tPart ts σ H1 fun o H2 => ∃ a xs k, x = .ref a ∧ o = some k ∧ (k = 1 ∨ k = -1) ∧ SqL K H2 a xs ∧ ∀ p, H2 p = none → Q (.ref p) (upd H2 p (.lst (stepped k xs)))
theorem pick_one (items : Array Value) : slicePick items none none (some 1) = items := by
  have e : slicePick items none none (some 1) = slicePick items none none none := by
    unfold slicePick
    rfl
  rw [e, slicePick_all]
theorem pe_stepL {X : Cx} {e st : Expr} {te ts : TE} {p3 pos : Pos} (he : PE X e te) (hs : PE X st ts) : PE X (.Subscript e (.Slice none none (some st) p3) pos) (tStepL X.K te ts) := by
  refine ⟨fun pins s σ H Q I h => ?_⟩
  refine Subscript_ (thn (he.run pins s σ H _ I h) fun v s1 ⟨x, H1, I1, r1, q1⟩ => ?_)
  refine wpAny_Slice (thn (po_none.run pins s1 σ H1 (fun o H2 => o = none ∧ H2 = H1) I1 ⟨rfl, rfl⟩) fun vl s2 ⟨l, H2, I2, pl, el, e2⟩ => ?_)
  subst el e2
  refine thn (po_none.run pins s2 σ _ (fun o H3 => o = none ∧ H3 = H2) I2 ⟨rfl, rfl⟩) fun vu s3 ⟨u, H3, I3, pu, eu, e3⟩ => ?_
  subst eu e3
  refine thn ((po_some hs).run pins s3 σ H3 _ I3 q1) fun vs s4 ⟨o, H4, I4, ps, a, xs, k, ex, eo, k1, hx, q⟩ => ?_
  subst ex eo
  cases r1
  have I5 : Inv X pins σ H4 { s4 with heap := s4.heap.push { cls := .type "slice", data := .fields #[vl, vu, vs] } } := I4.kept (t' := s4.toks) fun b ob q => Heap.get?_push_of_some _ q
  obtain ⟨its, r, ht, hz⟩ := I5.list hx
  have hlen := r.length
  show wpAny (model X.prog X.w) X.A (subscriptTail e (.Slice none none (some st) p3) (.ref a) (.ref s4.heap.objs.size)) (EP X pins σ Q) X.xe { s4 with heap := s4.heap.push { cls := .type "slice", data := .fields #[vl, vu, vs] } }
  refine tail_any (ops := [.ref a, .ref s4.heap.objs.size]) ht.isList.typeIs (PySem.slot_list_getitem.lookup) ?_ (by with_unfolding_all rfl)
  refine wpAny_getItem_list_slice ht.isList (Heap.IsSliceOf.new _ vl vu vs) pl pu ps (by rcases k1 with rfl | rfl <;> decide) ?_ (by rw [List.size_toArray]; omega)
  rcases k1 with rfl | rfl
  · rw [pick_one]
    refine ⟨.ref _, _, I5.laid (t' := s4.toks) (o := .lst (stepped 1 xs)) (fun b ob q => Heap.get?_push_of_some _ q) (Nat.le_refl _) ?_, rfl, q _ (I5.hok.fresh (Nat.le_refl _))⟩
    exact ⟨hz, _, 0, r, Heap.get?_push_size _ rfl⟩
  · rw [PySem.W.krv_pick]
    refine ⟨.ref _, _, I5.laid (t' := s4.toks) (o := .lst (stepped (-1) xs)) (fun b ob q => Heap.get?_push_of_some _ q) (Nat.le_refl _) ?_, rfl, q _ (I5.hok.fresh (Nat.le_refl _))⟩
    have e : stepped (-1) xs = xs.reverse := if_neg (by decide)
    rw [e]
    exact ⟨by rw [List.length_reverse]; exact hz, _, 0, r.reverse, Heap.get?_push_size _ rfl⟩
end SLS
set_option Elab.async false
set_option linter.all false
set_option maxRecDepth 100000
set_option maxHeartbeats 4000000
namespace K32
open PySem PySem.Spec PyProof.Rows L2
open C8 (Cal Mak Met pe_c pe_mk pe_mt pe_mt0)
open LamX (Tabs ExtN TabB)
open KM (pr Sz)
open SX (S)
open OWQ IJ TQ
/-- the scope of the comprehension in the comprehension -/
def scIn : Scope := { kind := .function, names := [(".0", .local), ("_law_rule_here", .local), ("dict", .globalImplicit), ("_law_order", .cell)], isGenerator := false, isCoroutine := false }
def rDictP (K : PySem.W.Frag) : List V → Hp → VK → Prop := fun xs H Q => ∃ (a : Addr) (ps : List Addr) (kvs : List (Key × V)), xs = [.ref a] ∧ SqL K H a (ps.map V.ref) ∧ Paired (fun p (kv : Key × V) => SqT K H p [kV kv.1, kv.2]) ps kvs ∧ ∀ p, H p = none → Q (.ref p) (upd H p (.dK (mergeK [] kvs)))
theorem at4n (f : Nat → V) {k : Nat} (h : k < 4) : atI (four f) (k : Int) = some (f k) := by
  rcases (by omega : k = 0 ∨ k = 1 ∨ k = 2 ∨ k = 3) with rfl | rfl | rfl | rfl <;> rfl
theorem four_take_all {f g : Nat → V} (h : ∀ i < 4, f i = g i) : four f = four g := four_take_eq (i := 4) h (Nat.le_refl _)
theorem paired_map {α : Type} {R : Addr → Key × V → Prop} {g : α → Addr} {k : α → Key × V} : ∀ {l : List α}, (∀ x ∈ l, R (g x) (k x)) → Paired R (l.map g) (l.map k)
  | [], _ => .nil
  | x :: l, h => .cons (h x List.mem_cons_self) (paired_map fun y hy => h y (List.mem_cons_of_mem _ hy))
theorem take_up {α : Type} {f : Nat → α} {g : α → V} {i : Nat} {v : α} (h : i < 4) : (four fun j => g (upA f i v j)).take (i + 1) = (four fun j => g (f j)).take i ++ [g v] := by
  have e1 : (four fun j => g (upA f i v j)).take i = (four fun j => g (f j)).take i := four_take_eq (fun j hj => by
    unfold upA
    rw [if_neg (by omega)]) (by omega)
  have e2 : upA f i v i = v := by
    unfold upA
    rw [if_pos rfl]
  rw [four_take h, e1, e2]
def TR0 : TR := ⟨0, 0, 0, 0, 0, 0, [], .longest, fun _ => 0, .line [], []⟩
section
variable {P : Program} {w : World} {K : PySem.W.Frag} {mg : Str → Option Value} {base : Heap} {f C CT : Addr} {fd : FuncData}
def spLaw (K : PySem.W.Frag) : Sp := fun vs H Q _ => ∃ (a : Addr) (ns : List Int), vs = [.ref a] ∧ SqL K H a (ns.map V.int) ∧ ns.length ≤ 63 ∧ Tabs (T0 K) H ∧ ∀ H', Q (.bl true) H'
theorem ok_law (F : Dn K d_law f fd) (bl : Bl mg) (b2 : Bl2 mg) (bd : mg "dict" = none) (cH : Cal P w K mg base 1 "_law_held" (spHeld K) []) (cD : CalD P w K mg base) (cNm : Cal P w K mg base 2 "_law_names" spNames []) (cDy : Cal P w K mg base 2 "_law_day" spDay []) (cRl : Cal P w K mg base 2 "_law_rule" spRl []) (cGn : Cal P w K mg base 3 "_law_gone" spGn []) (cR : Cal P w K mg base 5 "_law_right" (spRt C CT) []) (cEr : GL.CalG P w K mg base 6 "_law_equal_right" (spEr CT) [])
    (MT : Mak P w K mg base 4 "Turns" CT (spTi CT) []) (mW : Met P w K mg base 5 CT "who" (spWho K CT) []) (mR : Met P w K mg base 6 CT "ride" (spRide K CT) []) (SL : OW.Spc P w K mg base 1 CT "__len__" (spLen CT)) :
    GL.FnG P w K mg base 7 f fd ["_law_script"] (spLaw K) := by
  refine GL.okG F sc_law (fun vs H Q E h => ?_) (fun cdv A outer s H vs Q E hgd hr h => ?_)
  · obtain ⟨a, ns, rfl, _⟩ := h
    rfl
  · obtain ⟨s0, ns, rfl, hS, hlen, tabs, hQ⟩ := h
    have hu := hu_of hr
    have hu64 : (A.deeper (envOfC d_law.qual d_law.scope s.heap.objs.size f cdv)).units + 64 < cLine := by have := hr.un; omega
    refine ⟨_, PSs.nox (pss_cons (ps_set (i := 1) sc_law.nd rfl (.inl rfl) (pe_c cH hr (by decide) rfl (pa_cons (pv 0) pa_nil)))
      (C8.pss_cut (ps_set (i := 2) sc_law.nd rfl (.inr rfl) (pe_callTy call_tuple_of rfl b2.tup boot_tuple (pa_cons (pe_c cNm hr (by decide) rfl (pa_cons (pv 1) (pa_cons (pe_op op_add pe_int (pe_c cD hr (by decide) rfl (pa_cons (pv 1) (pa_cons pe_int pa_nil)))) pa_nil))) pa_nil)))
      (C8.pss_cut (ps_set (i := 3) sc_law.nd rfl (.inl rfl) (pe_c cRl hr (by decide) rfl (pa_cons (pv 1) (pa_cons (SLT.pe_stepT (pv 2) (pe_ix ix_list (pe_lst (pa_cons pe_int (pa_cons (pe_un un_neg pe_int) pa_nil))) (pe_c cD hr (by decide) rfl (pa_cons (pv 1) (pa_cons pe_int pa_nil))) (fun _ _ => rfl))) pa_nil))))
      (C8.pss_cut (ps_set (i := 4) sc_law.nd rfl (.inl rfl) (pe_op op_cat (pe_op op_rep (pe_lst (pa_cons (pe_c cRl hr (by decide) rfl (pa_cons (pv 1) (pa_cons (pv 2) pa_nil))) pa_nil)) pe_int) (pe_op op_rep (pe_lst (pa_cons (pv 3) pa_nil)) pe_int)))
      (C8.pss_cut (ps_set (i := 5) sc_law.nd rfl (.inr rfl) (pe_lc (own := [("_law_rule_here", 14)]) (g := gName 14) (tt := tYes) rfl sc_law.nd (pi_list (pv 4)) (blkOk_by (N := N_law) (sc := defScope s_law) (by decide +kernel))
            (fun _ _ _ _ _ => pg_name (i := 14) sc_law.nd rfl (Or.inl rfl)) (fun _ _ _ _ _ => pts_nil) (fun _ _ _ _ _ => pe_mk MT hr (by decide) rfl (pa_cons (pv 14) pa_nil))))
      (C8.pss_cut (ps_set (i := 6) sc_law.nd rfl (.inr rfl) (pe_lc (own := [("_law_rule_here", 14)]) (g := gName 14) (tt := tYes) rfl sc_law.nd (pi_list (pv 4)) (blkOk_by (N := N_law) (sc := defScope s_law) (by decide +kernel))
            (fun _ _ _ _ _ => pg_name (i := 14) sc_law.nd rfl (Or.inl rfl)) (fun _ _ _ _ _ => pts_nil) (fun _ _ _ _ _ => pe_callTy (r := rDictP K) (call_dictP rfl) rfl bd boot_dict (pa_cons (pe_lc (own := [("_law_name", 15)]) (wi := iTup K (tVar 2)) (g := gName 15) (tt := tYes) (te := tTup (tCons (tVar 15) (tCons (tTup (tCons (tC (.int 0)) (tCons (tC (.int 1)) tNil))) tNil))) rfl sc_law.nd (pi_tup (pv 2)) (blkOk_by (N := N_law) (sc := scIn) (by decide +kernel))
              (fun _ _ _ _ _ => pg_name (i := 15) sc_law.nd rfl (Or.inl rfl)) (fun _ _ _ _ _ => pts_nil) (fun _ _ _ _ _ => pe_tup (pa_cons (pv 15) (pa_cons (pe_tup (pa_cons pe_int (pa_cons pe_int pa_nil))) pa_nil)))) pa_nil))))
      (C8.pss_cut (ps_set (i := 7) sc_law.nd rfl (.inr rfl) (pe_lst (pa_cons pe_int (pa_cons pe_int (pa_cons pe_int (pa_cons pe_int pa_nil))))))
      (pss_cons (ps_for PassesOwn.never rfl (pi_range1 rfl bl.range (pa_cons (pe_op op_add pe_int (pe_c cD hr (by decide) rfl (pa_cons (pv 1) (pa_cons pe_int pa_nil)))) pa_nil)) (pg_name (i := 8) sc_law.nd rfl (.inl rfl))
        (pss_cons (ps_set (i := 9) sc_law.nd rfl (.inl rfl) (pe_c cDy hr (by decide) rfl (pa_cons (pv 1) (pa_cons (pv 2) pa_nil))))
        (C8.pss_cut (ps_for PassesOwn.never rfl (pi_list (pe_ix ix_list (pe_lst (pa_cons (pe_lst (pa_cons pe_int (pa_cons pe_int (pa_cons pe_int (pa_cons pe_int pa_nil))))) (pa_cons (pe_lst (pa_cons pe_int (pa_cons pe_int pa_nil))) (pa_cons (pe_lst (pa_cons pe_int (pa_cons pe_int pa_nil))) (pa_cons (pe_lst (pa_cons (pe_c cD hr (by decide) rfl (pa_cons (pv 1) (pa_cons pe_int pa_nil))) pa_nil)) pa_nil)))))
              (pe_c cD hr (by decide) rfl (pa_cons (pv 1) (pa_cons pe_int pa_nil))) (fun _ _ => rfl))) (pg_name (i := 10) sc_law.nd rfl (.inl rfl))
            (C8.pss_cut (ps_set (i := 11) sc_law.nd rfl (.inl rfl) (SLS.pe_stepL (pv 9) (pe_ix ix_list (pe_lst (pa_cons pe_int (pa_cons (pe_un un_neg pe_int) pa_nil))) (pe_c cD hr (by decide) rfl (pa_cons (pv 1) (pa_cons pe_int pa_nil))) (fun _ _ => rfl))))
            (pss_cons (ps_set (i := 12) sc_law.nd rfl (.inl rfl) (pe_mt mW hr (by decide) (pe_ix ix_list (pv 5) (pv 10) (fun _ _ => rfl)) (pa_cons (pv 11) pa_nil)))
            (C8.pss_cut (ps_if (PW.pt (pw_or (pt_cmpR op_ne (pe_mt mR hr (by decide) (pe_ix ix_list (pv 5) (pv 10) (fun _ _ => rfl)) (pa_cons (pv 11) pa_nil)) (pv 12) (nomark _)) (pw_or1 (pt_cmpR op_notIn_seq (pv 12) (pv 9) (by rfl))))) pss_never pss_nil)
            (C8.pss_cut (ps_asg (pe_c cGn hr (by decide) rfl (pa_cons (pe_ix ix_list (pv 6) (pv 10) (fun _ _ => rfl)) (pa_cons (pv 9) (pa_cons (pv 12) pa_nil)))) (pg_sub (pv 6) (pv 10) set_list))
            (C8.pss_cut (ps_asg (pe_op op_add (pe_ix ix_list (pv 7) (pv 10) (fun _ _ => rfl)) pe_int) (pg_sub (pv 7) (pv 10) set_list))
            (pss_one (ps_if (pt_cmpR (op_neD hu64) (pe_lc (own := [("_law_j", 16)]) (g := gName 16) rfl sc_law.nd (pi_range1 rfl bl.range (pa_cons pe_int pa_nil)) (blkOk_by (N := N_law) (sc := defScope s_law) (by decide +kernel))
                (fun _ _ _ _ _ => pg_name (i := 16) sc_law.nd rfl (Or.inl rfl)) (fun _ _ _ _ _ => pts_one (pt_not (pt_val (pe_c cR hr (by decide) rfl (pa_cons (pe_ix (r := rIxL K) ix_list (pv 5) (pv 16) (fun _ _ => rfl)) (pa_cons (pv 2) (pa_cons (pe_ix (r := rIxL K) ix_list (pv 6) (pv 16) (fun _ _ => rfl)) (pa_cons (pe_ix (r := rIxL K) ix_list (pv 7) (pv 16) (fun _ _ => rfl)) pa_nil)))))))) (fun _ _ _ _ _ => pv 16)) (pe_lst pa_nil) (nomark _)) pss_never pss_nil))))))))
        (pss_one (ps_if (pt_not (pt_val (GL.pe_cG cEr hgd hr (by decide) rfl (pa_cons (pv 5) (pa_cons (pv 4) (pa_cons (pv 6) pa_nil)))))) pss_never pss_nil)))))
      (pss_cons (ps_set (i := 13) sc_law.nd rfl (.inl rfl) (pe_ix ix_tup (pv 2) (pe_c cD hr (by decide) rfl (pa_cons (pv 1) (pa_cons (pe_callB call_len_seq rfl bl.len boot_len (pa_cons (pv 2) pa_nil)) pa_nil))) (fun _ _ => rfl)))
      (pss_cons (ps_if (PW.pt (pw_or (pt_cmpR op_ne (pe_mt mR hr (by decide) (pe_ix ix_list (pv 5) pe_int (fun _ _ => rfl)) (pa_cons (pe_lst (pa_cons (pv 13) pa_nil)) pa_nil)) (pv 13) (nomark _))
          (pw_or1 (pt_cmpR op_ne (pe_callB (OW.call_lenO SL (hr.mono (by decide))) rfl bl.len boot_len (pa_cons (pe_ix ix_list (pv 5) pe_int (fun _ _ => rfl)) pa_nil)) (pe_op op_add (pe_ix ix_list (pv 7) pe_int (fun _ _ => rfl)) pe_int) (nomark _))))) pss_never pss_nil)
      (pss_one (ps_ret (GL.pe_cG cEr hgd hr (by decide) rfl (pa_cons (pv 5) (pa_cons (pv 4) (pa_cons (pv 6) pa_nil)))))))))))))))), ?_⟩
    refine ⟨_, rfl, s0, ns, rfl, hS, hlen, fun h H1 s1 f1 held1 => ?_⟩
    have t1 := Tabs.ext tabs s1
    -- the order
    refine ⟨fun σ' H' => ∃ (ot : Addr) (xs : List Str), σ' = [some (.ref s0), some (.ref h), some (.ref ot), none, none, none, none, none, none, none, none, none, none, none, none, none, none] ∧ H' ot = some (.tup (xs.map V.str)) ∧ Ord xs ∧ 2 ≤ xs.length ∧ Held H' h 800000000 ∧ Tabs (T0 K) H', ?_, ?_⟩
    · refine ⟨_, rfl, _, rfl, h, 800000041, 5, rfl, held1.weak (by decide), by decide, by decide, fun m H2 m0 m1 held2 k2 => ?_⟩
      obtain ⟨k, rfl⟩ : ∃ k : Nat, m = k := ⟨m.toNat, by omega⟩
      refine ⟨_, _, rfl, rfl, h, 800000001, 2 + k, rfl, held2.weak (by decide), by omega, fun o zs H3 held3 k3 fo ho zl zok zpw => ?_⟩
      refine ⟨o, _, rfl, .inl ⟨SqL.of ho, fun ot fot => ?_⟩⟩
      have sot := same_new (o := .tup (zs.map fun l => V.str (S l))) fot
      refine ⟨ot, zs.map S, rfl, ?_, ord_of (by omega) (by omega) zok zpw, by rw [List.length_map]; omega, (held3.same sot).weak (by decide), ?_⟩
      · rw [upd_same, List.map_map]
        rfl
      · exact Tabs.ext (tabs_kp (tabs_kp t1 k2 held1) k3 held2) sot
    clear held1 t1 f1
    rintro σ' H2 ⟨ot, xs, rfl, hot2, ox, two, held2, t2⟩
    have l8 := ox.l8
    -- the other rule
    refine ⟨fun σ' H' => ∃ (r2 o2 : Addr) (x2 : List Str) (w2 : Word), σ' = [some (.ref s0), some (.ref h), some (.ref ot), some (.ref r2), none, none, none, none, none, none, none, none, none, none, none, none, none] ∧ H' ot = some (.tup (xs.map V.str)) ∧ Rule3 H' r2 o2 x2 w2 ∧ (x2 = xs ∨ x2 = xs.reverse) ∧ Held H' h 700000000 ∧ Tabs (T0 K) H', ?_, ?_⟩
    · refine ⟨_, rfl, _, rfl, _, rfl, by show 2 ≤ sizeLine; decide, fun u fu => ?_⟩
      have su := same_new (o := .lst [.int 1, .int (-1)]) fu
      refine ⟨_, rfl, h, 799999999, 2, rfl, (held2.same su).weak (by decide), by decide, by decide, fun r H3 r0 r1 held3 k3 => ?_⟩
      have hu3 : H3 u = some (.lst [.int 1, .int (-1)]) := k3.1 u _ upd_same (held2.ne_new fu)
      have hot3 : H3 ot = some (.tup (xs.map V.str)) := k3.tupS (K := K) (held2.same su) (su _ _ hot2)
      have t3 := tabs_kp (Tabs.ext t2 su) k3 (held2.same su)
      obtain ⟨k, hk, k1⟩ := at_step r0 r1
      refine ⟨u, _, _, _, rfl, rfl, SqL.of hu3, hk, k, rfl, ot, _, k, rfl, rfl, k1, SqT.of hot3, fun _ => ?_, fun _ q fq => ?_⟩
      · refine ⟨h, ot, 700000000, xs, rfl, held3.weak (by decide), hot3, ox, fun r2 w2 H4 held4 k4 rl => ?_⟩
        exact ⟨r2, ot, xs, w2, rfl, k4.tupS (K := K) held3 hot3, rl, .inl rfl, held4, tabs_kp t3 k4 held3⟩
      · have sq := same_new (o := .tup (xs.map V.str).reverse) fq
        refine ⟨h, q, 700000000, xs.reverse, rfl, (held3.same sq).weak (by decide), by rw [upd_same, List.map_reverse], ox.rev, fun r2 w2 H4 held4 k4 rl => ?_⟩
        exact ⟨r2, q, xs.reverse, w2, rfl, k4.tupS (K := K) (held3.same sq) (sq _ _ hot3), rl, .inr rfl, held4, tabs_kp (Tabs.ext t3 sq) k4 (held3.same sq)⟩
    clear held2 t2 hot2
    rintro σ' H2 ⟨r2, o2, x2, w2, rfl, hot2, rl2, ex2, held2, t2⟩
    -- the rules
    refine ⟨fun σ' H' => ∃ (ro r1 : Addr) (w1 : Word), σ' = [some (.ref s0), some (.ref h), some (.ref ot), some (.ref r2), some (.ref ro), none, none, none, none, none, none, none, none, none, none, none, none] ∧ H' ot = some (.tup (xs.map V.str)) ∧ H' ro = some (.lst (four fun i => if i < 2 then .ref r1 else .ref r2)) ∧ Rule3 H' r1 ot xs w1 ∧ Rule3 H' r2 o2 x2 w2 ∧ Held H' h 600000000 ∧ Tabs (T0 K) H', ?_, ?_⟩
    · refine ⟨_, rfl, _, rfl, h, ot, 600000000, xs, rfl, held2.weak (by decide), hot2, ox, fun r1 w1 H3 held3 k3 rl1 => ?_⟩
      have hot3 := k3.tupS (K := K) held2 hot2
      have rl3 := rl2.ext fun b ys e => k3.tupS (K := K) held2 e
      have t3 := tabs_kp t2 k3 held2
      refine ⟨by show 1 ≤ sizeLine; decide, fun l1 f1 => ?_⟩
      have y1 := same_new (o := .lst [.ref r1]) f1
      refine ⟨l1, 2, [.ref r1], rfl, rfl, upd_same, by decide, by decide, by show 1 * 2 ≤ sizeLine; decide, fun l2 f2 => ?_⟩
      have y2 := same_new (o := .lst (List.replicate (2 : Int).toNat [V.ref r1]).flatten) f2
      have e2 : (upd (upd H3 l1 (.lst [.ref r1])) l2 (.lst (List.replicate (2 : Int).toNat [V.ref r1]).flatten)) l2 = some (.lst [.ref r1, .ref r1]) := by rw [upd_same]; rfl
      have y12 := y1.trans y2
      generalize upd (upd H3 l1 (.lst [.ref r1])) l2 (.lst (List.replicate (2 : Int).toNat [V.ref r1]).flatten) = H4 at e2 y12 ⊢
      refine ⟨_, rfl, by show 1 ≤ sizeLine; decide, fun l3 f3 => ?_⟩
      have y3 := same_new (o := .lst [.ref r2]) f3
      refine ⟨l3, 2, [.ref r2], rfl, rfl, upd_same, by decide, by decide, by show 1 * 2 ≤ sizeLine; decide, fun l4 f4 => ?_⟩
      have y4 := same_new (o := .lst (List.replicate (2 : Int).toNat [V.ref r2]).flatten) f4
      have e4 : (upd (upd H4 l3 (.lst [.ref r2])) l4 (.lst (List.replicate (2 : Int).toNat [V.ref r2]).flatten)) l4 = some (.lst [.ref r2, .ref r2]) := by rw [upd_same]; rfl
      have y34 := y3.trans y4
      generalize upd (upd H4 l3 (.lst [.ref r2])) l4 (.lst (List.replicate (2 : Int).toNat [V.ref r2]).flatten) = H5 at e4 y34 ⊢
      refine ⟨l2, l4, [.ref r1, .ref r1], [.ref r2, .ref r2], rfl, rfl, y34 _ _ e2, e4, by show 2 + 2 ≤ sizeLine; decide, fun ro fro => ?_⟩
      have y5 := same_new (o := .lst ([.ref r1, .ref r1] ++ [.ref r2, .ref r2])) fro
      have s35 := (y12.trans y34).trans y5
      exact ⟨ro, r1, w1, rfl, s35 _ _ hot3, upd_same, rl1.same s35, rl3.same s35, held3.same s35, Tabs.ext t3 s35⟩
    clear held2 t2 hot2 rl2
    rintro σ' H2 ⟨ro, r1, w1, rfl, hot2, hro2, rl1, rl2, held2, t2⟩
    -- the Turns
    refine ⟨fun σ' H' => ∃ (so : Addr) (t : Nat → TR), σ' = [some (.ref s0), some (.ref h), some (.ref ot), some (.ref r2), some (.ref ro), some (.ref so), none, none, none, none, none, none, none, none, none, none, none] ∧ H' ot = some (.tup (xs.map V.str)) ∧ H' ro = some (.lst (four fun i => if i < 2 then .ref r1 else .ref r2)) ∧ H' so = some (.lst (four fun i => .ref (t i).tu)) ∧ (∀ i < 4, New CT h so ro (if i < 2 then r1 else r2) xs H' (t i)) ∧ (∀ i < 4, ∀ j < 4, (t i).tu = (t j).tu → i = j) ∧ (∀ i < 4, ∀ j < 4, (t i).ps = (t j).ps → i = j) ∧ Held H' h 600000000 ∧ Tabs (T0 K) H', ?_, ?_⟩
    · refine ⟨_, rfl, ro, rfl, ⟨_, SqL.of hro2⟩, fun D fD => ?_⟩
      have sD := same_new (o := .lst []) fD
      refine lc_list (K := K) (xs := four fun i => if i < 2 then V.ref r1 else .ref r2) (fun i H' => ∃ t : Nat → TR, Same H2 H' ∧ H' D = some (.lst ((four fun i => .ref (t i).tu).take i)) ∧ (∀ j < i, New CT h D ro (if j < 2 then r1 else r2) xs H' (t j)) ∧ (∀ j < i, ∀ k < i, (t j).tu = (t k).tu → j = k) ∧ (∀ j < i, ∀ k < i, (t j).ps = (t k).ps → j = k))
        ⟨fun _ => TR0, sD, upd_same, fun j hj => absurd hj (Nat.not_lt_zero _), fun j hj => absurd hj (Nat.not_lt_zero _), fun j hj => absurd hj (Nat.not_lt_zero _)⟩ (fun i H' _ ⟨_, s, _⟩ => SqL.of (s _ _ hro2)) ?_ ?_
      · rintro i x Hh hx ⟨t, s, hD, nw, nt, np⟩
        obtain ⟨i4, ex⟩ := four_at hx
        have ex : x = .ref (if i < 2 then r1 else r2) := by
          rw [ex]
          split <;> rfl
        subst ex
        have rlx : ∃ (oo : Addr) (xx : List Str) (ww : Word), Rule3 Hh (if i < 2 then r1 else r2) oo xx ww ∧ (xx = xs ∨ xx = xs.reverse) := by
          split
          · exact ⟨ot, xs, w1, rl1.same s, .inl rfl⟩
          · exact ⟨o2, x2, w2, rl2.same s, ex2⟩
        obtain ⟨oo, xx, ww, rl, sx⟩ := rlx
        have heldh := held2.same s
        obtain ⟨la, ns0, n0, m0, hhh, _⟩ := id heldh
        refine ⟨rfl, _, rfl, ?_⟩
        intro tu dx ntu ndx nne
        have lift : ∀ b o, Hh b = some o → (upd (upd Hh dx (.own tu)) tu (.ins CT dx [])) b = some o := fun b o e => by
          rw [upd_ne (ne_of_none e ntu), upd_ne (ne_of_none e ndx)]
          exact e
        refine ⟨tu, dx, _, oo, xx, ww, rfl, upd_same, rl.ext fun b ys e => lift _ _ e, fun H4 hd kp ps md back fps htu hcd hck hps => ⟨rfl, ?_⟩⟩
        have s34 : Same Hh H4 := fun b o e => back b o (ne_of_none e ntu) (lift b o e)
        have fps' : Hh ps = none := by
          cases e : Hh ps with
          | none => rfl
          | some o => rw [lift ps o e] at fps; cases fps
        have hD4 := s34 _ _ hD
        have hh4 := s34 _ _ hhh
        have nDp : ps ≠ D := (ne_of_none hD fps').symm
        have nw4 : New CT h D ro (if i < 2 then r1 else r2) xs H4 ⟨tu, if i < 2 then r1 else r2, oo, ps, hd, kp, xx, ww, fun _ => 0, md, []⟩ :=
          ⟨⟨rl.same s34, ⟨dx, htu⟩, hcd, fun x => Nat.zero_le _, hck, hps⟩, rfl, sx, rfl, rfl, (Cel.of heldh fps').kp (Kp.same s34), nDp, (ne_of_none (s _ _ hro2) fps').symm⟩
        have mv : ∀ {b : Addr} {o : HO}, H4 b = some o → b ≠ D → (upd H4 D (.lst ((four fun i => .ref (t i).tu).take i ++ [.ref tu]))) b = some o := fun e n => by
          rw [upd_ne n]
          exact e
        refine ⟨_, hD4, by rw [four_len (by omega)]; exact Nat.lt_of_lt_of_le (by omega : i < 64) (by decide), upA t i ⟨tu, if i < 2 then r1 else r2, oo, ps, hd, kp, xx, ww, fun _ => 0, md, []⟩, ?_, ?_, ?_, ?_, ?_⟩
        · intro b o e
          rw [upd_ne (ne_of_none e fD)]
          exact s34 _ _ (s _ _ e)
        · rw [upd_same, take_up (g := fun u : TR => V.ref u.tu) i4]
        · intro j hj
          unfold upA
          by_cases q : j = i
          · subst q
            rw [if_pos rfl]
            exact nw4.mv mv ⟨_, hD4⟩ ⟨_, hh4⟩
          · rw [if_neg q]
            have nj := nw j (by omega)
            exact (nj.mv (H' := H4) (fun e _ => s34 _ _ e) ⟨_, hD⟩ ⟨_, hhh⟩).mv mv ⟨_, hD4⟩ ⟨_, hh4⟩
        · intro j hj k hk e
          have old : ∀ j, j < i → (t j).tu ≠ tu := fun j hj => by
            obtain ⟨dy, e⟩ := (nw j hj).t1.tr
            exact ne_of_none e ntu
          unfold upA at e
          by_cases q : j = i <;> by_cases q2 : k = i
          · rw [q, q2]
          · rw [if_pos q, if_neg q2] at e
            exact absurd e.symm (old k (by omega))
          · rw [if_neg q, if_pos q2] at e
            exact absurd e (old j (by omega))
          · rw [if_neg q, if_neg q2] at e
            exact nt j (by omega) k (by omega) e
        · intro j hj k hk e
          have old : ∀ j, j < i → (t j).ps ≠ ps := fun j hj => ne_of_none (nw j hj).t1.pa fps'
          unfold upA at e
          by_cases q : j = i <;> by_cases q2 : k = i
          · rw [q, q2]
          · rw [if_pos q, if_neg q2] at e
            exact absurd e.symm (old k (by omega))
          · rw [if_neg q, if_pos q2] at e
            exact absurd e (old j (by omega))
          · rw [if_neg q, if_neg q2] at e
            exact np j (by omega) k (by omega) e
      · rintro H3 ⟨t, s, hD, nw, nt, np⟩
        exact ⟨D, t, rfl, s _ _ hot2, s _ _ hro2, hD, nw, nt, np, held2.same s, Tabs.ext t2 s⟩
    clear held2 t2 hot2 rl1 rl2 hro2
    rintro σ' H2 ⟨so, t, rfl, hot2, hro2, hso2, nw, nt, np, held2, t2⟩
    obtain ⟨la, ns0, n0, m0, hh2, _⟩ := id held2
    -- the dues
    refine ⟨fun σ' H' => ∃ (du : Addr) (dd : Nat → Addr), σ' = [some (.ref s0), some (.ref h), some (.ref ot), some (.ref r2), some (.ref ro), some (.ref so), some (.ref du), none, none, none, none, none, none, none, none, none, none] ∧ Same H2 H' ∧ H2 du = none ∧ H' du = some (.lst (four fun i => .ref (dd i))) ∧ (∀ i < 4, Due H' (dd i) xs (fun _ => 0) ∧ dd i ≠ h), ?_, ?_⟩
    · refine ⟨_, rfl, ro, rfl, ⟨_, SqL.of hro2⟩, fun D fD => ?_⟩
      have sD := same_new (o := .lst []) fD
      refine lc_list (K := K) (xs := four fun i => if i < 2 then V.ref r1 else .ref r2) (fun i H' => ∃ dd : Nat → Addr, Same H2 H' ∧ H' D = some (.lst ((four fun i => .ref (dd i)).take i)) ∧ ∀ j < i, Due H' (dd j) xs (fun _ => 0) ∧ dd j ≠ h)
        ⟨fun _ => 0, sD, upd_same, fun j hj => absurd hj (Nat.not_lt_zero _)⟩ (fun i H' _ ⟨_, s, _⟩ => SqL.of (s _ _ hro2)) ?_ ?_
      · rintro i0 x Hh hx ⟨dd, s, hD, nd⟩
        obtain ⟨i4, _⟩ := four_at hx
        have hot4 := s _ _ hot2
        refine ⟨rfl, _, rfl, ot, rfl, ⟨_, SqT.of hot4⟩, fun E3 hE3 => lc_tup (fun i H5 => ∃ pa ad : Str → Addr, H5 E3 = some (.lst ((xs.take i).map fun x => V.ref (pa x))) ∧ (∀ x ∈ xs.take i, H5 (pa x) = some (.tup [.str x, .ref (ad x)]) ∧ H5 (ad x) = some (tupP (0, 1))) ∧ Same Hh H5)
          ⟨fun _ => 0, fun _ => 0, upd_same, fun x hx => by simp at hx, same_new hE3⟩ (fun _ H5 _ ⟨_, _, _, _, sm⟩ => SqT.of (sm _ _ hot4)) ?_ ?_⟩
        · rintro i x H5 hx ⟨pa, ad, hee5, hpa, sm⟩
          have hi' : i < xs.length := by
            have := (List.getElem?_eq_some_iff.mp hx).1
            simpa using this
          rw [List.getElem?_map] at hx
          obtain ⟨z, hz, rfl⟩ := Option.map_eq_some_iff.mp hx
          have nz := nin_take ox.nd hz
          have et : xs.take (i + 1) = xs.take i ++ [z] := by rw [List.take_succ, hz]; rfl
          refine ⟨rfl, ?_⟩
          refine ⟨_, rfl, by show 2 ≤ sizeLine; decide, fun q0 fq0 => ⟨by show 2 ≤ sizeLine; decide, fun q fq => ?_⟩⟩
          have s0 := same_new (o := .tup [.int 0, .int 1]) fq0
          have sq := same_new (o := .tup [.str z, .ref q0]) fq
          have hE5 := sq _ _ (s0 _ _ hee5)
          refine ⟨_, hE5, ?_, fun x => if x = z then q else pa x, fun x => if x = z then q0 else ad x, ?_, ?_, ?_⟩
          · rw [List.length_map, List.length_take]
            exact Nat.lt_of_lt_of_le (by omega : min i xs.length < 64) (by decide)
          · rw [upd_same, et, List.map_append]
            have e1 : (xs.take i).map (fun x => V.ref (pa x)) = (xs.take i).map fun x => V.ref (if x = z then q else pa x) := List.map_congr_left fun x hx => by rw [if_neg (show x ≠ z from fun e => nz (e ▸ hx))]
            rw [e1]
            simp
          · intro x hx
            have keep : ∀ {p : Addr} {o : HO} {ys : List V}, (upd (upd H5 q0 (.tup [.int 0, .int 1])) q (.tup [.str z, .ref q0])) p = some (.tup ys) → (upd (upd (upd H5 q0 (.tup [.int 0, .int 1])) q (.tup [.str z, .ref q0])) E3 o) p = some (.tup ys) := fun {p o ys} hp => by
              rw [upd_ne (fun e => by rw [e, hE5] at hp; cases hp)]
              exact hp
            show (upd _ E3 _) (if x = z then q else pa x) = some (.tup [.str x, .ref (if x = z then q0 else ad x)]) ∧ (upd _ E3 _) (if x = z then q0 else ad x) = _
            rw [et] at hx
            rcases List.mem_append.mp hx with hx | hx
            · rw [if_neg (show x ≠ z from fun e => nz (e ▸ hx)), if_neg (show x ≠ z from fun e => nz (e ▸ hx))]
              exact ⟨keep (sq _ _ (s0 _ _ (hpa x hx).1)), keep (sq _ _ (s0 _ _ (hpa x hx).2))⟩
            · rw [List.mem_singleton] at hx
              rw [if_pos hx, if_pos hx, hx]
              exact ⟨keep upd_same, keep (sq _ _ upd_same)⟩
          · intro a o e
            rw [upd_ne (ne_of_none e hE3)]
            exact sq a o (s0 a o (sm a o e))
        rintro H5 ⟨pa, ad, hee5, hpa, s5⟩
        rw [List.length_map, List.take_length] at hee5 hpa
        refine ⟨E3, xs.map pa, xs.map fun x => ((Sum.inr x : Key), V.ref (ad x)), rfl, by rw [List.map_map]; exact SqL.of hee5, paired_map fun x hx => SqT.of (hpa x hx).1, fun d fd0 => ?_⟩
        have em := DQ.merge_map (fun x => V.ref (ad x)) (l := xs) (m := []) ox.nd
        rw [List.nil_append] at em
        have em' : mergeK [] (xs.map fun x => ((Sum.inr x : Key), V.ref (ad x))) = xs.map fun x => ((Sum.inr x : Key), V.ref (ad x)) := em
        rw [em']
        have sd := same_new (o := .dK (xs.map fun x => ((Sum.inr x : Key), V.ref (ad x)))) fd0
        have due6 : Due (upd H5 d (.dK (xs.map fun x => ((Sum.inr x : Key), V.ref (ad x))))) d xs (fun _ => 0) := ⟨ad, upd_same, fun x hx => by
          show _ = some (tupP (pr (rt 0)))
          rw [pr0]
          exact sd _ _ (hpa x hx).2⟩
        have s56 := s5.trans sd
        have ndh : d ≠ h := (ne_of_none (s5 _ _ (s _ _ hh2)) fd0).symm
        generalize upd H5 d (.dK (xs.map fun x => ((Sum.inr x : Key), V.ref (ad x)))) = H6 at due6 s56 ⊢
        have hD6 := s56 _ _ hD
        have up : ∀ {e : Addr}, Due H6 e xs (fun _ => 0) → Due (upd H6 D (.lst ((four fun i => .ref (dd i)).take i0 ++ [.ref d]))) e xs (fun _ => 0) := fun {e} w => by
          obtain ⟨pt, w1, w2⟩ := w
          exact ⟨pt, by rw [upd_ne (ne_c w1 hD6 nofun)]; exact w1, fun x hx => by rw [upd_ne (ne_c (w2 x hx) hD6 nofun)]; exact w2 x hx⟩
        refine ⟨_, hD6, by rw [four_len (by omega)]; exact Nat.lt_of_lt_of_le (by omega : i0 < 64) (by decide), upA dd i0 d, ?_, ?_, ?_⟩
        · intro b o e
          rw [upd_ne (ne_of_none e fD)]
          exact s56 _ _ (s _ _ e)
        · rw [upd_same, take_up (g := V.ref) i4]
        · intro j hj
          unfold upA
          by_cases q : j = i0
          · rw [if_pos q]
            exact ⟨up due6, ndh⟩
          · rw [if_neg q]
            have nj := nd j (by omega)
            exact ⟨up (nj.1.same s56), nj.2⟩
      · rintro H3 ⟨dd, s, hD, nd⟩
        exact ⟨D, dd, rfl, s, fD, hD, nd⟩
    rintro σ' H3 ⟨du, dd, rfl, s3, fdu, hdu, nd⟩
    -- how many
    refine ⟨fun σ' H' => ∃ a : Ad, a.CT = CT ∧ σ' = [some (.ref s0), some (.ref a.h), some (.ref a.ot), some (.ref r2), some (.ref a.ro), some (.ref a.so), some (.ref a.du), some (.ref a.mn), none, none, none, none, none, none, none, none, none] ∧ M4 K a xs t dd (fun _ _ => 0) (fun _ => 0) 600000000 0 H', ?_, ?_⟩
    · refine ⟨by show 4 ≤ sizeLine; decide, fun mn fmn => ?_⟩
      have s4 := same_new (o := .lst [.int 0, .int 0, .int 0, .int 0]) fmn
      have s24 := s3.trans s4
      have hmn : (upd H3 mn (.lst [.int 0, .int 0, .int 0, .int 0])) mn = some (.lst (four fun _ => .int ((0 : Nat) : Int))) := upd_same
      generalize upd H3 mn (.lst [.int 0, .int 0, .int 0, .int 0]) = H4 at s4 s24 hmn ⊢
      have nwi : ∀ i < 4, New CT h so ro (if i < 2 then r1 else r2) xs H4 (t i) := fun i hi => (nw i hi).mv (fun e _ => s24 _ _ e) ⟨_, hso2⟩ ⟨_, hh2⟩
      have held4 := held2.same s24
      refine ⟨⟨CT, h, so, ro, du, mn, ot⟩, rfl, rfl, held4, s24 _ _ hso2, ?_, s4 _ _ hdu, hmn, s24 _ _ hot2, ox, two, fun i hi => (nwi i hi).t1, fun i hi => (nwi i hi).sx, fun i hi => (nd i hi).1.same s4, fun i hi => (nd i hi).2, nt, np, fun i hi => ?_, Tabs.ext t2 s24,
        ⟨(Cel.of held2 fdu).kp (Kp.same s24), (Cel.of (held2.same s3) fmn).kp (Kp.same s4), fun i hi => (nwi i hi).ce⟩, ⟨(ne_of_none hso2 fdu).symm, (ne_of_none hro2 fdu).symm, ne_of_none hdu fmn⟩, ⟨(ne_of_none (s3 _ _ hso2) fmn).symm, (ne_of_none (s3 _ _ hro2) fmn).symm⟩, fun i hi => ⟨(nwi i hi).nd, (nwi i hi).nr, ne_of_none (nw i hi).t1.pa fdu, ne_of_none (s3 _ _ (nw i hi).t1.pa) fmn⟩⟩
      · rw [s24 _ _ hro2]
        show some (HO.lst (four _)) = some (HO.lst (four _))
        rw [four_take_all fun i hi => ?_]
        show (if i < 2 then V.ref r1 else V.ref r2) = V.ref (t i).rt
        rw [(nw i hi).rt]
        split <;> rfl
      · rw [(nwi i hi).g0]
        exact Nat.le_refl _
    have ct : ∀ i < 4, (fun (_ : Str) => (0 : Int)) = (t i).c ∧ 0 = (t i).gl.length := fun i hi => ⟨(nw i hi).c0.symm, by rw [(nw i hi).g0]; rfl⟩
    clear nd hdu fdu s3 hh2 held2 t2 nt np nw hso2 hro2 hot2
    rintro σ' H4 ⟨a, eCT, rfl, M0⟩
    subst eCT
    refine ⟨_, rfl, a.h, 500000000, 12, rfl, M0.held.weak (by decide), by decide, by decide, fun m H5 m0 m1 held5 k5 => ?_⟩
    have M5 := M0.kept k5 held5
    clear M0
    obtain ⟨m, rfl⟩ : ∃ k : Nat, m = k := ⟨m.toNat, by omega⟩
    have e6 : (6 + (m : Int)).toNat = 6 + m := by omega
    refine ⟨_, _, rfl, rfl, _, rfl, by omega, by omega, ?_⟩
    rw [e6]
    refine for_range (n := 6 + m) (fun i σ H' => ∃ (v8 v9 v10 v11 v12 : Option V) (t : Nat → TR) (dd : Nat → Addr) (cd : Nat → Str → Int) (cn : Nat → Nat), σ = [some (.ref s0), some (.ref a.h), some (.ref a.ot), some (.ref r2), some (.ref a.ro), some (.ref a.so), some (.ref a.du), some (.ref a.mn), v8, v9, v10, v11, v12, none, none, none, none] ∧ M4 K a xs t dd cd cn (500000000 - 1000 * i) (4 * i) H' ∧ ∀ i < 4, cd i = (t i).c ∧ cn i = (t i).gl.length)
      ⟨_, _, _, _, _, _, _, _, _, rfl, M5, ct⟩ ?_ ?_
    · clear M5 ct
      rintro i σ Ha hi ⟨v8, v9, v10, v11, v12, t, dd, cd, cn, rfl, Ma, ct⟩
      -- the riders
      refine ⟨_, rfl, _, rfl, a.h, a.ot, 500000000 - 1000 * i - 20, xs, rfl, Ma.held.weak (by omega), Ma.ho, ox.ne, ox.nd, by omega, fun rd R Hb heldb kb frd hrd dy => ?_⟩
      have Mb := Ma.kept kb heldb
      have Fb : Fr a t rd (R.map V.str) Hb := Ma.fr frd hrd
      clear Ma kb heldb hrd
      -- some of them
      refine ⟨fun σ' H' => ∃ (v10 v11 v12 : Option V) (t : Nat → TR) (dd : Nat → Addr) (cd : Nat → Str → Int) (cn : Nat → Nat), σ' = [some (.ref s0), some (.ref a.h), some (.ref a.ot), some (.ref r2), some (.ref a.ro), some (.ref a.so), some (.ref a.du), some (.ref a.mn), some (.int (0 + i)), some (.ref rd), v10, v11, v12, none, none, none, none] ∧ M4 K a xs t dd cd cn (500000000 - 1000 * i - 900) (4 * i + 4) H' ∧ ∀ i < 4, cd i = (t i).c ∧ cn i = (t i).gl.length, ?_, ?_⟩
      · refine ⟨by show 4 ≤ sizeLine; decide, fun l0 f0 => ?_⟩
        have y0 := same_new (o := .lst [.int 0, .int 1, .int 2, .int 3]) f0
        have F0 : Fr a t l0 [.int 0, .int 1, .int 2, .int 3] _ := Mb.fr f0 (upd_same : (upd Hb l0 (.lst [.int 0, .int 1, .int 2, .int 3])) l0 = _)
        have M1 := Mb.same y0
        have R1 := Fb.same y0
        clear Mb Fb
        generalize upd Hb l0 (.lst [.int 0, .int 1, .int 2, .int 3]) = H1 at y0 F0 M1 R1 ⊢
        refine ⟨by show 2 ≤ sizeLine; decide, fun l1 f1 => ?_⟩
        have y1 := same_new (o := .lst [.int 0, .int 1]) f1
        have F1 : Fr a t l1 [.int 0, .int 1] _ := M1.fr f1 (upd_same : (upd H1 l1 (.lst [.int 0, .int 1])) l1 = _)
        have M2 := M1.same y1
        have R2 := R1.same y1
        have F0 := F0.same y1
        clear M1 R1
        generalize upd H1 l1 (.lst [.int 0, .int 1]) = H2 at y1 F1 F0 M2 R2 ⊢
        refine ⟨by show 2 ≤ sizeLine; decide, fun l2 f2 => ?_⟩
        have y2 := same_new (o := .lst [.int 2, .int 3]) f2
        have F2 : Fr a t l2 [.int 2, .int 3] _ := M2.fr f2 (upd_same : (upd H2 l2 (.lst [.int 2, .int 3])) l2 = _)
        have M3 := M2.same y2
        have R3 := R2.same y2
        have F0 := F0.same y2
        have F1 := F1.same y2
        clear M2 R2
        generalize upd H2 l2 (.lst [.int 2, .int 3]) = H3 at y2 F2 F1 F0 M3 R3 ⊢
        refine ⟨_, rfl, a.h, 500000000 - 1000 * i - 21, 4, rfl, M3.held.weak (by omega), by decide, by decide, fun p H4 p0 p1 held4 k4 => ?_⟩
        have M4' := M3.kept k4 held4
        have R4 := R3.kept M3 k4
        have F0 := F0.kept M3 k4
        have F1 := F1.kept M3 k4
        have F2 := F2.kept M3 k4
        clear M3 R3
        obtain ⟨p, rfl⟩ : ∃ k : Nat, p = k := ⟨p.toNat, by omega⟩
        refine ⟨by show 1 ≤ sizeLine; decide, fun l3 f3 => ?_⟩
        have y3 := same_new (o := .lst [.int (p : Nat)]) f3
        have F3 : Fr a t l3 [.int (p : Nat)] _ := M4'.fr f3 (upd_same : (upd H4 l3 (.lst [.int (p : Nat)])) l3 = _)
        have M5 := M4'.same y3
        have R5 := R4.same y3
        have F0 := F0.same y3
        have F1 := F1.same y3
        have F2 := F2.same y3
        clear M4' R4
        generalize upd H4 l3 (.lst [.int (p : Nat)]) = H5 at y3 F3 F2 F1 F0 M5 R5 ⊢
        refine ⟨by show 4 ≤ sizeLine; decide, fun lq fq => ?_⟩
        have y4 := same_new (o := .lst [.ref l0, .ref l1, .ref l2, .ref l3]) fq
        have hq : (upd H5 lq (.lst [.ref l0, .ref l1, .ref l2, .ref l3])) lq = some (.lst [.ref l0, .ref l1, .ref l2, .ref l3]) := upd_same
        have M6 := M5.same y4
        have R6 := R5.same y4
        have F0 := F0.same y4
        have F1 := F1.same y4
        have F2 := F2.same y4
        have F3 := F3.same y4
        clear M5 R5
        generalize upd H5 lq (.lst [.ref l0, .ref l1, .ref l2, .ref l3]) = H6 at y4 hq F3 F2 F1 F0 M6 R6 ⊢
        refine ⟨_, rfl, a.h, 500000000 - 1000 * i - 22, 4, rfl, M6.held.weak (by omega), by decide, by decide, fun r H7 r0 r1 held7 k7 => ?_⟩
        obtain ⟨la, ns0, n0, m0, hh6, _⟩ := id M6.held
        have hq7 := k7.1 _ _ hq (ne_c hq hh6 nofun)
        have M7 := M6.kept k7 held7
        have R7 := R6.kept M6 k7
        have F0 := F0.kept M6 k7
        have F1 := F1.kept M6 k7
        have F2 := F2.kept M6 k7
        have F3 := F3.kept M6 k7
        clear M6 R6
        have pick : ∃ (q : Addr) (ks : List Nat), atI [V.ref l0, V.ref l1, V.ref l2, V.ref l3] r = some (V.ref q) ∧ Fr a t q (ks.map fun k => V.int (k : Nat)) H7 ∧ (∀ k ∈ ks, k < 4) ∧ ks.length ≤ 4 := by
          rcases (by omega : r = 0 ∨ r = 1 ∨ r = 2 ∨ r = 3) with rfl | rfl | rfl | rfl
          · exact ⟨l0, [0, 1, 2, 3], rfl, F0, by decide, by decide⟩
          · exact ⟨l1, [0, 1], rfl, F1, by decide, by decide⟩
          · exact ⟨l2, [2, 3], rfl, F2, by decide, by decide⟩
          · exact ⟨l3, [p], rfl, F3, fun k hk => by rw [List.mem_singleton] at hk; omega, by show 1 ≤ 4; decide⟩
        obtain ⟨q, ks, hat, Fq, k4', kl⟩ := pick
        clear F0 F1 F2 F3
        refine ⟨lq, _, _, _, rfl, rfl, SqL.of hq7, hat, q, rfl, ⟨_, SqL.of Fq.e⟩, ?_⟩
        refine for_list (K := K) (xs := ks.map fun k => V.int (k : Nat)) (fun j σ H' => ∃ (v10 v11 v12 : Option V) (t : Nat → TR) (dd : Nat → Addr) (cd : Nat → Str → Int) (cn : Nat → Nat), σ = [some (.ref s0), some (.ref a.h), some (.ref a.ot), some (.ref r2), some (.ref a.ro), some (.ref a.so), some (.ref a.du), some (.ref a.mn), some (.int (0 + i)), some (.ref rd), v10, v11, v12, none, none, none, none] ∧ M4 K a xs t dd cd cn (500000000 - 1000 * i - 22 - 100 * j) (4 * i + j) H' ∧ (∀ i < 4, cd i = (t i).c ∧ cn i = (t i).gl.length) ∧ Fr a t rd (R.map V.str) H' ∧ Fr a t q (ks.map fun k => V.int (k : Nat)) H')
          ⟨_, _, _, _, _, _, _, rfl, M7, ct, R7, Fq⟩ (fun j σ H' _ ⟨_, _, _, _, _, _, _, _, _, _, _, f⟩ => SqL.of f.e) ?_ ?_
        · clear M7 R7 Fq ct hq7 hq
          rintro j v σ Hc hj ⟨v10, v11, v12, t, dd, cd, cn, rfl, Mc, ct, Rc, Qc⟩
          have hj4 : j < ks.length := by
            have := (List.getElem?_eq_some_iff.mp hj).1
            simpa using this
          rw [List.getElem?_map] at hj
          obtain ⟨k, hk, rfl⟩ := Option.map_eq_some_iff.mp hj
          have hk4 := k4' k (List.mem_of_getElem? hk)
          have ctk := ct k hk4
          have cbd : ∀ x, (cd k x).natAbs ≤ 1000000 := fun x => by
            have h1 := (Mc.t1 k hk4).cb x
            have h2 := Mc.gb k hk4
            rw [ctk.1]
            omega
          -- the day here
          refine ⟨fun σ' H' => ∃ (pd : Addr) (R' : List Str), σ' = [some (.ref s0), some (.ref a.h), some (.ref a.ot), some (.ref r2), some (.ref a.ro), some (.ref a.so), some (.ref a.du), some (.ref a.mn), some (.int (0 + i)), some (.ref rd), some (.int (k : Nat)), some (.ref pd), v12, none, none, none, none] ∧ (R' = R ∨ R' = R.reverse) ∧ M4 K a xs t dd cd cn (500000000 - 1000 * i - 22 - 100 * j - 10) (4 * i + j) H' ∧ Fr a t rd (R.map V.str) H' ∧ Fr a t q (ks.map fun k => V.int (k : Nat)) H' ∧ Fr a t pd (R'.map V.str) H', ?_, ?_⟩
          · refine ⟨_, rfl, _, rfl, by show 2 ≤ sizeLine; decide, fun u fu => ?_⟩
            have su := same_new (o := .lst [.int 1, .int (-1)]) fu
            have Md := Mc.same su
            have Rd := Rc.same su
            have Qd := Qc.same su
            have hu' : (upd Hc u (.lst [.int 1, .int (-1)])) u = some (.lst [.int 1, .int (-1)]) := upd_same
            clear Mc Rc Qc
            generalize upd Hc u (.lst [.int 1, .int (-1)]) = Hd at Md Rd Qd hu' ⊢
            refine ⟨_, rfl, a.h, 500000000 - 1000 * i - 22 - 100 * j - 1, 2, rfl, Md.held.weak (by omega), by decide, by decide, fun r He r0 r1 helde ke => ?_⟩
            obtain ⟨la, ns0, n0, m0, hhd, _⟩ := id Md.held
            have hue := ke.1 _ _ hu' (ne_c hu' hhd nofun)
            have Me := Md.kept ke helde
            have Re := Rd.kept Md ke
            have Qe := Qd.kept Md ke
            obtain ⟨k', hk', k1⟩ := at_step r0 r1
            refine ⟨u, _, _, _, rfl, rfl, SqL.of hue, hk', k', rfl, rd, _, k', rfl, rfl, k1, SqL.of Re.e, fun pd fpd => ?_⟩
            have es : SLS.stepped k' (R.map V.str) = (if k' = 1 then R else R.reverse).map V.str := by
              unfold SLS.stepped
              exact step_strs
            rw [es]
            have sn := same_new (o := .lst ((if k' = 1 then R else R.reverse).map V.str)) fpd
            refine ⟨pd, if k' = 1 then R else R.reverse, rfl, ?_, (Me.same sn).weak (by omega), Re.same sn, Qe.same sn, Me.fr fpd upd_same⟩
            split
            · exact .inl rfl
            · exact .inr rfl
          clear Mc Rc Qc
          rintro σ' Hd ⟨pd, R', rfl, eR, Md, Rd, Qd, Pd⟩
          have dy' : DayOk xs R' := by
            rcases eR with rfl | rfl
            · exact dy
            · exact dy.rev
          have dyk := dy'.by (Md.sx k hk4)
          have sub' : ∀ y ∈ R', y ∈ R := by
            rcases eR with rfl | rfl
            · exact fun y hy => hy
            · exact fun y hy => List.mem_reverse.mp hy
          have nx : ∀ (y : Str) (c : Str → Int), nxt R' y c = nxt R y c := by
            rcases eR with rfl | rfl
            · exact fun _ _ => rfl
            · exact fun _ _ => nxt_rev
          have glen : (t k).gl.length ≤ 1000 := by
            have := Md.gb k hk4
            omega
          have xk := Md.t1 k hk4
          obtain ⟨dx, htu⟩ := id xk.tr
          refine ⟨_, rfl, _, rfl, a.so, _, _, _, rfl, rfl, SqL.of Md.so, at4n _ hk4, (t k).tu, dx, _, rfl, htu, tr_no _ _ _ _ (by decide +kernel) (by decide +kernel) (by decide +kernel) (by decide +kernel), _, rfl, (t k).tu, pd, (t k).rt, (t k).ot, (t k).hd, (t k).kp, (t k).ps, (t k).xs, R', (t k).wd, (t k).gl.length, (t k).md, rfl, xk.tr, xk.rl, xk.ck, glen, Pd.e, dyk, Md.tb, fun He ee te y1 hy1 dv1 => ?_⟩
          have Me := Md.extN ee te
          have Re := Rd.extN ee
          have Qe := Qd.extN ee
          have Pe' := Pd.extN ee
          clear Md Rd Qd Pd xk htu
          -- ridden
          refine ⟨fun σ' H' => ∃ t' : Nat → TR, σ' = [some (.ref s0), some (.ref a.h), some (.ref a.ot), some (.ref r2), some (.ref a.ro), some (.ref a.so), some (.ref a.du), some (.ref a.mn), some (.int (0 + i)), some (.ref rd), some (.int (k : Nat)), some (.ref pd), some (.str y1), none, none, none, none] ∧ M4 K a xs t' dd cd cn (500000000 - 1000 * i - 22 - 100 * j - 10) (4 * i + j + 1) H' ∧ Fr a t' rd (R.map V.str) H' ∧ Fr a t' q (ks.map fun k => V.int (k : Nat)) H' ∧ ∀ i < 4, upA cd k (nxt R y1 (cd k)) i = (t' i).c ∧ upA cn k (cn k + 1) i = (t' i).gl.length, ?_, ?_⟩
          · have xk := Me.t1 k hk4
            obtain ⟨dx, htu⟩ := id xk.tr
            refine ⟨_, rfl, _, rfl, a.so, _, _, _, rfl, rfl, SqL.of Me.so, at4n _ hk4, (t k).tu, dx, _, rfl, htu, tr_no _ _ _ _ (by decide +kernel) (by decide +kernel) (by decide +kernel) (by decide +kernel), _, rfl, (t k).tu, pd, (t k).rt, (t k).ot, (t k).hd, (t k).kp, (t k).ps, (t k).xs, R', (t k).wd, (t k).gl.length, (t k).c, (t k).gl.map V.str, (t k).md, rfl, xk.tr, xk.rl, xk.ch, xk.ck, glen, Pe'.e, dyk, Me.tb, xk.pa, by rw [List.length_map]; exact glen, Pe'.s k hk4, fun Hf hd' kp' y2 md' kT t2 hy2 dv2 tr2 ch2 ck2 pa2 => ?_⟩
            have ey : y1 = y2 := dv1.same dv2
            subst ey
            have Mf := Me.ride hk4 dyk kT t2 tr2 ch2 ck2 pa2
            have Rf := Re.ride (hd := hd') (kp := kp') (c := nxt R' y1 (t k).c) (md := md') (y := y1) Me hk4 kT
            have Qf := Qe.ride (hd := hd') (kp := kp') (c := nxt R' y1 (t k).c) (md := md') (y := y1) Me hk4 kT
            refine ⟨_, rfl, rfl, _, rfl, iteFE (by simp) ?_⟩
            refine ⟨_, rfl, _, rfl, rd, _, rfl, .inl (SqL.of Rf.e), rfl, flat_strs R, _, rfl, ?_⟩
            rw [inV_strs, decide_eq_true (sub' _ hy1)]
            refine iteFE rfl ?_
            refine ⟨_, rfl, Mf, Rf, Qf, fun i2 hi2 => ?_⟩
            unfold upA
            split
            · rename_i e
              subst e
              refine ⟨?_, ?_⟩
              · show _ = nxt R' y1 (t i2).c
                rw [nx, ctk.1]
              · show _ = ((t i2).gl ++ [y1]).length
                rw [List.length_append, ctk.2]
                rfl
            · exact ct i2 hi2
          clear Me Re Qe Pe' dv1
          rintro σ' Hf ⟨t', rfl, Mf, Rf, Qf, ct'⟩
          have hyR := sub' _ hy1
          -- its dues
          refine ⟨fun σ' H' => ∃ dd' : Nat → Addr, σ' = [some (.ref s0), some (.ref a.h), some (.ref a.ot), some (.ref r2), some (.ref a.ro), some (.ref a.so), some (.ref a.du), some (.ref a.mn), some (.int (0 + i)), some (.ref rd), some (.int (k : Nat)), some (.ref pd), some (.str y1), none, none, none, none] ∧ M4 K a xs t' dd' (upA cd k (nxt R y1 (cd k))) cn (500000000 - 1000 * i - 22 - 100 * j - 10) (4 * i + j + 1) H' ∧ Fr a t' rd (R.map V.str) H' ∧ Fr a t' q (ks.map fun k => V.int (k : Nat)) H', ?_, ?_⟩
          · refine ⟨_, rfl, _, rfl, a.du, _, _, _, rfl, rfl, SqL.of Mf.dl, at4n _ hk4, _, rfl, _, rfl, dd k, rd, xs, R, y1, cd k, rfl, Mf.due k hk4, l8, Rf.e, dy, hyR, cbd, fun D Hg sg fD hD => ?_⟩
            have Mg := Mf.same sg
            obtain ⟨la, ns0, n0, m0, hhf, _⟩ := id Mf.held
            refine ⟨_, rfl, _, rfl, a.du, _, _, k, rfl, rfl, Mg.dl, ix4 hk4, ?_⟩
            exact ⟨_, rfl, Mg.put_du hk4 hD (ne_of_none hhf fD).symm, (Rf.same sg).du, (Qf.same sg).du⟩
          clear Mf Rf Qf
          rintro σ' Hg ⟨dd', rfl, Mg, Rg, Qg⟩
          -- how many
          refine ⟨fun σ' H' => σ' = [some (.ref s0), some (.ref a.h), some (.ref a.ot), some (.ref r2), some (.ref a.ro), some (.ref a.so), some (.ref a.du), some (.ref a.mn), some (.int (0 + i)), some (.ref rd), some (.int (k : Nat)), some (.ref pd), some (.str y1), none, none, none, none] ∧ M4 K a xs t' dd' (upA cd k (nxt R y1 (cd k))) (upA cn k (cn k + 1)) (500000000 - 1000 * i - 22 - 100 * j - 10) (4 * i + j + 1) H' ∧ Fr a t' rd (R.map V.str) H' ∧ Fr a t' q (ks.map fun k => V.int (k : Nat)) H', ?_, ?_⟩
          · refine ⟨_, rfl, _, rfl, a.mn, _, _, _, rfl, rfl, SqL.of Mg.mn, at4n _ hk4, _, _, rfl, rfl, ?_⟩
            refine ⟨_, rfl, _, rfl, a.mn, _, _, k, rfl, rfl, Mg.mn, ix4 hk4, ?_⟩
            exact ⟨rfl, Mg.put_mn hk4, Rg.mn, Qg.mn⟩
          clear Mg Rg Qg
          rintro σ' Hh ⟨rfl, Mh, Rh, Qh⟩
          -- all right
          refine ⟨_, rfl, by decide, by decide, fun D fD => ?_⟩
          refine lc_range (n := 4) (fun _ H' => Same Hh H' ∧ H' D = some (.lst [])) ⟨same_new fD, upd_same⟩ ?_ ?_
          · rintro i2 H2 hi2 ⟨s2, hD⟩
            have M2 := Mh.same s2
            have x2' := M2.t1 i2 hi2
            have c2 := ct' i2 hi2
            refine ⟨rfl, ?_⟩
            refine ⟨_, rfl, _, rfl, a.so, _, _, _, rfl, rfl, SqL.of M2.so, at4 _ hi2, _, rfl, _, rfl, _, rfl, a.du, _, _, _, rfl, rfl, SqL.of M2.dl, at4 _ hi2, _, rfl, _, rfl, a.mn, _, _, _, rfl, rfl, SqL.of M2.mn, at4 _ hi2, ?_⟩
            refine ⟨(t' i2).tu, a.ot, dd' i2, (t' i2).rt, (t' i2).ot, (t' i2).hd, (t' i2).kp, (t' i2).ps, (t' i2).xs, xs, (t' i2).wd, (t' i2).c, (t' i2).gl.map V.str, ?_, x2'.tr, x2'.rl, x2'.ch, x2'.pa, ?_, M2.ho, fun y hy => (M2.mem hi2 y).mp hy, ?_, fun H3 s3 => ?_⟩
            · rw [List.length_map, ← c2.2]
              rfl
            · rw [List.length_map]
              have := M2.gb i2 hi2
              omega
            · rw [← c2.1]
              exact M2.due i2 hi2
            · exact ⟨true, rfl, iteF ⟨s2.trans s3, s3 _ _ hD⟩⟩
          rintro H6 ⟨y6, hD⟩
          refine ⟨Nat.zero_le _, fun e fe => ?_⟩
          have y7 := same_new (o := .lst []) fe
          refine ⟨.list [], .list [], Dp.lst (SqL.of (y7 _ _ hD)) .nil, Dp.lst (SqL.of upd_same) .nil, by decide, by decide, _, rfl, iteFE (by decide) ?_⟩
          have y07 := y6.trans y7
          exact ⟨_, _, _, t', dd', _, _, rfl, (Mh.same y07).weak (by omega), ct', Rh.same y07, Qh.same y07⟩
        · rintro σ Hc ⟨v10, v11, v12, t, dd, cd, cn, rfl, Mc, ct, _, _⟩
          rw [List.length_map] at Mc
          exact ⟨_, _, _, t, dd, cd, cn, rfl, (Mc.weak (by omega)).more (by omega), ct⟩
      · rintro σ' Hc ⟨v10, v11, v12, t, dd, cd, cn, rfl, Mc, ct⟩
        have im : 4 * i + 4 ≤ 100 := by omega
        refine ⟨_, rfl, _, rfl, _, rfl, a.so, a.ro, a.du, t, dd, xs, rfl, Mc.q4 (fun i hi => (ct i hi).1) im, fun Hd sd => ⟨true, rfl, iteF ?_⟩⟩
        exact ⟨_, _, _, _, _, t, dd, cd, cn, rfl, ((Mc.same sd).weak (by omega)).more (by omega), ct⟩
    · rintro σ Ha ⟨v8, v9, v10, v11, v12, t, dd, cd, cn, rfl, Ma, ct⟩
      clear M5
      have hn : 500000000 - 1000 * (6 + m) ≥ 100 := by omega
      -- one alone
      refine ⟨_, rfl, _, rfl, _, rfl, a.ot, _, rfl, .inr (SqT.of Ma.ho), a.h, 10, _, rfl, Ma.held.weak (by omega), by rw [List.length_map]; omega, by rw [List.length_map]; omega, fun r Hb r0 r1 heldb kb => ?_⟩
      rw [List.length_map] at r1
      have Mb := Ma.kept kb heldb
      obtain ⟨y, hy, hat⟩ := pick V.str r0 r1
      refine ⟨a.ot, _, _, _, rfl, rfl, SqT.of Mb.ho, hat, ?_⟩
      have xk := Mb.t1 0 (by decide)
      obtain ⟨dx, htu⟩ := id xk.tr
      refine ⟨_, rfl, a.so, _, _, _, rfl, rfl, SqL.of Mb.so, rfl, (t 0).tu, dx, _, rfl, htu, tr_no _ _ _ _ (by decide +kernel) (by decide +kernel) (by decide +kernel) (by decide +kernel), _, rfl, by show 1 ≤ sizeLine; decide, fun p fp => ?_⟩
      have sp1 := same_new (o := .lst [.str y]) fp
      have Fp : Fr a t p ([y].map V.str) _ := Mb.fr fp (upd_same : (upd Hb p (.lst [.str y])) p = _)
      have Mc := Mb.same sp1
      clear Mb xk htu
      generalize upd Hb p (.lst [.str y]) = Hc at sp1 Fp Mc ⊢
      have xk := Mc.t1 0 (by decide)
      have dy1 : DayOk xs [y] := ⟨by simp, by simp, fun z hz => by rw [List.mem_singleton] at hz; rw [hz]; exact hy, by show 1 ≤ _; omega⟩
      have dyk := dy1.by (Mc.sx 0 (by decide))
      have glen : (t 0).gl.length ≤ 1000 := by
        have := Mc.gb 0 (by decide)
        omega
      refine ⟨(t 0).tu, p, (t 0).rt, (t 0).ot, (t 0).hd, (t 0).kp, (t 0).ps, (t 0).xs, [y], (t 0).wd, (t 0).gl.length, (t 0).c, (t 0).gl.map V.str, (t 0).md, rfl, xk.tr, xk.rl, xk.ch, xk.ck, glen, Fp.e, dyk, Mc.tb, xk.pa, by rw [List.length_map]; exact glen, Fp.s 0 (by decide), fun Hd hd' kp' y2 md' kT t2 hy2 dv2 tr2 ch2 ck2 pa2 => ?_⟩
      obtain rfl : y2 = y := List.mem_singleton.mp hy2
      have Md := Mc.ride (by decide : 0 < 4) dyk kT t2 tr2 ch2 ck2 pa2
      refine ⟨_, rfl, rfl, _, rfl, iteFE (by simp) ?_⟩
      obtain ⟨dx2, htu2⟩ := tr2
      refine ⟨_, rfl, a.so, _, _, _, rfl, rfl, SqL.of Md.so, rfl, (t 0).tu, dx2, _, rfl, htu2, (t 0).tu, (t 0).rt, hd', kp', (t 0).ps, _, rfl, ⟨dx2, htu2⟩, pa2, (t 0).gl.length + 1, by rw [List.length_append, List.length_map]; rfl, by omega, ?_⟩
      refine ⟨_, rfl, a.mn, _, _, _, rfl, rfl, SqL.of Md.mn, rfl, _, _, rfl, rfl, rfl, _, rfl, iteFE ?_ ?_⟩
      · rw [(ct 0 (by decide)).2]
        have : (((t 0).gl.length + 1 : Nat) : Int) = ((t 0).gl.length : Int) + 1 := by omega
        rw [this]
        simp
      · refine ⟨_, rfl, _, rfl, _, rfl, a.so, a.ro, a.du, _, dd, xs, rfl, Md.q4 (fun i hi => ?_) (by omega), fun He _ => hQ He⟩
        unfold upA
        split
        · rename_i e
          subst e
          show _ = nxt [y2] y2 (t 0).c
          rw [nxt_one]
          exact (ct 0 (by decide)).1
        · exact (ct i hi).1
end
end K32
set_option Elab.async false
set_option linter.all false
set_option maxRecDepth 100000
set_option maxHeartbeats 4000000
/-! GET: a law's end by a promise that is asked only where no repr is under way, with tables of lambdas. -/
namespace GL
open PySem PySem.Spec PyProof.Rows L2
open LamX (TabB)
theorem lawTG {P : Program} {w : World} {K : PySem.W.Frag} {mg mb : Str → Option Value} {k : Nat} {fa a : Addr} {ts : List (Addr × Addr)} {fd : FuncData} {x : Str} {sp : Sp} {s₁ : Shared} {vs : List Value} {ns : List Int}
    (KX : K.In s₁.heap) (hns : s₁.heap.Ns mainGlobals mg) (hb : s₁.heap.Ns builtinsNs mb) (hbb : ∀ x : Str, x ≠ "__name__" → mb x = bootBuiltins x) (hlim : s₁.heap.NoLimit) (hg : s₁.gens = #[])
    (tabs : ∀ t ∈ ts, s₁.heap.get? t.2 = some { cls := .none, data := .fields #[] }) (outK : ∀ t ∈ ts, K.lookup t.2 = none) (codes : ∀ t ∈ ts, PySem.W.CodeHd s₁.heap t.1 t.2)
    (bmod : ∃ (bm : Addr) (ob : Obj), mg "__builtins__" = some (.ref bm) ∧ bm ≠ builtinsNs ∧ s₁.heap.get? bm = some ob ∧ ob.cls = .type "module" ∧ ob.dict = some builtinsNs ∧ ob.data = .plain)
    (ha : s₁.heap.get? a = some { cls := .type "list", data := .seq vs.toArray }) (hi : IntsAre vs ns) (hl : ns.length ≤ sizeLine) (hr : Room k callerA)
    (F : ∀ base : Heap, K.In base → base.Ns mainGlobals mg → (∀ t ∈ ts, TabB base mg t.1 t.2) → FnG P w K mg base k fa fd [x] sp) (hbind : ∀ (s : Shared) (u : Value), BindsTo s fd ⟨[u], []⟩ [(x, u)])
    (hsp : ∀ H : Hp, (∀ t ∈ ts, H t.2 = some (.tbl #[])) → SqL K H a (ns.map V.int) → sp [.ref a] H (fun v _ => v = .bl true) fun _ _ _ => False) :
    codeAny (model P w) callerA (.call (.ref fa) ⟨[.ref a], []⟩) (fun r s' => r = .ok (.ret (.bool true)) ∧ OldK s₁.heap s'.heap ∧ s'.os = s₁.os ∧ AllBare s'.gens) s₁ := by
  have noT : ∀ t ∈ ts, t.2 ≠ a := fun t ht z => by
    have e := tabs t ht
    rw [z, ha] at e
    have e2 := congrArg Obj.data (Option.some.inj e)
    cases e2
  have from_ : ∀ H : Hp, (∀ t ∈ ts, H t.2 = some (.tbl #[])) → SqL K H a (ns.map V.int) → HOk P w H s₁.heap → (∀ b u, H b = some u → (b = a ∧ K.lookup a = none ∧ ∃ o xs, u = .frz o (.lst xs)) ∨ ∃ t ∈ ts, t.2 = b ∧ u = .tbl #[]) →
      codeAny (model P w) callerA (.call (.ref fa) ⟨[.ref a], []⟩) (fun r s' => r = .ok (.ret (.bool true)) ∧ OldK s₁.heap s'.heap ∧ s'.os = s₁.os ∧ AllBare s'.gens) s₁ := by
    intro H hT hS hok hA
    have off : ∀ {b : Addr} {o : Obj}, s₁.heap.get? b = some o → (∀ ys n, o.data ≠ .seq ys n) → o.data ≠ .fields #[] → H b = none := fun {b o} e n1 n2 => by
      cases q : H b with
      | none => rfl
      | some u =>
        rcases hA b u q with ⟨rfl, _⟩ | ⟨t, ht, rfl, _⟩
        · rw [ha] at e
          cases e
          exact absurd rfl (n1 _ _)
        · rw [tabs t ht] at e
          cases e
          exact absurd rfl n2
    have nsK : ∀ {b : Addr} {m : Str → Option Value}, s₁.heap.Ns b m → (hidT s₁.heap H).Ns b m := by
      rintro b m ⟨o, es, ep, e, d, r⟩
      exact ⟨o, es, ep, hidT_get e (off e (fun ys n z => by rw [d] at z; cases z) (fun z => by rw [d] at z; cases z)), d, r⟩
    have inK : K.In (hidT s₁.heap H) := fun b o e => hidT_get (KX b o e) (by
      cases q : H b with
      | none => rfl
      | some u =>
        rcases hA b u q with ⟨rfl, n, _⟩ | ⟨t, ht, rfl, _⟩
        · rw [n] at e
          cases e
        · rw [outK t ht] at e
          cases e)
    have hM : Mod K mg (hidT s₁.heap H) := ⟨inK, nsK hns, ⟨mb, nsK hb, hbb⟩, by obtain ⟨mc, h1, h2⟩ := hlim; exact ⟨mc, nsK h1, h2⟩⟩
    have tb : ∀ t ∈ ts, TabB (hidT s₁.heap H) mg t.1 t.2 := fun t ht => by
      refine ⟨?_, ?_, fun z => ?_⟩
      · obtain ⟨o, us, c1, c2, c3, c4, c5, c6, c7, e, r1, r2, r3, r⟩ := codes t ht
        exact ⟨o, us, c1, c2, c3, c4, c5, c6, c7, hidT_get e (off e (fun ys n z => by rw [r2] at z; cases z) (fun z => by
          rw [r2] at z
          cases z
          simp at r3)), r1, r2, r3, r⟩
      · obtain ⟨bm, ob, b1, b2, b3, b4, b5, b6⟩ := bmod
        refine ⟨bm, ob, b1, b2, fun z => ?_, fun z => ?_, hidT_get b3 (off b3 (fun ys n z => by rw [b6] at z; cases z) (fun z => by rw [b6] at z; cases z)), b4, b5, b6⟩
        · obtain ⟨o, es, ep, e, d, _⟩ := hns
          rw [← z, b3] at e
          cases e
          rw [b6] at d
          cases d
        · rw [z, tabs t ht] at b3
          cases b3
          cases b6
      · obtain ⟨o, es, ep, e, d, _⟩ := hns
        rw [z, tabs t ht] at e
        cases e
        cases d
    have nofr : ∀ b : Addr, b ∉ frs ([] : List Env) := fun b z => nomatch z
    have e0 : Env0 P w K mg (hidT s₁.heap H) callerA [] s₁ H := ⟨rfl, hM, fun b o e => of_hidT e, Nat.le_of_eq (hidT_size _ _), trivial, fun b z => absurd z (nofr b), hok, .of_eq hg⟩
    refine codeAny_mono ((F _ inK (nsK hns) tb).run callerA [] s₁ H ⟨[.ref a], []⟩ [.ref a] [.ref a] _ _ rfl hr e0 (hbind s₁ (.ref a)) (.cons rfl .nil) (hsp H hT hS)) fun r s' h => ?_
    match r, h with
    | .error e, h => exact False.elim h
    | .ok .next, h => exact False.elim h
    | .ok .brk, h => exact False.elim h
    | .ok .cont, h => exact False.elim h
    | .ok (.ret u), ⟨v, H', os, bare, un, hok', r', q⟩ =>
      cases (show v = .bl true from q)
      cases (show u = Value.bool true from r')
      have more : ∀ t ∈ ts, ∃ ps : Array Value, s'.heap.get? t.2 = some { cls := .none, data := .fields ps } := fun t ht => by
        obtain ⟨ps, z⟩ := un.tbls t.2 #[] (hT t ht)
        exact ⟨_, hok' t.2 _ z⟩
      have stays : ∀ b o, (∀ t ∈ ts, t.2 ≠ b) → s₁.heap.get? b = some o → s'.heap.get? b = some o := fun b o nt e => by
        cases q : H b with
        | none => exact un.keep b o e q (nofr b) (by simp)
        | some u =>
          rcases hA b u q with ⟨_, _, ob, xs, rfl⟩ | ⟨t, ht, z, _⟩
          · have e1 := (hok b _ q).1
            have e2 := (hok' b _ (un.frzs b ob _ q)).1
            rw [e] at e1
            cases e1
            exact e2
          · exact absurd z (nt t ht)
      refine ⟨rfl, ⟨fun b o e => ?_, fun b o e => ?_⟩, os, bare⟩
      · by_cases q : ∃ t ∈ ts, t.2 = b
        · obtain ⟨t, ht, rfl⟩ := q
          obtain ⟨ps, hp⟩ := more t ht
          rw [tabs t ht] at e
          cases e
          exact .inr (.inl ⟨((codes t ht).tab (tabs t ht)).isCodeTable, rfl, #[], ps, rfl, by rw [Array.empty_append]; exact hp⟩)
        · exact .inl (stays b o (fun t ht z => q ⟨t, ht, z⟩) e)
      · by_cases q : ∃ t ∈ ts, t.2 = b
        · obtain ⟨t, ht, rfl⟩ := q
          obtain ⟨ps, hp⟩ := more t ht
          exact ⟨_, hp⟩
        · exact ⟨o, stays b o (fun t ht z => q ⟨t, ht, z⟩) e⟩
  have rv := vals_ints hi
  have dec : ∀ b : Addr, Decidable (∃ t ∈ ts, t.2 = b) := fun b => Classical.propDecidable _
  cases hk : K.lookup a with
  | some o =>
    have e := KX a o hk
    rw [ha] at e
    cases e
    refine from_ (fun b => @ite _ (∃ t ∈ ts, t.2 = b) (dec b) (some (.tbl #[])) none) (fun t ht => if_pos ⟨t, ht, rfl⟩) (.inr ⟨_, vs.toArray, _, hk, rfl, rfl, rfl, by rw [List.size_toArray, hi.length]; exact hl, by simpa using rv⟩) (fun b u z => ?_) (fun b u z => ?_)
    · by_cases q : ∃ t ∈ ts, t.2 = b
      · have z2 := (if_pos q).symm.trans z
        cases z2
        obtain ⟨t, ht, rfl⟩ := q
        exact tabs t ht
      · have z2 := (if_neg q).symm.trans z
        cases z2
    · by_cases q : ∃ t ∈ ts, t.2 = b
      · have z2 := (if_pos q).symm.trans z
        cases z2
        obtain ⟨t, ht, e⟩ := q
        exact .inr ⟨t, ht, e, rfl⟩
      · have z2 := (if_neg q).symm.trans z
        cases z2
  | none =>
    have pick : ∀ (b : Addr) (u : HO), (if b = a then some (HO.frz { cls := .type "list", data := .seq vs.toArray } (.lst (ns.map V.int))) else @ite _ (∃ t ∈ ts, t.2 = b) (dec b) (some (.tbl #[])) none) = some u → (b = a ∧ u = HO.frz { cls := .type "list", data := .seq vs.toArray } (.lst (ns.map V.int))) ∨ ∃ t ∈ ts, t.2 = b ∧ u = .tbl #[] := fun b u z => by
      by_cases h : b = a
      · rw [if_pos h] at z
        exact .inl ⟨h, (Option.some.inj z).symm⟩
      · rw [if_neg h] at z
        by_cases q : ∃ t ∈ ts, t.2 = b
        · rw [if_pos q] at z
          obtain ⟨t, ht, e⟩ := q
          exact .inr ⟨t, ht, e, (Option.some.inj z).symm⟩
        · rw [if_neg q] at z
          cases z
    refine from_ (fun b => if b = a then some (HO.frz { cls := .type "list", data := .seq vs.toArray } (.lst (ns.map V.int))) else @ite _ (∃ t ∈ ts, t.2 = b) (dec b) (some (.tbl #[])) none) (fun t ht => ?_) (.inl (.inr ⟨{ cls := .type "list", data := .seq vs.toArray }, if_pos rfl⟩)) (fun b u z => ?_) (fun b u z => ?_)
    · show (if t.2 = a then _ else _) = _
      rw [if_neg (noT t ht)]
      exact if_pos ⟨t, ht, rfl⟩
    · rcases pick b u z with ⟨rfl, rfl⟩ | ⟨t, ht, rfl, rfl⟩
      · exact ⟨ha, by rw [List.length_map]; exact hl, vs, _, rv, ha⟩
      · exact tabs t ht
    · rcases pick b u z with ⟨rfl, rfl⟩ | ⟨t, ht, e, rfl⟩
      · exact .inl ⟨rfl, hk, _, _, rfl⟩
      · exact .inr ⟨t, ht, e, rfl⟩
/-- a law: F gives the written part, the function object, the tables, the promise over every base -/
theorem walkTG {l : PySem.W.OpenLaw} {n k : Nat} {q : Program} {loose : List Str} {XP : (Str → Option Value) → Heap → Prop} {YP : World → Heap → Prop} {d : DefRec} {x : Str} (hn : l.most = some n) (hn2 : n ≤ sizeLine) (hdf : d.params.defaults = []) (hr : Room k callerA)
    (F : ∀ (w : World) (mg : Str → Option Value) (fa : Addr) (h : Heap), YP w h → h.Ns mainGlobals mg → mg d.name = some (.ref fa) →
      ∃ K : PySem.W.Frag, K.In h ∧ ∃ (fd : FuncData) (ts : List (Addr × Addr)) (sp : Sp), (∀ t ∈ ts, h.get? t.2 = some { cls := .none, data := .fields #[] }) ∧ (∀ t ∈ ts, K.lookup t.2 = none) ∧ (∀ t ∈ ts, PySem.W.CodeHd h t.1 t.2) ∧ (∀ (s : Shared) (u : Value), BindsTo s fd ⟨[u], []⟩ [(x, u)]) ∧
        (∀ (H : Hp) (a : Addr) (ns : List Int), ns.length ≤ n → (∀ t ∈ ts, H t.2 = some (.tbl #[])) → SqL K H a (ns.map V.int) → sp [.ref a] H (fun v _ => v = .bl true) fun _ _ _ => False) ∧
        ∀ base : Heap, K.In base → base.Ns mainGlobals mg → (∀ t ∈ ts, TabB base mg t.1 t.2) → FnG l.prog w K mg base k fa fd [x] sp) : PySem.W.WalkO q loose XP YP l.row.toRowW d [] (fun f vs => PySem.call f vs) := by
  refine Att.attach_call hn hdf fun w s₀ s₁ mg mb fa o pm cd doc a vs ns G Y ho hd hcd hmg hobj hints hlen hg => ?_
  obtain ⟨K, KX, fd, ts, sp, tabs, outK, codes, hb, hsp, hF⟩ := F w mg fa _ Y G.T.g hmg
  exact lawTG KX G.T.g G.T.b G.T.builtins G.T.nolimit hg tabs outK codes G.T.bmain hobj hints (Nat.le_trans hlen hn2) hr hF hb fun H hT hS => hsp H a ns hlen hT hS
end GL
set_option Elab.async false
set_option linter.all false
set_option maxRecDepth 100000
set_option maxHeartbeats 4000000
namespace K32
open PySem PySem.Spec PyProof.Rows L2
/-! what the head asks of Share and Turns -/
def xkP (K : PySem.W.Frag) (C : Addr) : Bool := GX.isB K C && OWQ.ts7.all fun T => decide (PySem.W.kitOne K (.type T) (.ref C) = some false)
def xk1 (K : PySem.W.Frag) : Bool := xkP K (He.ga K "Share") && (xkP K (He.ga K "Turns") && OWQ.ocB K (He.ga K "Turns"))
theorem xkP_ok {K : PySem.W.Frag} {C : Addr} (h : xkP K C = true) : IsP K C := by
  unfold xkP at h
  obtain ⟨h1, h3⟩ := Bool.and_eq_true_iff.mp h
  unfold GX.isB at h1
  simp only [Bool.and_eq_true, decide_eq_true_eq] at h1
  exact ⟨He.eqO_ok h1.1, He.eqO_ok h1.2.1, h1.2.2.1, h1.2.2.2, by unfold PySem.W.kitOne; rw [if_pos (beq_self_eq_true _)], fun T hT => of_decide_eq_true (List.all_eq_true.mp h3 T hT)⟩
theorem xk_ok {K : PySem.W.Frag} (h : xk1 K = true) : IsP K (He.ga K "Share") ∧ IsP K (He.ga K "Turns") ∧ OWQ.OwnC K (He.ga K "Turns") := by
  unfold xk1 at h
  obtain ⟨h1, h⟩ := Bool.and_eq_true_iff.mp h
  obtain ⟨h2, h3⟩ := Bool.and_eq_true_iff.mp h
  exact ⟨xkP_ok h1, xkP_ok h2, OWQ.ocB_ok h3⟩
end K32
set_option Elab.async false
set_option linter.all false
set_option maxRecDepth 100000
set_option maxHeartbeats 0
namespace K32
open PySem PySem.Spec PyProof.Rows L2
open C8 (Cal Mak Met pe_c pe_mk pe_mt pe_mt0)
def fa : List He.Fa := [.glo "is_whole", .glo "is_between", .glo "is_name", .glo "is_order", .glo "is_rule", .glo "common_part", .glo "names_of", .glo "first_memory", .glo "least_driver", .glo "driver_by", .glo "parts_behind", .glo "line_behind", .glo "rounds_behind", .glo "memory_behind", .glo "_law_held", .glo "_law_draw", .glo "_law_names", .glo "_law_low", .glo "_law_add", .glo "_law_pair", .glo "_law_day", .glo "_law_rule", .glo "_law_gone", .glo "_law_memory", .glo "_law_right", .glo "_law_equal_right", .glo "law", .free "isinstance", .free "int", .free "bool", .free "abs", .free "list", .free "range", .free "len", .free "str", .free "all", .free "tuple", .free "set", .free "zip", .free "min", .free "enumerate", .free "dict", .free "sorted", .free "repr", .glo "Share", .cls "Share", .mkr "Share", .glo "Turns", .cls "Turns", .mkr "Turns", .noat "Share" "top", .noat "Share" "bottom", .noat "Turns" "rule", .noat "Turns" "held", .noat "Turns" "kept", .noat "Turns" "past", .meth "Turns" "check_riders", .meth "Turns" "who", .meth "Turns" "ride", .meth "Turns" "stands", .meth "Turns" "memory", .meth "Turns" "__len__", .meth "Turns" "__eq__", .int "LONGEST_NAME" 8, .int "MOST_NAMES" 8, .int "MOST_GRAIN" 1000, .int "RIDE_PARTS" 840]
def xk (K : PySem.W.Frag) : Bool := (xk1) K
abbrev R : PySem.W.OpenRow := PySem.W.OpenLaw.row PySem.Challenge.rw_rideturns_k32_turns_beside_turns
def tf : List He.Defn := [("least_driver", none)]
abbrev hk : PySem.W.Hook := He.hookX 6 fa fn [] tf xk
def ob (s : PySem.W.SharedT) : He.AlX := He.obsX 6 fa fn [] tf xk (HandSHeadRun.getT s)
theorem ob_eq (s : PySem.W.SharedT) : ob s = hk.obs s.abs := He.obsX_eq (HandSHeadRun.getT_eq s)
abbrev loose : List Str := [("_wall" : Str), ("NoKind" : Str), ("Nought" : Str), ("NoName" : Str), ("NoRule" : Str), ("LONGEST_NAME" : Str), ("is_whole" : Str), ("is_between" : Str), ("is_name" : Str), ("MOST_NAMES" : Str), ("MOST_GRAIN" : Str), ("is_order" : Str), ("is_rule" : Str), ("common_part" : Str), ("Share" : Str), ("RIDE_PARTS" : Str), ("names_of" : Str), ("first_memory" : Str), ("least_driver" : Str), ("driver_by" : Str), ("parts_behind" : Str), ("line_behind" : Str), ("rounds_behind" : Str), ("memory_behind" : Str), ("Turns" : Str), ("_law_held" : Str), ("_law_draw" : Str), ("_law_names" : Str), ("_law_low" : Str), ("_law_add" : Str), ("_law_pair" : Str), ("_law_day" : Str), ("_law_rule" : Str), ("_law_gone" : Str), ("_law_memory" : Str), ("_law_right" : Str), ("_law_equal_right" : Str)]
theorem run_ (w : World) : HandSHeadRun.RunEq R (PySem.W.view R.prog [43]) hk ob 8000 loose w := by
  intro os
  kernel_rfl
theorem cal_of {P : Program} {w : World} {K : PySem.W.Frag} {mg : Str → Option Value} {base : Heap} {f : Addr} {fd : FuncData} {ps : List Str} {k : Nat} {x : Str} {sp : Sp} (F : FnOk P w K mg base CX0 k f fd ps sp) (g : mg x = some (.ref f)) (kp : PySem.W.keepIn K (.ref f) = true) (b : Binds K fd ps []) : Cal P w K mg base k x sp [] :=
  ⟨f, fd, ps, [], F, g, kp, b, .nil⟩
theorem met_of {P : Program} {w : World} {K : PySem.W.Frag} {mg : Str → Option Value} {base : Heap} {f C : Addr} {fd : FuncData} {ps : List Str} {k : Nat} {m : Str} {sp : Sp} (c : Cls K C) (h : Meth K C m f) (F : FnOk P w K mg base CX0 k f fd ps sp) (b : Binds K fd ps []) : Met P w K mg base k C m sp [] :=
  ⟨f, fd, ps, [], c, h, F, b, .nil⟩
theorem facts {P : Program} {w : World} {K : PySem.W.Frag} {h h0 : Heap} {mg : Str → Option Value} {f : Addr} (X : K.In h) (G : h.Ns mainGlobals mg) (hfa : mg ("law" : Str) = some (.ref f)) (c : He.SaysX fa fn [] tf xk w h0 K) :
    ∃ fd : FuncData, (∀ (s : Shared) (v : Value), BindsTo s fd ⟨[v], []⟩ [("_law_script", v)]) ∧ ∀ base : Heap, K.In base → base.Ns mainGlobals mg → LamX.TabB base mg (He.cT K ("least_driver", none)).1 (He.cT K ("least_driver", none)).2 → GL.FnG P w K mg base 7 f fd ["_law_script"] (spLaw K) := by
  have d := c.t.d
  have x := c.more
  have gl : ∀ (i : Nat) (x : Str), fa[i]? = some (.glo x) → mg x = some (.ref (He.ga K x)) := fun i x e => He.glo_ok X G (d.fact i e)
  have fr : ∀ (i : Nat) (x : Str), fa[i]? = some (.free x) → mg x = none := fun i x e => He.free_ok X G (d.fact i e)
  have me : ∀ (i : Nat) (C m : Str), fa[i]? = some (.meth C m) → Meth K (He.ga K C) m (He.ma K (He.ga K C) m) := fun i C m e => He.meth_ok (d.fact i e)
  have gl_is_whole := gl 0 "is_whole" rfl
  have gl_is_between := gl 1 "is_between" rfl
  have gl_is_name := gl 2 "is_name" rfl
  have gl_is_order := gl 3 "is_order" rfl
  have gl_is_rule := gl 4 "is_rule" rfl
  have gl_common_part := gl 5 "common_part" rfl
  have gl_names_of := gl 6 "names_of" rfl
  have gl_first_memory := gl 7 "first_memory" rfl
  have gl_least_driver := gl 8 "least_driver" rfl
  have gl_driver_by := gl 9 "driver_by" rfl
  have gl_parts_behind := gl 10 "parts_behind" rfl
  have gl_line_behind := gl 11 "line_behind" rfl
  have gl_rounds_behind := gl 12 "rounds_behind" rfl
  have gl_memory_behind := gl 13 "memory_behind" rfl
  have gl__law_held := gl 14 "_law_held" rfl
  have gl__law_draw := gl 15 "_law_draw" rfl
  have gl__law_names := gl 16 "_law_names" rfl
  have gl__law_low := gl 17 "_law_low" rfl
  have gl__law_add := gl 18 "_law_add" rfl
  have gl__law_pair := gl 19 "_law_pair" rfl
  have gl__law_day := gl 20 "_law_day" rfl
  have gl__law_rule := gl 21 "_law_rule" rfl
  have gl__law_gone := gl 22 "_law_gone" rfl
  have gl__law_memory := gl 23 "_law_memory" rfl
  have gl__law_right := gl 24 "_law_right" rfl
  have gl__law_equal_right := gl 25 "_law_equal_right" rfl
  have gl_law := gl 26 "law" rfl
  have fr_isinstance := fr 27 "isinstance" rfl
  have fr_int := fr 28 "int" rfl
  have fr_bool := fr 29 "bool" rfl
  have fr_abs := fr 30 "abs" rfl
  have fr_list := fr 31 "list" rfl
  have fr_range := fr 32 "range" rfl
  have fr_len := fr 33 "len" rfl
  have fr_str := fr 34 "str" rfl
  have fr_all := fr 35 "all" rfl
  have fr_tuple := fr 36 "tuple" rfl
  have fr_set := fr 37 "set" rfl
  have fr_zip := fr 38 "zip" rfl
  have fr_min := fr 39 "min" rfl
  have fr_enumerate := fr 40 "enumerate" rfl
  have fr_dict := fr 41 "dict" rfl
  have fr_sorted := fr 42 "sorted" rfl
  have fr_repr := fr 43 "repr" rfl
  have gl_Share := gl 44 "Share" rfl
  have cls_Share := He.cls_ok (d.fact 45 (f := .cls "Share") rfl)
  have mk_Share := He.mkr_ok (d.fact 46 (f := .mkr "Share") rfl)
  have gl_Turns := gl 47 "Turns" rfl
  have cls_Turns := He.cls_ok (d.fact 48 (f := .cls "Turns") rfl)
  have mk_Turns := He.mkr_ok (d.fact 49 (f := .mkr "Turns") rfl)
  have no_Share_top := He.noat_ok (d.fact 50 (f := .noat "Share" "top") rfl)
  have no_Share_bottom := He.noat_ok (d.fact 51 (f := .noat "Share" "bottom") rfl)
  have no_Turns_rule := He.noat_ok (d.fact 52 (f := .noat "Turns" "rule") rfl)
  have no_Turns_held := He.noat_ok (d.fact 53 (f := .noat "Turns" "held") rfl)
  have no_Turns_kept := He.noat_ok (d.fact 54 (f := .noat "Turns" "kept") rfl)
  have no_Turns_past := He.noat_ok (d.fact 55 (f := .noat "Turns" "past") rfl)
  have me_Turns_check_riders := me 56 "Turns" "check_riders" rfl
  have me_Turns_who := me 57 "Turns" "who" rfl
  have me_Turns_ride := me 58 "Turns" "ride" rfl
  have me_Turns_stands := me 59 "Turns" "stands" rfl
  have me_Turns_memory := me 60 "Turns" "memory" rfl
  have me_Turns_len := me 61 "Turns" "__len__" rfl
  have me_Turns_eq := me 62 "Turns" "__eq__" rfl
  have val_LONGEST_NAME := He.int_ok X G (d.fact 63 (f := .int "LONGEST_NAME" 8) rfl)
  have val_MOST_NAMES := He.int_ok X G (d.fact 64 (f := .int "MOST_NAMES" 8) rfl)
  have val_MOST_GRAIN := He.int_ok X G (d.fact 65 (f := .int "MOST_GRAIN" 1000) rfl)
  have val_RIDE_PARTS := He.int_ok X G (d.fact 66 (f := .int "RIDE_PARTS" 840) rfl)
  obtain ⟨fd_is_whole, D_is_whole⟩ := d.def_ 5 (d := d_is_whole) rfl
  obtain ⟨fd_is_between, D_is_between⟩ := d.def_ 6 (d := d_is_between) rfl
  obtain ⟨fd_is_name, D_is_name⟩ := d.def_ 7 (d := d_is_name) rfl
  obtain ⟨fd_is_order, D_is_order⟩ := d.def_ 8 (d := d_is_order) rfl
  obtain ⟨fd_is_rule, D_is_rule⟩ := d.def_ 9 (d := d_is_rule) rfl
  obtain ⟨fd_common_part, D_common_part⟩ := d.def_ 10 (d := d_common_part) rfl
  obtain ⟨fd_Share_init, D_Share_init⟩ := d.def_ 11 (d := d_Share_init) rfl
  obtain ⟨fd_names_of, D_names_of⟩ := d.def_ 21 (d := d_names_of) rfl
  obtain ⟨fd_first_memory, D_first_memory⟩ := d.def_ 22 (d := d_first_memory) rfl
  obtain ⟨fd_least_driver, D_least_driver⟩ := d.def_ 23 (d := d_least_driver) rfl
  obtain ⟨fd_driver_by, D_driver_by⟩ := d.def_ 24 (d := d_driver_by) rfl
  obtain ⟨fd_parts_behind, D_parts_behind⟩ := d.def_ 25 (d := d_parts_behind) rfl
  obtain ⟨fd_line_behind, D_line_behind⟩ := d.def_ 26 (d := d_line_behind) rfl
  obtain ⟨fd_rounds_behind, D_rounds_behind⟩ := d.def_ 27 (d := d_rounds_behind) rfl
  obtain ⟨fd_memory_behind, D_memory_behind⟩ := d.def_ 28 (d := d_memory_behind) rfl
  obtain ⟨fd_Turns_init, D_Turns_init⟩ := d.def_ 29 (d := d_Turns_init) rfl
  obtain ⟨fd_Turns_eq, D_Turns_eq⟩ := d.def_ 30 (d := d_Turns_eq) rfl
  obtain ⟨fd_Turns_len, D_Turns_len⟩ := d.def_ 31 (d := d_Turns_len) rfl
  obtain ⟨fd_Turns_check_riders, D_Turns_check_riders⟩ := d.def_ 32 (d := d_Turns_check_riders) rfl
  obtain ⟨fd_Turns_who, D_Turns_who⟩ := d.def_ 33 (d := d_Turns_who) rfl
  obtain ⟨fd_Turns_ride, D_Turns_ride⟩ := d.def_ 34 (d := d_Turns_ride) rfl
  obtain ⟨fd_Turns_stands, D_Turns_stands⟩ := d.def_ 35 (d := d_Turns_stands) rfl
  obtain ⟨fd_Turns_memory, D_Turns_memory⟩ := d.def_ 37 (d := d_Turns_memory) rfl
  obtain ⟨fd_l_held, D_l_held⟩ := d.def_ 38 (d := d_l_held) rfl
  obtain ⟨fd_l_draw, D_l_draw⟩ := d.def_ 39 (d := d_l_draw) rfl
  obtain ⟨fd_l_names, D_l_names⟩ := d.def_ 40 (d := d_l_names) rfl
  obtain ⟨fd_l_low, D_l_low⟩ := d.def_ 41 (d := d_l_low) rfl
  obtain ⟨fd_l_add, D_l_add⟩ := d.def_ 42 (d := d_l_add) rfl
  obtain ⟨fd_l_pair, D_l_pair⟩ := d.def_ 43 (d := d_l_pair) rfl
  obtain ⟨fd_l_day, D_l_day⟩ := d.def_ 44 (d := d_l_day) rfl
  obtain ⟨fd_l_rule, D_l_rule⟩ := d.def_ 45 (d := d_l_rule) rfl
  obtain ⟨fd_l_gone, D_l_gone⟩ := d.def_ 46 (d := d_l_gone) rfl
  obtain ⟨fd_l_memory, D_l_memory⟩ := d.def_ 47 (d := d_l_memory) rfl
  obtain ⟨fd_l_right, D_l_right⟩ := d.def_ 48 (d := d_l_right) rfl
  obtain ⟨fd_l_equal_right, D_l_equal_right⟩ := d.def_ 49 (d := d_l_equal_right) rfl
  obtain ⟨fd_law, D_law⟩ := d.def_ 50 (d := d_law) rfl
  have e := hfa.symm.trans gl_law
  cases e
  have bL := FunD.bindsA (ps := ["_law_script"]) D_law fun _ _ _ _ _ _ us hl => match us, hl with | [_], _ => rfl
  refine ⟨fd_law, fun s v => bL s [v] rfl, fun base _ _ TB => ?_⟩
  have b_is_whole : Binds K fd_is_whole ["thing"] [] := D_is_whole.bindsN fun _ _ _ _ _ _ us hl => match us, hl with | [_], _ => rfl
  have b_is_between : Binds K fd_is_between ["thing", "low", "high"] [] := D_is_between.bindsN fun _ _ _ _ _ _ us hl => match us, hl with | [_, _, _], _ => rfl
  have b_is_name : Binds K fd_is_name ["thing"] [] := D_is_name.bindsN fun _ _ _ _ _ _ us hl => match us, hl with | [_], _ => rfl
  have b_is_order : Binds K fd_is_order ["thing"] [] := D_is_order.bindsN fun _ _ _ _ _ _ us hl => match us, hl with | [_], _ => rfl
  have b_is_rule : Binds K fd_is_rule ["thing"] [] := D_is_rule.bindsN fun _ _ _ _ _ _ us hl => match us, hl with | [_], _ => rfl
  have b_common_part : Binds K fd_common_part ["one", "other"] [] := D_common_part.bindsN fun _ _ _ _ _ _ us hl => match us, hl with | [_, _], _ => rfl
  have b_Share_init : Binds K fd_Share_init ["self", "top", "bottom"] [] := by
    obtain ⟨ds, h1, h2⟩ := D_Share_init.binds1 (ps := ["self", "top", "bottom"]) 3 1 (List.cons_ne_nil _ _) rfl (fun T kV doc pm an cdv ct us its hl h1 => match us, hl, its, h1 with | [_, _, _], _, [_], _ => ⟨_, rfl, rfl⟩)
    cases h1
    exact h2
  obtain ⟨ds1_Share_init, v1_Share_init, b1_Share_init⟩ := D_Share_init.binds1 (ps := ["self", "top", "bottom"]) 2 0 (List.cons_ne_nil _ _) rfl (fun T kV doc pm an cdv ct us its hl h1 => match us, hl, its, h1 with | [_, _], _, [_], _ => ⟨_, rfl, rfl⟩)
  have b_names_of : Binds K fd_names_of ["order", "riders"] [] := D_names_of.bindsN fun _ _ _ _ _ _ us hl => match us, hl with | [_, _], _ => rfl
  have b_first_memory : Binds K fd_first_memory ["rule"] [] := D_first_memory.bindsN fun _ _ _ _ _ _ us hl => match us, hl with | [_], _ => rfl
  have b_least_driver : Binds K fd_least_driver ["rule", "held", "names"] [] := D_least_driver.bindsN fun _ _ _ _ _ _ us hl => match us, hl with | [_, _, _], _ => rfl
  have b_driver_by : Binds K fd_driver_by ["rule", "memory", "riders"] [] := D_driver_by.bindsN fun _ _ _ _ _ _ us hl => match us, hl with | [_, _, _], _ => rfl
  have b_parts_behind : Binds K fd_parts_behind ["order", "held", "riders", "driver"] [] := D_parts_behind.bindsN fun _ _ _ _ _ _ us hl => match us, hl with | [_, _, _, _], _ => rfl
  have b_line_behind : Binds K fd_line_behind ["line", "riders", "driver"] [] := D_line_behind.bindsN fun _ _ _ _ _ _ us hl => match us, hl with | [_, _, _], _ => rfl
  have b_rounds_behind : Binds K fd_rounds_behind ["order", "rounds", "riders"] [] := D_rounds_behind.bindsN fun _ _ _ _ _ _ us hl => match us, hl with | [_, _, _], _ => rfl
  have b_memory_behind : Binds K fd_memory_behind ["rule", "memory", "riders"] [] := D_memory_behind.bindsN fun _ _ _ _ _ _ us hl => match us, hl with | [_, _, _], _ => rfl
  have b_Turns_init : Binds K fd_Turns_init ["self", "rule"] [] := D_Turns_init.bindsN fun _ _ _ _ _ _ us hl => match us, hl with | [_, _], _ => rfl
  have b_Turns_eq : Binds K fd_Turns_eq ["self", "other"] [] := D_Turns_eq.bindsN fun _ _ _ _ _ _ us hl => match us, hl with | [_, _], _ => rfl
  have b_Turns_len : Binds K fd_Turns_len ["self"] [] := D_Turns_len.bindsN fun _ _ _ _ _ _ us hl => match us, hl with | [_], _ => rfl
  have b_Turns_check_riders : Binds K fd_Turns_check_riders ["self", "riders"] [] := D_Turns_check_riders.bindsN fun _ _ _ _ _ _ us hl => match us, hl with | [_, _], _ => rfl
  have b_Turns_who : Binds K fd_Turns_who ["self", "riders"] [] := D_Turns_who.bindsN fun _ _ _ _ _ _ us hl => match us, hl with | [_, _], _ => rfl
  have b_Turns_ride : Binds K fd_Turns_ride ["self", "riders"] [] := D_Turns_ride.bindsN fun _ _ _ _ _ _ us hl => match us, hl with | [_, _], _ => rfl
  have b_Turns_stands : Binds K fd_Turns_stands ["self"] [] := D_Turns_stands.bindsN fun _ _ _ _ _ _ us hl => match us, hl with | [_], _ => rfl
  have b_Turns_memory : Binds K fd_Turns_memory ["self"] [] := D_Turns_memory.bindsN fun _ _ _ _ _ _ us hl => match us, hl with | [_], _ => rfl
  have b_l_held : Binds K fd_l_held ["_law_script"] [] := D_l_held.bindsN fun _ _ _ _ _ _ us hl => match us, hl with | [_], _ => rfl
  have b_l_draw : Binds K fd_l_draw ["_law_held_here", "_law_many"] [] := D_l_draw.bindsN fun _ _ _ _ _ _ us hl => match us, hl with | [_, _], _ => rfl
  have b_l_names : Binds K fd_l_names ["_law_held_here", "_law_many"] [] := D_l_names.bindsN fun _ _ _ _ _ _ us hl => match us, hl with | [_, _], _ => rfl
  have b_l_low : Binds K fd_l_low ["_law_top", "_law_bottom"] [] := D_l_low.bindsN fun _ _ _ _ _ _ us hl => match us, hl with | [_, _], _ => rfl
  have b_l_add : Binds K fd_l_add ["_law_one", "_law_other"] [] := D_l_add.bindsN fun _ _ _ _ _ _ us hl => match us, hl with | [_, _], _ => rfl
  have b_l_pair : Binds K fd_l_pair ["_law_share"] [] := D_l_pair.bindsN fun _ _ _ _ _ _ us hl => match us, hl with | [_], _ => rfl
  have b_l_day : Binds K fd_l_day ["_law_held_here", "_law_order"] [] := D_l_day.bindsN fun _ _ _ _ _ _ us hl => match us, hl with | [_, _], _ => rfl
  have b_l_rule : Binds K fd_l_rule ["_law_held_here", "_law_order"] [] := D_l_rule.bindsN fun _ _ _ _ _ _ us hl => match us, hl with | [_, _], _ => rfl
  have b_l_gone : Binds K fd_l_gone ["_law_due", "_law_riders", "_law_driver"] [] := D_l_gone.bindsN fun _ _ _ _ _ _ us hl => match us, hl with | [_, _, _], _ => rfl
  have b_l_memory : Binds K fd_l_memory ["_law_turns"] [] := D_l_memory.bindsN fun _ _ _ _ _ _ us hl => match us, hl with | [_], _ => rfl
  have b_l_right : Binds K fd_l_right ["_law_one", "_law_order", "_law_due", "_law_many"] [] := D_l_right.bindsN fun _ _ _ _ _ _ us hl => match us, hl with | [_, _, _, _], _ => rfl
  have b_l_equal_right : Binds K fd_l_equal_right ["_law_some", "_law_rules", "_law_dues"] [] := D_l_equal_right.bindsN fun _ _ _ _ _ _ us hl => match us, hl with | [_, _, _], _ => rfl
  have b_law : Binds K fd_law ["_law_script"] [] := D_law.bindsN fun _ _ _ _ _ _ us hl => match us, hl with | [_], _ => rfl
  obtain ⟨SP, TP, OT⟩ := xk_ok x
  have IC : IsC K (He.ga K "Share") := ⟨SP.ha, SP.hn, SP.htk, SP.hm, SP.kit⟩
  have B : Bl mg := ⟨fr_isinstance, fr_int, fr_bool, fr_abs, fr_list, fr_range, fr_len⟩
  have B2 : Bl2 mg := ⟨fr_str, fr_all, fr_tuple, fr_set, fr_zip, fr_min, fr_enumerate⟩
  have T : Cl K mg (He.ga K "Share") := ⟨cls_Share, no_Share_top, no_Share_bottom, gl_Share⟩
  have TT : ClT K (He.ga K "Turns") := ⟨cls_Turns, no_Turns_rule, no_Turns_held, no_Turns_kept, no_Turns_past⟩
  have cW : CalW P w K mg base := cal_of (ok_whole D_is_whole B) gl_is_whole D_is_whole.kp b_is_whole
  have cBt : CalB P w K mg base := cal_of (ok_between D_is_between cW) gl_is_between D_is_between.kp b_is_between
  have cNa : CalN P w K mg base := cal_of (ok_name D_is_name B B2 val_LONGEST_NAME) gl_is_name D_is_name.kp b_is_name
  have cOr := cal_of (ok_order D_is_order B B2 val_MOST_NAMES cNa) gl_is_order D_is_order.kp b_is_order
  have cRu := cal_of (ok_rule D_is_rule B B2 val_MOST_GRAIN cOr cBt) gl_is_rule D_is_rule.kp b_is_rule
  have cG : CalG P w K mg base := cal_of (ok_gcd D_common_part B) gl_common_part D_common_part.kp b_common_part
  have MS : MakS P w K mg base (He.ga K "Share") := ⟨_, _, _, _, mk_Share, ok_init D_Share_init cW cG T, T.g, b_Share_init, .nil⟩
  have cNo := cal_of (P := P) (w := w) (base := base) (ok_no D_names_of B2) gl_names_of D_names_of.kp b_names_of
  have cFm := cal_of (P := P) (w := w) (base := base) (ok_fm D_first_memory B2) gl_first_memory D_first_memory.kp b_first_memory
  have cLd := cal_of (P := P) (w := w) (base := base) (ok_ld D_least_driver B2 val_RIDE_PARTS TB) gl_least_driver D_least_driver.kp b_least_driver
  have cDb := cal_of (ok_db D_driver_by cNo cLd) gl_driver_by D_driver_by.kp b_driver_by
  have cPb := cal_of (P := P) (w := w) (base := base) (ok_pb D_parts_behind B B2 val_RIDE_PARTS) gl_parts_behind D_parts_behind.kp b_parts_behind
  have cLb := cal_of (P := P) (w := w) (base := base) (ok_lb D_line_behind B B2) gl_line_behind D_line_behind.kp b_line_behind
  have cRb := cal_of (ok_rb D_rounds_behind B B2 fr_sorted cNo) gl_rounds_behind D_rounds_behind.kp b_rounds_behind
  have cMb := cal_of (ok_mb D_memory_behind cDb cPb cLb cRb) gl_memory_behind D_memory_behind.kp b_memory_behind
  have MT : Mak P w K mg base 4 "Turns" (He.ga K "Turns") (spTi (He.ga K "Turns")) [] := ⟨_, _, _, _, mk_Turns, ok_ti D_Turns_init B2 TT cRu cFm, gl_Turns, b_Turns_init, .nil⟩
  have mC := met_of (P := P) (w := w) (base := base) TT.cl me_Turns_check_riders (ok_ck D_Turns_check_riders B B2 TT) b_Turns_check_riders
  have mW := met_of TT.cl me_Turns_who (ok_who D_Turns_who TT mC cDb) b_Turns_who
  have mR := met_of TT.cl me_Turns_ride (ok_ride D_Turns_ride TT mW cPb cMb) b_Turns_ride
  have mS := met_of TT.cl me_Turns_stands (ok_st D_Turns_stands B2 TT val_RIDE_PARTS MS) b_Turns_stands
  have SL : OW.Spc P w K mg base 1 (He.ga K "Turns") "__len__" (spLen (He.ga K "Turns")) := ⟨_, _, _, me_Turns_len.at_, me_Turns_len.fn, ok_len D_Turns_len B TT, b_Turns_len⟩
  have cH := cal_of (P := P) (w := w) (base := base) (ok_held D_l_held B) gl__law_held D_l_held.kp b_l_held
  have cD : CalD P w K mg base := cal_of (ok_draw D_l_draw B) gl__law_draw D_l_draw.kp b_l_draw
  have cNm := cal_of (ok_names D_l_names B cD) gl__law_names D_l_names.kp b_l_names
  have cLo : CalL P w K mg base := cal_of (ok_low D_l_low B) gl__law_low D_l_low.kp b_l_low
  have cA := cal_of (ok_add D_l_add cLo) gl__law_add D_l_add.kp b_l_add
  have cP := cal_of (P := P) (w := w) (base := base) (ok_pair D_l_pair B T IC) gl__law_pair D_l_pair.kp b_l_pair
  have cDy := cal_of (ok_day D_l_day B fr_min cD) gl__law_day D_l_day.kp b_l_day
  have cRl := cal_of (ok_rl D_l_rule cD) gl__law_rule D_l_rule.kp b_l_rule
  have mMo := met_of TT.cl me_Turns_memory (ok_mo D_Turns_memory B2 TT val_RIDE_PARTS MS) b_Turns_memory
  have TE : OW.Spc P w K mg base 1 (He.ga K "Turns") "__eq__" (spTE K (He.ga K "Turns")) := ⟨_, _, _, me_Turns_eq.at_, me_Turns_eq.fn, ok_te D_Turns_eq B TT gl_Turns TP, b_Turns_eq⟩
  have cGn := cal_of (P := P) (w := w) (base := base) (ok_gn D_l_gone B fr_dict cA) gl__law_gone D_l_gone.kp b_l_gone
  have cMy := cal_of (P := P) (w := w) (base := base) (ok_my D_l_memory B T SP mMo cP) gl__law_memory D_l_memory.kp b_l_memory
  have cR := cal_of (P := P) (w := w) (base := base) (ok_rt D_l_right B mS SL cP) gl__law_right D_l_right.kp b_l_right
  have cEr : GL.CalG P w K mg base 6 "_law_equal_right" (spEr (He.ga K "Turns")) [] := ⟨_, _, _, _, ok_er D_l_equal_right B fr_repr cMy TE OT, gl__law_equal_right, D_l_equal_right.kp, b_l_equal_right, .nil⟩
  exact ok_law D_law B B2 fr_dict cH cD cNm cDy cRl cGn cR cEr MT mW mR SL
end K32
open PySem PySem.W PySem.Calls PyProof.Rows
set_option maxRecDepth 100000 in
set_option maxHeartbeats 0 in
theorem PySem.Challenge.cw_rideturns_k32_turns_beside_turns_holds : PySem.Challenge.rw_rideturns_k32_turns_beside_turns.Holds := by
  w_on; o_law
  refine HandSHeadRun.head_any (r := OpenLaw.row PySem.Challenge.rw_rideturns_k32_turns_beside_turns) (q := view (OpenLaw.row PySem.Challenge.rw_rideturns_k32_turns_beside_turns).prog [43]) (H := K32.hk) (ob := K32.ob) (M := 8000) (loose := K32.loose) (d := HandSHeadRun.topDef (OpenLaw.row PySem.Challenge.rw_rideturns_k32_turns_beside_turns).prog 43) (kwd := []) K32.ob_eq
    (by kernel_rfl) (fun s => by kernel_rfl) K32.run_ (by kernel_rfl) (by kernel_rfl) (by kernel_rfl) (by rfl) (by first | assumption | decide +kernel) (by decide +kernel) ⟨rfl, rfl, rfl, rfl, rfl, by decide +kernel⟩ ?hw ?hc
  case hw => w_witness2
  case hc =>
    refine GL.walkTG (l := PySem.Challenge.rw_rideturns_k32_turns_beside_turns) (n := 63) (k := 7) (x := "_law_script") rfl (by decide) (by kernel_rfl) ⟨rfl, by decide, by decide⟩ ?F
    intro w mg fa h Y G hmg0
    obtain ⟨K, KX, c⟩ := Y
    have hmg : mg ("law" : PySem.Str) = some (.ref fa) := by
      have e : (HandSHeadRun.topDef (OpenLaw.row PySem.Challenge.rw_rideturns_k32_turns_beside_turns).prog 43).name = ("law" : PySem.Str) := by kernel_rfl
      rw [← e]
      exact hmg0
    obtain ⟨fd, hb, hF⟩ := K32.facts (P := (PySem.Challenge.rw_rideturns_k32_turns_beside_turns).prog) (w := w) KX G hmg c
    refine ⟨K, KX, fd, [He.cT K ("least_driver", none)], K32.spLaw K, fun p hp => ?_, fun p hp => ?_, fun p hp => ?_, hb, fun H a ns hl hT hS => ⟨a, ns, rfl, hS, hl, fun p hp => ?_, fun _ => rfl⟩, fun base k1 k2 TB => hF base k1 k2 (TB _ (List.mem_singleton.mpr rfl))⟩
    · rw [List.mem_singleton.mp hp]
      exact c.empty _ (List.mem_singleton.mpr rfl)
    · rw [List.mem_singleton.mp hp]
      exact c.out _ (List.mem_singleton.mpr rfl)
    · rw [List.mem_singleton.mp hp]
      exact PySem.W.codeHd_of_K KX (c.hd _ (List.mem_singleton.mpr rfl))
    · rw [List.mem_singleton.mp hp]
      exact LamX.TabS.nil (hT _ (List.mem_singleton.mpr rfl))
